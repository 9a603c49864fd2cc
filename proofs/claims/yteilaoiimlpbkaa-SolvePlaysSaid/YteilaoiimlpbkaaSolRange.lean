/- A loop over a function that hands out values one behind the other, where each round may write what the iterator has read. -/
import Derived.Test.YteilaoiimlpbkaaSolMem
import Derived.RangeFuncNested
import Derived.RangeFuncBound
import Derived.RangeFuncCalls
import Derived.RangeFuncLeaves
import Derived.Shelf.RegionOpen
import Derived.OwnWalkIn
import Derived.TacticsInMore
import Derived.LoopNIn
import Derived.LoopIn
namespace Go.Proofs.Yteilaoiimlpbkaa
open Go.RowKit

/-- an iterator that hands out x 0, x 1, .., x (N - 1), whatever a round does that leads from J k to J (k + 1); Inv: what it reads there -/
def Hands (F : Fence) (n : Nat) (g : Nat) (lb : Array Value) (x : Nat → Array Value) (N : Nat) (Inv : Nat → World → Prop) : Prop :=
  ∀ (l : Nat) (J : Nat → World → Prop) (W : World), (∀ k V, J k V → Inv k V) →
    (∀ k V, k < N → J k V → YieldAt F (n - 1) Try.prog l (x k) V fun e V' => e = .returned (.bool true) ∧ J (k + 1) V') →
    J 0 W → CallsIn F n Try.prog g (#[.func (.yield l) #[] #[]] ++ lb) W fun e V' => (∃ v, e = .returned v) ∧ J N V'
/-- how a round's body ends: it goes on -/
def GoesOn (I : World → Prop) (W : World) : Exit → Act → World → Prop
  | .normal, _, W' => KeepsOthers W W' ∧ I W'
  | _, _, _ => False
theorem below_put {B l : Nat} (V : World) (o : Obj) (h : B ≤ l) : Below B V (V.putObj l o) :=
  ⟨rfl, rfl, rfl, by simp, fun k hk => World.putObj_heap_other (by omega)⟩
theorem wpIn_hands {F : Fence} {n : Nat} {g : Operand} {ps : Array Tmp} {assign body : Code} {Q : Exit → Act → World → Prop} {a : Act} {w : World} (hro : F.round = none) (h1 : 1 ≤ n)
    {gf : Nat} {lb : Array Value} (hg : a.eval g = .func (.func gf) #[] lb) (hF : F.fn gf) (eg : ∀ args w, (callFunc gf args).run Try.prog w = .ok (.enter gf args) w)
    {x : Nat → Array Value} {N : Nat} (hps : ∀ k, (x k).size = ps.size) (I : Nat → World → Prop) (hI : ∀ k V V', I k V → Below w.heap.size V V' → I k V') {Inv : Nat → World → Prop} (hInv : ∀ k V, I k V → Inv k V)
    (hseq : Hands F (n - 1) gf lb x N Inv) (h0 : I 0 w) (a1 : Nat → Act)
    (hassign : ∀ (l k : Nat) (W : World) (K : Act → World → Prop), K (a1 k) W → assign.wpIn (F.inRound l) (n - 1 - 1) Try.prog (Exit.then K (fun _ _ _ => False)) { tmps := (ps.zip (x k)).foldl (fun t (p, v) => t.setIfInBounds p v) a.tmps, defers := [] } W)
    (hbody : ∀ (l k : Nat) (W : World), k < N → I k W → body.wpIn (F.inRound l) (n - 1 - 1) Try.prog (GoesOn (I (k + 1)) W) (a1 k) W)
    (hdone : ∀ (D : Nat) (W : World), w.heap.size ≤ D → I N W → W.heap[D]? = some (.deferred (some [])) → Q .normal { a with defers := { target := .collected D, args := #[] } :: a.defers } W) :
    (Code.rangeFunc g ps assign body).wpIn F n Try.prog Q a w := by
  refine wpIn_rangeFunc fun fn hfn => ?_
  rw [hro]
  -- the loop's record in its states
  let rc : LoopState → Loop := fun st => { state := st, pending := none, fn := fn, tmps := a.tmps, params := ps, assign := assign, body := body, defers := w.heap.size }
  let J : Nat → World → Prop := fun k V => I k V ∧ V.heap[w.heap.size + 1]? = some (.loop (rc .ready)) ∧ V.heap[w.heap.size]? = some (.deferred (some []))
  have hrec : ((w.alloc (.deferred (some []))).alloc (.loop (rc .ready))).heap[w.heap.size + 1]? = some (.loop (rc .ready)) := by
    have h := World.alloc_heap_new (w.alloc (.deferred (some []))) (.loop (rc .ready))
    rwa [World.size_alloc] at h
  have hdef : ((w.alloc (.deferred (some []))).alloc (.loop (rc .ready))).heap[w.heap.size]? = some (.deferred (some [])) :=
    (Below.heap_alloc _ _ _ (by simp)).trans (World.alloc_heap_new w _)
  have hstart : J 0 ((w.alloc (.deferred (some []))).alloc (.loop (rc .ready))) :=
    ⟨hI 0 w _ h0 (((Below.refl _ w).alloc (Nat.le_refl _) _).alloc (by simp) _), hrec, hdef⟩
  refine ⟨w.heap.size + 1, [{ target := .collected w.heap.size, args := #[] }], _, { target := .fn (.func gf) lb, args := #[.func (.yield (w.heap.size + 1)) #[] #[]] }, (w.alloc (.deferred (some []))).alloc (.loop (rc .ready)), gf, #[.func (.yield (w.heap.size + 1)) #[] #[]] ++ lb, (w.alloc (.deferred (some []))).alloc (.loop (rc .ready)), run_enterLoop_outer fn a.tmps ps assign body, ?_, ?_, ?_, fun _ => h1, ?_⟩
  · simp only [resolve, hg]
    simp [go_sem]
    rfl
  · intro f' hf'
    simp [Target.leads] at hf'
    subst hf'
    exact hF
  · simp [invoke, go_sem, eg]
  · refine (hseq (w.heap.size + 1) J _ (fun k V hJ => hInv k V hJ.1) ?_ hstart).mono ?_
    · rintro k V hk ⟨hi, hl, hd⟩
      have hy := run_yield (P := Try.prog) (args := x k) hl (hps k)
      refine ⟨fn, _, assign, body, hy, roundIn_of_wpIn hfn (hassign _ k V _ ⟨_, run_beginRound hl rfl, ?_⟩)⟩
      have hlt := (Array.getElem?_eq_some_iff.1 hl).1
      refine wpIn_mono (hbody _ k _ hk (hI k V _ hi (below_put V _ (Nat.le_succ _)))) ?_
      rintro e a3 W3 hp
      cases e with
      | normal =>
        obtain ⟨hk3, hi3⟩ := hp
        have hl3 := hk3.same _ _ (World.putObj_heap_same hlt) rfl
        have hd3 := hk3.same _ _ ((World.putObj_heap_other (by omega)).trans hd) rfl
        have hlt3 := (Array.getElem?_eq_some_iff.1 hl3).1
        exact ⟨_, _, run_endRound none hl3, rfl, hI (k + 1) W3 _ hi3 (below_put W3 _ (Nat.le_succ _)), World.putObj_heap_same hlt3, (World.putObj_heap_other (by omega)).trans hd3⟩
      | ret => exact hp.elim
      | exit id => exact hp.elim
      | goto t => exact hp.elim
      | panic ch => exact hp.elim
      | outgrown => exact hp.elim
    · rintro e W2 ⟨⟨v, rfl⟩, hi, hl, hd⟩
      exact ⟨none, _, run_endLoop hl (by simp [rc]), hdone _ _ (Nat.le_refl _) (hI N W2 _ hi (below_put W2 _ (Nat.le_succ _))) ((World.putObj_heap_other (by omega)).trans hd)⟩
end Go.Proofs.Yteilaoiimlpbkaa
