/- The document's Decode: where it stands (its frame, laid ahead of the walk). -/
import Derived.Test.YtibpbnffennmeaaMdRefFn
namespace Go.Proofs.Ytibpbnffennmeaa
open Go.RowKit
theorem md.one_sign (n : Nat) (s : md.St) : (md.one n n s).2 = (md.next (fun x => decide (x.toNat = n)) s).2 := by
  show (md.next (fun c => md.fits n n c.toNat) s).2 = _
  have e : (fun c : UInt8 => md.fits n n c.toNat) = fun x => decide (x.toNat = n) := funext fun c => by
    unfold md.fits
    congr 1
    exact propext (by omega)
  rw [e]
/-- ahead of the module's box: the answer's two boxes (still zero), the State's box -/
structure RS (w wr : World) (p : Nat) (o : Option Addr) (n cap a : Nat) (ok : Bool) : Prop where
  z : wr.heap[p]? = some modZ
  y : wr.heap[p + 1]? = some fltZ
  st : wr.heap[p + 1 + 1]? = some (stO o n cap a ok)
  bel : Below w.heap.size w wr
/-- behind it: the module's box, its rows -/
structure RM (w wr : World) (p : Nat) (o : Option Addr) (n cap a : Nat) (ok : Bool) (q : Nat) (mem : Int) (VD VF : Value) (d : List UInt8) (fs : List md.Fn) : Prop where
  rs : RS w wr p o n cap a ok
  nd : wr.heap[q]? = some (.cells #[.int .i64 mem, VD, VF] 26 (0, 0))
  own : ModO wr w.heap.size VD VF ⟨mem, d, fs⟩
theorem ModO.keepT {w w' : World} {B : Nat} {VD VF : Value} {m : md.Mod} (h : ModO w B VD VF m) (hk : ∀ (g : Nat) (cur : Array Value) (T : TypeId), (T = 5 ∨ T = 40 ∨ T = 37) → w.heap[g]? = some (.cells cur T (0, 0)) → w'.heap[g]? = w.heap[g]?) : ModO w' B VD VF m := by
  obtain ⟨hd, cs, hr, hf⟩ := h
  exact ⟨own_keep hd (fun g cur _ _ _ hc => hk g cur _ (.inl rfl) hc), cs, own_keep hr (fun g cur _ _ _ hc => hk g cur _ (.inr (.inl rfl)) hc), FnsO.keep (Nat.le_refl _) (fun k cur _ hc => hk k cur _ (.inr (.inr rfl)) hc) _ _ hf⟩
section
variable {w wr wr' : World} {p : Nat} {o : Option Addr} {n cap a a' : Nat} {ok ok' : Bool} {q : Nat} {mem : Int} {VD VF VD' VF' : Value} {d : List UInt8} {fs : List md.Fn}
theorem RS.below (h : RS w wr p o n cap a ok) (hb : Below wr.heap.size wr wr') : RS w wr' p o n cap a ok :=
  ⟨(hb.block _ (heap_lt h.z)).trans h.z, (hb.block _ (heap_lt h.y)).trans h.y, (hb.block _ (heap_lt h.st)).trans h.st, h.bel.trans (hb.mono h.bel.size)⟩
theorem RS.drew (h : RS w wr p o n cap a ok) : RS w wr.drew p o n cap a ok := ⟨h.z, h.y, h.st, below_dN h.bel 1⟩
theorem RS.setSt (h : RS w wr p o n cap a ok) (hp : w.heap.size ≤ p) : RS w (setMod wr (p + 1 + 1) (.slice o n cap) (.int .i64 a') (.bool ok')) p o n cap a' ok' := by
  have hp2 : w.heap.size ≤ p + 1 + 1 := by omega
  exact ⟨(setMod_far wr (p + 1 + 1) _ _ _ _ (by omega)).trans h.z, (setMod_far wr (p + 1 + 1) _ _ _ _ (by omega)).trans h.y, store3 h.st _ _ _, ((h.bel.setCell hp2 _).setCell hp2 _).setCell hp2 _⟩
theorem RM.below (h : RM w wr p o n cap a ok q mem VD VF d fs) (hb : Below wr.heap.size wr wr') : RM w wr' p o n cap a ok q mem VD VF d fs :=
  ⟨h.rs.below hb, (hb.block _ (heap_lt h.nd)).trans h.nd, h.own.below hb⟩
theorem RM.setSt (h : RM w wr p o n cap a ok q mem VD VF d fs) (hp : w.heap.size ≤ p) (hq : p + 1 + 1 < q) : RM w (setMod wr (p + 1 + 1) (.slice o n cap) (.int .i64 a') (.bool ok')) p o n cap a' ok' q mem VD VF d fs := by
  have hst := h.rs.st
  refine ⟨h.rs.setSt hp, (setMod_far wr (p + 1 + 1) _ _ _ _ (by omega)).trans h.nd, h.own.keepT fun g cur T hT hc => setMod_far wr (p + 1 + 1) _ _ _ g ?_⟩
  rintro rfl
  rw [hst] at hc
  injection hc with hc
  injection hc with _ e2
  rcases hT with rfl | rfl | rfl <;> exact absurd e2 (by decide)
/-- one byte more -/
theorem RM.byte (h : RM w wr p o n cap a ok q mem VD VF d fs) (hp : w.heap.size ≤ p) (hq : p + 1 + 1 < q) (c : UInt8) (hr : BRow wr' w.heap.size VD' (d ++ [c])) (ht : Tb w.heap.size wr wr') : RM w (wr'.setCell ⟨q, 1, none⟩ VD') p o n cap a ok q mem VD' VF (d ++ [c]) fs := by
  have hset : ∀ k, k ≠ q → (wr'.setCell ⟨q, 1, none⟩ VD').heap[k]? = wr'.heap[k]? := fun k hk => Below.heap_setCell wr' ⟨q, 1, none⟩ VD' k hk
  have hn := ht.keep _ _ h.nd (fun cur e => by injection e with _ e2; exact absurd e2 (by decide))
  have hfar : ∀ g cur T, T ≠ 26 → wr'.heap[g]? = some (.cells cur T (0, 0)) → g ≠ q := fun g cur T hT hc => by
    rintro rfl
    rw [hn] at hc
    injection hc with hc
    injection hc with _ e2
    exact hT e2.symm
  obtain ⟨cs, hrf, hf⟩ := h.own.fns
  have hk : ∀ (g : Nat) (cur : Array Value) (T : TypeId), T ≠ 5 → T ≠ 26 → wr.heap[g]? = some (.cells cur T (0, 0)) → (wr'.setCell ⟨q, 1, none⟩ VD').heap[g]? = wr.heap[g]? := fun g cur T h1 h2 hc => by
    have h3 := ht.keep _ _ hc (fun cur e => by injection e with _ e2; exact h1 e2)
    exact (hset g (hfar g cur T h2 h3)).trans (h3.trans hc.symm)
  refine ⟨⟨(hset _ (by omega)).trans (ht.keep _ _ h.rs.z (fun cur e => by injection e with _ e2; exact absurd e2 (by decide))), (hset _ (by omega)).trans (ht.keep _ _ h.rs.y (fun cur e => by injection e with _ e2; exact absurd e2 (by decide))), (hset _ (by omega)).trans (ht.keep _ _ h.rs.st (fun cur e => by injection e with _ e2; exact absurd e2 (by decide))), (h.rs.bel.trans ht.bel).setCell (by show w.heap.size ≤ q; omega) _⟩, heap_setCell_same wr' q 1 _ _ VD' hn, ?_, cs, ?_, ?_⟩
  · exact own_keep hr (fun g cur _ _ _ hc => hset g (hfar g cur _ (by decide) hc))
  · exact own_keep hrf (fun g cur _ _ _ hc => hk g cur _ (by decide) (by decide) hc)
  · exact FnsO.keep (Nat.le_refl _) (fun k cur _ hc => hk k cur _ (by decide) (by decide) hc) _ _ hf
/-- one function more -/
theorem RM.fn (h : RM w wr p o n cap a ok q mem VD VF d fs) (hp : w.heap.size ≤ p) (hq : p + 1 + 1 < q) (f : md.Fn) {VC : Value} {cs : List Value} (hr0 : wr.ownsRow w.heap.size 40 4 VF fs.length cs) (hc0 : FnsO wr w.heap.size fs cs)
    (hcode : wr.ownsRow w.heap.size 37 2 VC f.code.length (codeC f.code)) (hr : wr'.ownsRow w.heap.size 40 4 VF' (fs.length + 1) (cs ++ [.int .i64 f.params, .int .i64 f.results, .int .i64 f.locals, VC])) (hg : wr.grownBy wr' VF.ownBlock) : RM w (wr'.setCell ⟨q, 2, none⟩ VF') p o n cap a ok q mem VD VF' d (fs ++ [f]) := by
  have hty : ∀ (k : Nat) (o : Obj), wr.heap[k]? = some o → (∀ cur, o ≠ Obj.cells cur 40 (0, 0)) → wr'.heap[k]? = some o := fun k o hk ho => (hg.block k (heap_lt hk) (fun e => by
    obtain ⟨cur, hc⟩ := own_type hr0 e.symm
    rw [hk] at hc
    exact ho cur (Option.some.inj hc))).trans hk
  have hset : ∀ k, k ≠ q → (wr'.setCell ⟨q, 2, none⟩ VF').heap[k]? = wr'.heap[k]? := fun k hk => Below.heap_setCell wr' ⟨q, 2, none⟩ VF' k hk
  have hn := hty _ _ h.nd (fun cur e => by injection e with _ e2; exact absurd e2 (by decide))
  have hfar : ∀ g cur T, T ≠ 26 → wr'.heap[g]? = some (.cells cur T (0, 0)) → g ≠ q := fun g cur T hT hc => by
    rintro rfl
    rw [hn] at hc
    injection hc with hc
    injection hc with _ e2
    exact hT e2.symm
  have hk : ∀ (g : Nat) (cur : Array Value) (T : TypeId), T ≠ 40 → T ≠ 26 → wr.heap[g]? = some (.cells cur T (0, 0)) → (wr'.setCell ⟨q, 2, none⟩ VF').heap[g]? = wr.heap[g]? := fun g cur T h1 h2 hc => by
    have h3 := hty _ _ hc (fun cur e => by injection e with _ e2; exact h1 e2)
    exact (hset g (hfar g cur T h2 h3)).trans (h3.trans hc.symm)
  refine ⟨⟨(hset _ (by omega)).trans (hty _ _ h.rs.z (fun cur e => by injection e with _ e2; exact absurd e2 (by decide))), (hset _ (by omega)).trans (hty _ _ h.rs.y (fun cur e => by injection e with _ e2; exact absurd e2 (by decide))), (hset _ (by omega)).trans (hty _ _ h.rs.st (fun cur e => by injection e with _ e2; exact absurd e2 (by decide))), (h.rs.bel.grown hg h.rs.bel.size (fun k hk => (hr0.lt k hk).1)).setCell (by show w.heap.size ≤ q; omega) _⟩, heap_setCell_same wr' q 2 _ _ VF' hn,
    own_keep h.own.data (fun g cur _ _ _ hc => hk g cur _ (by decide) (by decide) hc), cs ++ [.int .i64 f.params, .int .i64 f.results, .int .i64 f.locals, VC], ?_, ?_⟩
  · show World.ownsRow _ _ _ _ _ (fs ++ [f]).length _
    rw [List.length_append, List.length_singleton]
    exact own_keep hr (fun g cur hB _ _ hc => hset g (hfar g cur _ (by decide) hc))
  · exact FnsO.snoc ⟨VC, rfl, own_keep hcode (fun g cur _ _ _ hc => hk g cur _ (by decide) (by decide) hc)⟩ _ _ (FnsO.keep (Nat.le_refl _) (fun k cur _ hc => hk k cur _ (by decide) (by decide) hc) _ _ hc0)
end
end Go.Proofs.Ytibpbnffennmeaa
