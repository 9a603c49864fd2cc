/- same; a clock beside the document's. -/
import Derived.Test.YtfelmnhhldgobaaTmSim2
namespace Go.Proofs.Ytfelmnhhldgobaa
open Go.RowKit
theorem DIn.below {w w' : World} {o : Option Addr} {L : List tm.T} (h : DIn w o L) (b : Below w.heap.size w w') : DIn w' o L := by
  rcases h with h | ⟨g, e, hg, hc⟩
  · exact .inl h
  · refine .inr ⟨g, e, Nat.lt_of_lt_of_le hg b.size, fun i t ht => ?_⟩
    obtain ⟨c0, c1, c2⟩ := hc i t ht
    have hb := b.block g hg
    exact ⟨(cell_of_eq hb _).trans c0, (cell_of_eq hb _).trans c1, (cell_of_eq hb _).trans c2⟩
theorem DRow.toD {w : World} {B : Nat} {o : Option Addr} {n cap : Nat} {L : List tm.T} (h : DRow w B (.slice o n cap) L) : DIn w o L := by
  by_cases h0 : L.length = 0
  · exact .inl h0
  · obtain ⟨-, g, e, hg, -⟩ := DRow.cell h 0 (by omega)
    refine .inr ⟨g, e, hg, fun i t ht => ?_⟩
    have hi := (List.getElem?_eq_some_iff.1 ht).1
    obtain ⟨-, g', e', -, d0, d1, d2⟩ := DRow.cell h i hi
    obtain rfl : g = g' := by rw [e] at e'; injection e' with e'; injection e'
    have : tm.ix L i = t := by
      have := tm.ix_at hi
      rw [ht] at this
      exact (Option.some.inj this).symm
    rw [this] at d0 d1 d2
    exact ⟨d0, d1, d2⟩
set_option maxRecDepth 100000 in
set_option maxHeartbeats 400000 in
theorem same_any (oa : Option Addr) (ca : Nat) (ob : Option Addr) (cb : Nat) (L : List tm.T) (hL : L.length ≤ 512) (D : Nat → Prop) (w : World) (ha : DIn w oa L) (hb : RIn w D (.slice ob L.length cb) L) : Calls Try.prog 16 #[.slice oa L.length ca, .slice ob L.length cb] w fun e w' => e = .returned (.bool true) ∧ Below w.heap.size w w' := by
  have HA := Lib.hid (And.intro ha hb)
  clear ha hb
  go_enter Try.func16, Try.ntmps16
  go_wp2_with fail
  go_loopg [13] L.length (fun gg s13 wr => ∃ k : Nat, s13 = .int .i64 k ∧ k ≤ L.length ∧ L.length - k ≤ gg ∧ Hid (Below w.heap.size w wr))
  case atStart => exact ⟨0, rfl, Nat.zero_le _, Nat.le_refl _, Lib.hid (Below.refl _ _)⟩
  case round =>
    obtain ⟨k, rfl, hk, hgg, HX⟩ := hrel
    by_cases hkl : k < L.length
    · have hki : (k : Int) < (L.length : Int) := by omega
      have hk0 : ¬ ((k : Int) < 0) := by omega
      obtain ⟨b, off, rfl, hbl, d0, d1, d2, -⟩ := RIn.cell (RowIn.below HA.out.2 HX.out) k hkl
      rcases HA.out.1.below HX.out with h0 | ⟨g, rfl, hg, hc⟩
      · omega
      obtain ⟨t, ht⟩ : ∃ t, tm.ix L k = t := ⟨_, rfl⟩
      obtain ⟨f0, f1, f2⟩ := hc k t (by rw [tm.ix_at hkl, ht])
      rw [ht] at d0 d1 d2
      clear hc ht
      have n1 : (t.id != t.id) = false := by simp
      have n2 : (t.owner != t.owner) = false := by simp
      have n3 : (t.due != t.due) = false := by simp
      go_upto_region 6 with fail
      go_quiet (fail)
      go_wp2_with fail
      go_roundg (L.length - (k + 1))
      case measure => omega
      case rel => exact ⟨k + 1, by go_num, by omega, Nat.le_refl _, Lib.hid (below_dN HX.out _)⟩
    · obtain rfl : k = L.length := by omega
      go_wp2_with fail
      go_ret
      exact ⟨rfl, HX.out⟩
/-- a clock, the document's in its box, and a box that is kept -/
structure PM (B : Nat) (w0 w : World) (c : Nat) (V : Value) (s : tm.St) (mb : Nat) (now made : Int) (Vm : Value) (m : List tm.T) (x : Nat) (O : Obj) : Prop where
  my : Mine B w0 w c V s
  box : w.heap[mb]? = some (rcO now made Vm)
  row : RIn w (fun k => ¬ OwnC c V k ∧ k ≠ mb) Vm m
  mc : ¬ OwnC c V mb
  mB : B ≤ mb
  kx : w.heap[x]? = some O
  xc : ¬ OwnC c V x
  xm : x ≠ mb
section
variable {B : Nat} {w0 w w' : World} {c : Nat} {V : Value} {s s' : tm.St} {mb : Nat} {now made : Int} {Vm : Value} {m : List tm.T} {x : Nat} {O : Obj}
theorem PM.below (p : PM B w0 w c V s mb now made Vm m x O) (b : Below w.heap.size w w') : PM B w0 w' c V s mb now made Vm m x O :=
  ⟨p.my.below b, (b.block _ (heap_lt p.box)).trans p.box, RowIn.below p.row b, p.mc, p.mB, (b.block _ (heap_lt p.kx)).trans p.kx, p.xc, p.xm⟩
theorem PM.own (p : PM B w0 w c V s mb now made Vm m x O) {V1 : Value} {s1 : tm.St} (h : CS w' c V1 s1) (f : Fr (OwnC c V) w w') (ow : ∀ y, OwnC c V1 y → OwnC c V y ∨ w.heap.size ≤ y) : PM B w0 w' c V1 s1 mb now made Vm m x O := by
  have hm := heap_lt p.box
  have hx := heap_lt p.kx
  refine ⟨⟨h, p.my.bel.trans (f.to_below B p.my.low fun k hk y => by have := p.my.own k y; omega), fun y hy => (ow y hy).elim (p.my.own y) fun a => Nat.le_trans p.my.low a, Nat.le_trans p.my.low f.size⟩, (f.block _ hm p.mc).trans p.box, p.row.keep (fun k hd hk => f.block k hk hd.1) f.size fun k hd hk => ⟨fun a => (ow k a).elim hd.1 fun y => by omega, hd.2⟩, fun a => (ow mb a).elim p.mc fun y => by omega, p.mB, (f.block _ hx p.xc).trans p.kx, fun a => (ow x a).elim p.xc fun y => by omega, p.xm⟩
theorem PM.prog (p : PM B w0 w c V s mb now made Vm m x O) (r : CSR c V w w' s') : ∃ V', PM B w0 w' c V' s' mb now made Vm m x O := by
  obtain ⟨V', h, f, o⟩ := r
  exact ⟨V', p.own h f o⟩
theorem PM.pass (p : PM B w0 w c V s mb now made Vm m x O) {V1 Vt : Value} {told : List tm.T} (q : PS w w' c V V1 Vt s' told) : PM B w0 w' c V1 s' mb now made Vm m x O := p.own q.ck q.fr q.own
/-- the document's clock, stored into its box -/
theorem PM.store (p : PM B w0 w c V s mb now made Vm m x O) (b : Below w.heap.size w w') (now' made' : Int) {Vm' : Value} {m' : List tm.T} (hr : RIn w' (fun k => (¬ OwnC c V k ∧ k ≠ mb) ∨ w.heap.size ≤ k) Vm' m') : PM B w0 (setC w' mb now' made' Vm') c V s mb now' made' Vm' m' x O := by
  have q := p.below b
  have hm := heap_lt p.box
  have hk : ∀ k, k ≠ mb → (setC w' mb now' made' Vm').heap[k]? = w'.heap[k]? := fun k h => setC_far _ _ _ _ _ k h
  have hs : (setC w' mb now' made' Vm').heap.size = w'.heap.size := by simp
  have hd : ∀ k, ((¬ OwnC c V k ∧ k ≠ mb) ∨ w.heap.size ≤ k) → ¬ OwnC c V k ∧ k ≠ mb := fun k h => by
    rcases h with h | h
    · exact h
    · exact ⟨fun a => by have := (p.my.ck.own_lt a).2; omega, by omega⟩
  refine ⟨⟨q.my.ck.keep fun y hy => hk y fun e => p.mc (e ▸ hy), setC_below q.my.bel p.mB _ _ _, p.my.own, by rw [hs]; exact q.my.low⟩, setC_at q.box _ _ _, hr.keep (fun k h _ => hk k (hd k h).2) (by rw [hs]; exact Nat.le_refl _) fun k h _ => hd k h, p.mc, p.mB, (hk x p.xm).trans q.kx, p.xc, p.xm⟩
theorem PM.store2 (p : PM B w0 w c V s mb now made Vm m x O) (b : Below w.heap.size w w') {Vm' : Value} {m' : List tm.T} (hr : RIn w' (fun k => (¬ OwnC c V k ∧ k ≠ mb) ∨ w.heap.size ≤ k) Vm' m') : PM B w0 (w'.setCell ⟨mb, 2, none⟩ Vm') c V s mb now made Vm' m' x O := by
  have q := p.below b
  have hm := heap_lt p.box
  have hk : ∀ k, k ≠ mb → (w'.setCell ⟨mb, 2, none⟩ Vm').heap[k]? = w'.heap[k]? := fun k h => Below.heap_setCell _ _ _ k h
  have hs : (w'.setCell ⟨mb, 2, none⟩ Vm').heap.size = w'.heap.size := by simp
  have hd : ∀ k, ((¬ OwnC c V k ∧ k ≠ mb) ∨ w.heap.size ≤ k) → ¬ OwnC c V k ∧ k ≠ mb := fun k h => by
    rcases h with h | h
    · exact h
    · exact ⟨fun a => by have := (p.my.ck.own_lt a).2; omega, by omega⟩
  refine ⟨⟨q.my.ck.keep fun y hy => hk y fun e => p.mc (e ▸ hy), q.my.bel.setCell p.mB _, p.my.own, by rw [hs]; exact q.my.low⟩, heap_setCell_same _ mb 2 _ _ _ q.box, hr.keep (fun k h _ => hk k (hd k h).2) (by rw [hs]; exact Nat.le_refl _) fun k h _ => hd k h, p.mc, p.mB, (hk x p.xm).trans q.kx, p.xc, p.xm⟩
/-- another box is kept -/
theorem PM.other (p : PM B w0 w c V s mb now made Vm m x O) {y : Nat} {O' : Obj} (hy : w.heap[y]? = some O') (h1 : ¬ OwnC c V y) (h2 : y ≠ mb) : PM B w0 w c V s mb now made Vm m y O' := ⟨p.my, p.box, p.row, p.mc, p.mB, hy, h1, h2⟩
end
end Go.Proofs.Ytfelmnhhldgobaa
