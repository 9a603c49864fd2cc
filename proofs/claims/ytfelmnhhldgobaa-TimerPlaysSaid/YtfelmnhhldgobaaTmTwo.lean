/- Two clocks side by side, and two rows of what was told. -/
import Derived.Test.YtfelmnhhldgobaaTmSetFn
namespace Go.Proofs.Ytfelmnhhldgobaa
open Go.RowKit
structure Tw (B : Nat) (w0 w : World) (c o : Nat) (Vc Vo : Value) (sc so : tm.St) : Prop where
  cc : CS w c Vc sc
  oo : CS w o Vo so
  dis : ∀ y, OwnC c Vc y → ¬ OwnC o Vo y
  bel : Below B w0 w
  lowc : ∀ y, OwnC c Vc y → B ≤ y
  lowo : ∀ y, OwnC o Vo y → B ≤ y
  low : B ≤ w.heap.size
section
variable {B : Nat} {w0 w w' : World} {c o : Nat} {Vc Vo : Value} {sc so : tm.St}
theorem Tw.symm (t : Tw B w0 w c o Vc Vo sc so) : Tw B w0 w o c Vo Vc so sc := ⟨t.oo, t.cc, fun y a b => t.dis y b a, t.bel, t.lowo, t.lowc, t.low⟩
theorem Tw.below (t : Tw B w0 w c o Vc Vo sc so) (b : Below w.heap.size w w') : Tw B w0 w' c o Vc Vo sc so := ⟨t.cc.below b, t.oo.below b, t.dis, t.bel.trans (b.mono t.low), t.lowc, t.lowo, Nat.le_trans t.low b.size⟩
theorem Tw.one (t : Tw B w0 w c o Vc Vo sc so) {V1 : Value} {s1 : tm.St} (h : CS w' c V1 s1) (f : Fr (OwnC c Vc) w w') (ow : ∀ y, OwnC c V1 y → OwnC c Vc y ∨ w.heap.size ≤ y) : Tw B w0 w' c o V1 Vo s1 so :=
  ⟨h, t.oo.keep fun y hy => f.block y (t.oo.own_lt hy).2 (fun a => t.dis y a hy), fun y a b => by
    rcases ow y a with x | x
    · exact t.dis y x b
    · have := (t.oo.own_lt b).2
      omega, t.bel.trans (f.to_below B t.low fun k hk a => by have := t.lowc k a; omega), fun y a => (ow y a).elim (t.lowc y) fun x => Nat.le_trans t.low x, t.lowo, Nat.le_trans t.low f.size⟩
theorem Tw.pass (t : Tw B w0 w c o Vc Vo sc so) {V1 Vt : Value} {s1 : tm.St} {told : List tm.T} (p : PS w w' c Vc V1 Vt s1 told) : Tw B w0 w' c o V1 Vo s1 so := t.one p.ck p.fr p.own
/-- a row that no clock owns stays -/
theorem DRow.pass {R : Nat} {V1 Vt VR : Value} {s1 : tm.St} {told l : List tm.T} (hr : DRow w R VR l) (p : PS w w' c Vc V1 Vt s1 told) (hn : ∀ y, VR.ownBlock = some y → ¬ OwnC c Vc y) : DRow w' R VR l ∧ ∀ y, VR.ownBlock = some y → ¬ OwnC c V1 y :=
  ⟨own_keep hr fun g _ _ hg hv _ => p.fr.block g hg (hn g hv), fun y hy a => by
    rcases p.own y a with x | x
    · exact hn y hy x
    · have := (hr.lt y hy).2
      omega⟩
/-- what was told lies apart from the other clock -/
theorem Tw.apart (t : Tw B w0 w c o Vc Vo sc so) {V1 Vt : Value} {s1 : tm.St} {told : List tm.T} (p : PS w w' c Vc V1 Vt s1 told) : ∀ y, Vt.ownBlock = some y → ¬ OwnC o Vo y := fun y hy a => by
  have h1 := (p.row.lt y hy).1
  have := (t.oo.own_lt a).2
  omega
end
end Go.Proofs.Ytfelmnhhldgobaa
