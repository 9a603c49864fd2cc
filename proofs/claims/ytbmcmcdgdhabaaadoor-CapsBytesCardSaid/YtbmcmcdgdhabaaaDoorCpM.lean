/- What may be asked for, on lists. -/
import Derived.Test.YtbmcmcdgdhabaaaDoorCpBits
import Derived.Test.YtbmcmcdgdhabaaaDoorCpRight
import Derived.Test.YtbmcmcdgdhabaaaDoorCpWidth
import Derived.Test.YtbmcmcdgdhabaaaDoorCpEff2
namespace Go.Proofs.YtbmcmcdgdhabaaaDoor
namespace cp
structure Call where
  (n pane x y kind rune fg bg at_ : Int)
def zero : Call := ⟨0, 0, 0, 0, 0, 0, 0, 0, 0⟩
def needsT : List Int := [1, 1, 1, 2, 2, 4, 8, 16, 16, 32, 0, 0]
def needs (n : Int) : Int := if 0 ≤ n ∧ n < 12 then needsT.getD n.toNat 0 else 0
def btw (l v m : Int) : Bool := decide (l ≤ v) && decide (v ≤ m)
def side (v : Int) : Bool := btw 0 v 199
def isPane (v : Int) : Bool := btw 1 v 1099511627776
def narrow (v : Int) : Bool := (v == IntKind.i32.wrap v) && (wd (IntKind.i32.wrap v) == 1)
def short (v : Int) : Bool := btw 0 v 64
structure Rd where
  c : Call
  at_ : Int
  len : Int
  ok : Bool
def read (n : Nat) (a : List Int) : Rd :=
  match n, a with
  | 0, [x, y, r] => ⟨⟨0, 0, x, y, 0, IntKind.i32.wrap r, 0, 0, 0⟩, 0, 0, side x && side y && narrow r⟩
  | 1, [f, b, t] => ⟨⟨1, 0, 0, 0, 0, 0, f, b, t⟩, 0, 0, S5.sg.right ⟨f, b, t⟩⟩
  | 3, [k] => ⟨⟨3, 0, 0, 0, k, 0, 0, 0, 0⟩, 0, 0, btw 1 k 8⟩
  | 4, [k] => ⟨⟨4, 0, 0, 0, k, 0, 0, 0, 0⟩, 0, 0, btw 1 k 8⟩
  | 5, [p, x, l] => ⟨⟨5, p, 0, 0, 0, 0, 0, 0, 0⟩, x, l, isPane p && short l⟩
  | 6, [p] => ⟨⟨6, p, 0, 0, 0, 0, 0, 0, 0⟩, 0, 0, isPane p⟩
  | 8, [p] => ⟨⟨8, p, 0, 0, 0, 0, 0, 0, 0⟩, 0, 0, isPane p⟩
  | 9, [p, x, y] => ⟨⟨9, p, x, y, 0, 0, 0, 0, 0⟩, 0, 0, isPane p && side x && side y⟩
  | 11, [x, l] => ⟨⟨11, 0, 0, 0, 0, 0, 0, 0, 0⟩, x, l, short l⟩
  | n, _ => ⟨⟨n, 0, 0, 0, 0, 0, 0, 0, 0⟩, 0, 0, true⟩
def within (x l : Int) (size : Nat) : Bool := btw 0 x size && decide (l ≤ size - x)
def ask (have_ n : Int) (a : List Int) (mem : List UInt8) : Call × List UInt8 × Int :=
  if (ck.hostEff n).2.2 = true ∧ (a.length : Int) = (ck.hostEff n).1 then
    if bits .and .i64 have_ (needs n) = needs n then
      if (read n.toNat a).ok = true then
        if within (read n.toNat a).at_ (read n.toNat a).len mem.length = true then ((read n.toNat a).c, (mem.drop (read n.toNat a).at_.toNat).take (read n.toNat a).len.toNat, 0)
        else (zero, [], -4)
      else (zero, [], -3)
    else (zero, [], -2)
  else (zero, [], -1)
theorem btw_iff {l v m : Int} : btw l v m = true ↔ l ≤ v ∧ v ≤ m := by unfold btw; simp
end cp
open Go.RowKit
abbrev inC (l : List Int) : List Value := l.map fun x => Value.int .i64 x
abbrev NsIn (w : World) (D : Nat → Prop) (V : Value) (l : List Int) : Prop := RowIn w D V 1 l.length (inC l)
abbrev callV (c : cp.Call) (VB : Value) : Value := .agg #[.int .i64 c.n, .int .i64 c.pane, .int .i64 c.x, .int .i64 c.y, .int .i64 c.kind, .int .i32 c.rune, .int .i64 c.fg, .int .i64 c.bg, .int .i64 c.at_, VB]
abbrev callO (c : cp.Call) (VB : Value) : Obj := .cells #[.int .i64 c.n, .int .i64 c.pane, .int .i64 c.x, .int .i64 c.y, .int .i64 c.kind, .int .i32 c.rune, .int .i64 c.fg, .int .i64 c.bg, .int .i64 c.at_, VB] 28
abbrev partV (x l : Int) : Value := .agg #[.int .i64 x, .int .i64 l]
abbrev partO (x l : Int) : Obj := .cells #[.int .i64 x, .int .i64 l] 45
def BoolAns (w w' : World) (e : Ending) (r : Bool) : Prop := e = .returned (.bool r) ∧ Below w.heap.size w w'
theorem BoolAns.eq {w w' : World} {e : Ending} {r r' : Bool} (h : BoolAns w w' e r) (hr : r = r') : BoolAns w w' e r' := hr ▸ h
theorem btw_any (l v m : Int) (w : World) : Calls Tryd.prog 23 #[.int .i64 l, .int .i64 v, .int .i64 m] w fun e w' => e = .returned (.bool (cp.btw l v m)) ∧ w' = w := by
  unfold cp.btw
  by_cases h1 : l ≤ v
  · go_enter Tryd.func23, Tryd.ntmps23
    go_wp2
    go_ret
    exact ⟨ret_bool (by rw [Bool.eq_iff_iff]; simp; try omega), rfl⟩
  · go_enter Tryd.func23, Tryd.ntmps23
    go_wp2
    go_ret
    exact ⟨ret_bool (by rw [Bool.eq_iff_iff]; simp; try omega), rfl⟩
theorem side_any (v : Int) (w : World) : Calls Tryd.prog 20 #[.int .i64 v] w fun e w' => e = .returned (.bool (cp.side v)) ∧ w' = w := by
  have H := Lib.hid (btw_any 0 v 199 w)
  go_enter Tryd.func20, Tryd.ntmps20
  go_wp2_with fail
  refine H.out.mono ?_
  rintro e w' ⟨rfl, hw⟩
  replace hw := hw.symm
  subst hw
  go_wp2_with fail
  go_ret
  exact ⟨rfl, rfl⟩
theorem pane_any (v : Int) (w : World) : Calls Tryd.prog 24 #[.int .i64 v] w fun e w' => e = .returned (.bool (cp.isPane v)) ∧ w' = w := by
  have H := Lib.hid (btw_any 1 v 1099511627776 w)
  go_enter Tryd.func24, Tryd.ntmps24
  go_wp2_with fail
  refine H.out.mono ?_
  rintro e w' ⟨rfl, hw⟩
  replace hw := hw.symm
  subst hw
  go_wp2_with fail
  go_ret
  exact ⟨rfl, rfl⟩
theorem cnarrow_any (v : Int) (w : World) : Calls Tryd.prog 21 #[.int .i64 v] w fun e w' => BoolAns w w' e (cp.narrow v) := by
  have HN : Hid (cp.narrow v = ((v == IntKind.i32.wrap v) && (wd (IntKind.i32.wrap v) == 1))) := Lib.hid rfl
  generalize cp.narrow v = R at *
  have H := Lib.hid (width_any (IntKind.i32.wrap v) w)
  obtain ⟨r, hr⟩ : ∃ r, IntKind.i32.wrap v = r := ⟨_, rfl⟩
  have hr64 : IntKind.i64.wrap r = r := by rw [← hr, IntKind.wrap_i64]; have := IntKind.wrap_i32 v; omega
  have HR : Hid (IntKind.i32.wrap v = r) := Lib.hid hr
  rw [hr] at H HN
  by_cases h1 : v = r
  · subst h1
    have e1 : (v == v) = true := by simp
    go_enter Tryd.func21, Tryd.ntmps21
    go_wp2_with fail
    refine H.out.mono ?_
    rintro e w' ⟨rfl, hb⟩
    have HB := Lib.hid hb
    clear hb
    generalize wd v = W at *
    go_wp2_with fail
    go_ret
    exact BoolAns.eq ⟨rfl, HB.out⟩ (by rw [HN.out, e1, Bool.true_and])
  · have e1 : (v == r) = false := by simpa using h1
    go_enter Tryd.func21, Tryd.ntmps21
    go_wp2_with fail
    go_ret
    exact BoolAns.eq ⟨rfl, Below.refl _ _⟩ (by rw [HN.out, e1, Bool.false_and])
/-- the table of needs -/
def NT (w : World) : Prop := ∀ k, k < 12 → w.cell? ⟨0, k, none⟩ = some (.int .i64 (cp.needsT.getD k 0))
theorem NT.below {w w' : World} (h : NT w) (hb : Below w.heap.size w w') : NT w' := fun k hk => by
  have h1 := h k hk
  have hlt := World.block_lt_of_cell? w _ h1
  dsimp only at hlt
  rw [← h1]
  exact cell_of_eq (hb.block _ hlt) k
theorem needs_any (n : Int) (w : World) (ht : NT w) : Calls Tryd.prog 9 #[.int .i64 n] w fun e w' => e = .returned (.int .i64 (cp.needs n)) ∧ w' = w := by
  have HN : Hid (cp.needs n = if 0 ≤ n ∧ n < 12 then cp.needsT.getD n.toNat 0 else 0) := Lib.hid rfl
  generalize cp.needs n = R at *
  by_cases h0 : n < 0
  · have HR : Hid (0 = R) := Lib.hid (by rw [HN.out, if_neg (by omega)])
    clear HN ht
    go_enter Tryd.func9, Tryd.ntmps9
    go_wp2_with fail
    go_ret
    exact ⟨by rw [HR.out]; rfl, rfl⟩
  by_cases h1 : 12 ≤ n
  · have HR : Hid (0 = R) := Lib.hid (by rw [HN.out, if_neg (by omega)])
    clear HN ht
    go_enter Tryd.func9, Tryd.ntmps9
    go_wp2_with fail
    go_ret
    exact ⟨by rw [HR.out]; rfl, rfl⟩
  obtain ⟨k, rfl⟩ : ∃ k : Nat, n = (k : Int) := ⟨n.toNat, by omega⟩
  have hk : k < 12 := by omega
  have hc := ht k hk
  have hlt := World.block_lt_of_cell? w _ hc
  dsimp only at hlt
  have HR : Hid (cp.needsT.getD k 0 = R) := Lib.hid (by rw [HN.out, if_pos (by omega), Int.toNat_natCast])
  generalize cp.needsT.getD k 0 = T at *
  clear HN ht
  go_enter Tryd.func9, Tryd.ntmps9
  go_wp2_with fail
  go_ret
  exact ⟨by rw [HR.out]; rfl, rfl⟩
end Go.Proofs.YtbmcmcdgdhabaaaDoor
