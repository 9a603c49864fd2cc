/- Params. -/
import Derived.Test.YtgkodjkhhmcnnaaDoorSgrParams
namespace Go.Proofs.YtgkodjkhhmcnnaaDoor.S5
open Go.RowKit
attribute [local go_sem ↓ 10000] run_marks0 run_marks1 run_marks2 run_marks3 run_marks4

/-- the numbers of the first k marks -/
def marksUp (a : Int) : Nat → List Int
  | 0 => []
  | k + 1 => marksUp a k ++ (if sg.has a ([1, 2, 4, 8, 16].getD k 0) then [[1, 2, 3, 4, 7].getD k 0] else [])
theorem marksUp_all (a : Int) : marksUp a 5 = sg.marksP a := by simp [marksUp, sg.marksP]
theorem marksUp_len (a : Int) : ∀ k, (marksUp a k).length ≤ k
  | 0 => by simp [marksUp]
  | k + 1 => by
    have := marksUp_len a k
    simp only [marksUp, List.length_append]
    split <;> simp <;> omega
/-- a row of numbers of the call's own -/
def Row (w : World) (B : Nat) (v : Value) (xs : List Int) : Prop := w.ownsRow B 3 1 v xs.length (xs.map (Value.int .i64))
theorem Row.kept {w w' : World} {B : Nat} {v : Value} {xs : List Int} (h : Row w B v xs) {S : Nat → Prop} (hk : Kept w w' S) (hS : ∀ k, B ≤ k → ¬ S k) : Row w' B v xs :=
  hk.row h (fun k hk' => hS k (h.lt k hk').1)
theorem Row.below {w w' : World} {B : Nat} {v : Value} {xs : List Int} (h : Row w B v xs) (hk : Below w.heap.size w w') : Row w' B v xs :=
  h.kept (Kept.of_below hk (fun _ => False)) (fun _ _ h => h)
theorem Row.slice {w : World} {B : Nat} {v : Value} {xs : List Int} (h : Row w B v xs) : ∃ o cap, v = .slice o xs.length cap ∧ Ints w o xs.length cap xs := Ints.of_own h
theorem Row.new (w : World) (zs : List Int) (h : zs.length ≤ 1000) : Row (w.alloc (.cells (zs.map (Value.int .i64)).toArray 3)) w.heap.size (.slice (some ⟨w.heap.size, 0, none⟩) zs.length zs.length) zs := by
  refine ⟨by simp, .inr ⟨w.heap.size, zs.length, (zs.map (Value.int .i64)).toArray, rfl, Nat.le_refl _, ?_, Nat.le_refl _, by unfold maxLen; omega, by simp, by simp; exact List.take_of_length_le (by simp)⟩⟩
  show (w.heap.push _)[w.heap.size]? = _
  simp
/-- a round of Params -/
structure PR (w wr : World) (B : Nat) (v : Value) (xs : List Int) (s : sg.St) : Prop where
  row : Row wr (B + 1) v xs
  st : StAt wr B s
  bel : Below B w wr
theorem PR.new {w wr W : World} {B : Nat} {v : Value} {xs : List Int} {s : sg.St} (h : PR w wr B v xs s) (hb : Below wr.heap.size wr W) : PR w W B v xs s :=
  ⟨h.row.below hb, h.st.below hb h.st.cells.lt, h.bel.trans (hb.mono (Nat.le_of_lt h.st.cells.lt))⟩
theorem PR.grow {w wr w2 : World} {B : Nat} {v v' : Value} {xs ys : List Int} {s : sg.St} (h : PR w wr B v xs s) {m : Nat} (hg : wr.grownBy w2 v.ownBlock) (hm : m = ys.length) (hr : w2.ownsRow (B + 1) 3 1 v' m (ys.map (Value.int .i64))) : PR w w2 B v' ys s := by
  subst hm
  have hk : Kept wr w2 (fun k => v.ownBlock = some k) := (Kept.refl wr _).grown hg (fun k hk _ => hk)
  have hne : ∀ k, v.ownBlock = some k → B < k := fun k hk => by have := h.row.lt k hk; omega
  exact ⟨hr, h.st.kept hk (fun e => by have := hne B e; omega), h.bel.trans (hk.below (Nat.le_of_lt h.st.cells.lt) (fun k hk => by have := hne k hk; omega))⟩
theorem PR.own {w wr : World} {B : Nat} {v : Value} {xs : List Int} {s : sg.St} {n : Nat} (h : PR w wr B v xs s) (hn : n = xs.length) : wr.ownsRow (B + 1) 3 1 v n (xs.map (Value.int .i64)) := by subst hn; exact h.row
theorem new_two (wr : World) (o : Obj) (x : Int) : Ints ((wr.alloc o).alloc (.cells #[.int .i64 x] 3)) (some ⟨wr.heap.size + 1, 0, none⟩) 1 1 [x] := by
  have := Ints.new (wr.alloc o) 3 [x] (by simp)
  simpa using this
theorem below_two (wr : World) (o o' : Obj) : Below wr.heap.size wr ((wr.alloc o).alloc o') := ((Below.refl _ _).alloc (Nat.le_refl _) _).alloc (by simp) _
theorem below_one (wr : World) (o : Obj) : Below wr.heap.size wr (wr.alloc o) := (Below.refl _ _).alloc (Nat.le_refl _) _
theorem row_len (a : Int) (k : Nat) : ((0 : Int) :: marksUp a k).length ≤ k + 1 := by have := marksUp_len a k; simp; omega

set_option maxRecDepth 100000 in
set_option maxHeartbeats 1600000 in
theorem params_any (f g a : Int) (w : World) (ht : Tabs w) :
    Calls Tryd.prog 22 #[.agg #[.int .i64 f, .int .i64 g, .int .i64 a]] w (Gives w (sg.params ⟨f, g, a⟩)) := by
  have hm := ht.marks
  have hlt := ht.lt.1
  have h2 := ht.two
  obtain ⟨i0, hi, hz0, hz1, hz2⟩ := info_parts infoE
  have HR : Hid (sg.params ⟨f, g, a⟩ = 0 :: sg.marksP (sg.known ⟨f, g, a⟩).at_ ++ sg.colourP (sg.known ⟨f, g, a⟩).fg 30 ++ sg.colourP (sg.known ⟨f, g, a⟩).bg 40) := Lib.hid rfl
  generalize hB : w.heap.size = B at *
  have HB := Lib.hid hB; clear hB
  have HT := Lib.hid ht; clear ht
  generalize sg.params ⟨f, g, a⟩ = R at *
  go_enter Tryd.func22, Tryd.ntmps22
  go_wp2_with fail
  refine (known_any _ _ _ _).mono ?_
  rintro e w1 ⟨rfl, hb⟩
  obtain ⟨s0, hbl⟩ := one_after (s := ⟨f, g, a⟩) hb
  clear hb
  rw [HB.out] at s0 hbl ⊢
  have hrt := sg.right_known ⟨f, g, a⟩
  generalize sg.known ⟨f, g, a⟩ = s at *
  have hTb := HT.out.below (below_set3 hbl (Nat.le_refl _) (.int .i64 s.fg) (.int .i64 s.bg) (.int .i64 s.at_)) h2
  have hm' := hTb.marks
  have m0 : (((w1.setCell ⟨B, 0, none⟩ (.int .i64 s.fg)).setCell ⟨B, 1, none⟩ (.int .i64 s.bg)).setCell ⟨B, 2, none⟩ (.int .i64 s.at_)).cell? ⟨0, 0, none⟩ = some (.int .i64 1) := hm' 0 (by decide)
  have m1 : (((w1.setCell ⟨B, 0, none⟩ (.int .i64 s.fg)).setCell ⟨B, 1, none⟩ (.int .i64 s.bg)).setCell ⟨B, 2, none⟩ (.int .i64 s.at_)).cell? ⟨0, 1, none⟩ = some (.int .i64 1) := hm' 1 (by decide)
  have m2 : (((w1.setCell ⟨B, 0, none⟩ (.int .i64 s.fg)).setCell ⟨B, 1, none⟩ (.int .i64 s.bg)).setCell ⟨B, 2, none⟩ (.int .i64 s.at_)).cell? ⟨0, 2, none⟩ = some (.int .i64 22) := hm' 2 (by decide)
  have m3 : (((w1.setCell ⟨B, 0, none⟩ (.int .i64 s.fg)).setCell ⟨B, 1, none⟩ (.int .i64 s.bg)).setCell ⟨B, 2, none⟩ (.int .i64 s.at_)).cell? ⟨0, 3, none⟩ = some (.int .i64 2) := hm' 3 (by decide)
  have m4 : (((w1.setCell ⟨B, 0, none⟩ (.int .i64 s.fg)).setCell ⟨B, 1, none⟩ (.int .i64 s.bg)).setCell ⟨B, 2, none⟩ (.int .i64 s.at_)).cell? ⟨0, 4, none⟩ = some (.int .i64 2) := hm' 4 (by decide)
  have m5 : (((w1.setCell ⟨B, 0, none⟩ (.int .i64 s.fg)).setCell ⟨B, 1, none⟩ (.int .i64 s.bg)).setCell ⟨B, 2, none⟩ (.int .i64 s.at_)).cell? ⟨0, 5, none⟩ = some (.int .i64 22) := hm' 5 (by decide)
  have m6 : (((w1.setCell ⟨B, 0, none⟩ (.int .i64 s.fg)).setCell ⟨B, 1, none⟩ (.int .i64 s.bg)).setCell ⟨B, 2, none⟩ (.int .i64 s.at_)).cell? ⟨0, 6, none⟩ = some (.int .i64 4) := hm' 6 (by decide)
  have m7 : (((w1.setCell ⟨B, 0, none⟩ (.int .i64 s.fg)).setCell ⟨B, 1, none⟩ (.int .i64 s.bg)).setCell ⟨B, 2, none⟩ (.int .i64 s.at_)).cell? ⟨0, 7, none⟩ = some (.int .i64 3) := hm' 7 (by decide)
  have m8 : (((w1.setCell ⟨B, 0, none⟩ (.int .i64 s.fg)).setCell ⟨B, 1, none⟩ (.int .i64 s.bg)).setCell ⟨B, 2, none⟩ (.int .i64 s.at_)).cell? ⟨0, 8, none⟩ = some (.int .i64 23) := hm' 8 (by decide)
  have m9 : (((w1.setCell ⟨B, 0, none⟩ (.int .i64 s.fg)).setCell ⟨B, 1, none⟩ (.int .i64 s.bg)).setCell ⟨B, 2, none⟩ (.int .i64 s.at_)).cell? ⟨0, 9, none⟩ = some (.int .i64 8) := hm' 9 (by decide)
  have m10 : (((w1.setCell ⟨B, 0, none⟩ (.int .i64 s.fg)).setCell ⟨B, 1, none⟩ (.int .i64 s.bg)).setCell ⟨B, 2, none⟩ (.int .i64 s.at_)).cell? ⟨0, 10, none⟩ = some (.int .i64 4) := hm' 10 (by decide)
  have m11 : (((w1.setCell ⟨B, 0, none⟩ (.int .i64 s.fg)).setCell ⟨B, 1, none⟩ (.int .i64 s.bg)).setCell ⟨B, 2, none⟩ (.int .i64 s.at_)).cell? ⟨0, 11, none⟩ = some (.int .i64 24) := hm' 11 (by decide)
  have m12 : (((w1.setCell ⟨B, 0, none⟩ (.int .i64 s.fg)).setCell ⟨B, 1, none⟩ (.int .i64 s.bg)).setCell ⟨B, 2, none⟩ (.int .i64 s.at_)).cell? ⟨0, 12, none⟩ = some (.int .i64 16) := hm' 12 (by decide)
  have m13 : (((w1.setCell ⟨B, 0, none⟩ (.int .i64 s.fg)).setCell ⟨B, 1, none⟩ (.int .i64 s.bg)).setCell ⟨B, 2, none⟩ (.int .i64 s.at_)).cell? ⟨0, 13, none⟩ = some (.int .i64 7) := hm' 13 (by decide)
  have m14 : (((w1.setCell ⟨B, 0, none⟩ (.int .i64 s.fg)).setCell ⟨B, 1, none⟩ (.int .i64 s.bg)).setCell ⟨B, 2, none⟩ (.int .i64 s.at_)).cell? ⟨0, 14, none⟩ = some (.int .i64 27) := hm' 14 (by decide)
  obtain ⟨k0, k1, k2, f0, f1, f2, u0⟩ := s0.cells
  have hat := at_of_right hrt
  have hsz := hbl.size
  have HP : Hid (PR w ((((w1.setCell ⟨B, 0, none⟩ (.int .i64 s.fg)).setCell ⟨B, 1, none⟩ (.int .i64 s.bg)).setCell ⟨B, 2, none⟩ (.int .i64 s.at_)).alloc (.cells #[.int .i64 0] 3)) B (.slice (some ⟨w1.heap.size, 0, none⟩) 1 1) (0 :: marksUp s.at_ 0) s) := by
    refine Lib.hid ⟨?_, ?_, ?_⟩
    · have := Row.new (((w1.setCell ⟨B, 0, none⟩ (.int .i64 s.fg)).setCell ⟨B, 1, none⟩ (.int .i64 s.bg)).setCell ⟨B, 2, none⟩ (.int .i64 s.at_)) [0] (by simp)
      have h3 := own_base (base' := B + 1) this (by simp; omega)
      simp only [World.size_setCell] at h3
      exact h3
    · exact (st_set3 s0 _ _ _).kept ((Kept.refl _ (fun _ => False)).alloc _) (fun h => h)
    · exact ((below_set3 hbl (Nat.le_refl _) _ _ _).alloc (by simp; omega) _)
  have HRT := Lib.hid hrt
  have hlt1 : 0 < w1.heap.size := by omega
  have hneB : B ≠ 0 := by omega
  have hneB' : (0 : Nat) ≠ B := by omega
  clear hm hm' hTb s0 hbl hrt hlt
  have HAT := Lib.hid hat
  go_wp2_with fail
  clear k0 k1 k2 f0 f1 f2 u0 m0 m1 m2 m3 m4 m5 m6 m7 m8 m9 m10 m11 m12 m13 m14 hsz hat hlt1 hneB hneB'
  go_loopg [3, 10] 5 (fun gg s3 s10 wr => ∃ (k : Nat) (z : Int) (o : Option Addr) (n cap : Nat), s3 = .slice o n cap ∧ s10 = .int .i64 z ∧ z = k ∧ k ≤ 5 ∧ 5 - k ≤ gg ∧ Hid (n = ((0 : Int) :: marksUp s.at_ k).length) ∧ Hid (PR w wr B (.slice o n cap) (0 :: marksUp s.at_ k) s))
  case atStart => exact ⟨0, 0, _, _, _, rfl, rfl, rfl, by omega, by omega, Lib.hid rfl, HP⟩
  case round =>
    obtain ⟨k, z, o, n, cap, rfl, rfl, hz, hk, hgg, HN, HPR⟩ := hrel
    clear HP
    obtain ⟨k0, k1, k2, f0, f1, f2, u0⟩ := HPR.out.st.cells
    have hrl := row_len s.at_ k
    have HRL := Lib.hid hrl; clear hrl
    by_cases hlt : k < 5
    · have hA := sg.and_mark HAT.out.1 HAT.out.2
      obtain ⟨e1, e2, e3, e4, e5⟩ := hA
      obtain rfl | rfl | rfl | rfl | rfl : k = 0 ∨ k = 1 ∨ k = 2 ∨ k = 3 ∨ k = 4 := by omega
      · have hz2 : z = 0 := by omega
        clear hz; subst hz2
        have hup : marksUp s.at_ 1 = marksUp s.at_ 0 ++ (if sg.has s.at_ 1 then [1] else []) := rfl
        generalize hh : sg.has s.at_ 1 = h at *
        have HU := Lib.hid hup; have HE := Lib.hid e1
        clear hup e1 e2 e3 e4 e5 hh
        cases h
        · have hb : (bits BinOp.and IntKind.i64 s.at_ 1 != 0) = false := HE.out
          have HB2 := Lib.hid hb
          rw [if_neg (by decide), List.append_nil] at HU
          go_wp2_with fail
          go_roundg (5 - 1)
          case measure => omega
          case rel => exact ⟨1, 1, o, n, cap, rfl, rfl, rfl, by omega, Nat.le_refl _, by rw [HU.out]; exact HN, Lib.hid (by rw [HU.out]; exact HPR.out.new (below_one wr _))⟩
        · have hb : (bits BinOp.and IntKind.i64 s.at_ 1 != 0) = true := HE.out
          rw [if_pos rfl] at HU
          go_wp2_with (at_builtin; refine wpList_append_ints rfl _ _ 43 rfl (B + 1) 3 i0 (Value.int .i64 0) Tryd.underlying43 hi hz0 hz1 hz2 rfl (.slice o n cap) n (0 :: marksUp s.at_ 0) rfl ?c1 (some ⟨wr.heap.size + 1, 0, none⟩) 1 1 [1] rfl (new_two wr _ _) ?c2 ?c3 ?_)
          case c1 => exact (HPR.out.new (below_two wr _ _)).own HN.out
          case c2 => have := HN.out; have := HRL.out; omega
          case c3 => simp; omega
          intro v' w2 hr2 hg2
          have HPR2 := Lib.hid ((HPR.out.new (below_two wr _ _)).grow (ys := 0 :: marksUp s.at_ 0 ++ [1]) (v' := v') (m := n + 1) hg2 (by rw [List.length_append, ← HN.out]; rfl) (by simpa using hr2))
          obtain ⟨o', cap', hv', _⟩ := HPR2.out.row.slice
          subst hv'
          clear hr2 hg2
          go_wp2_with fail
          go_roundg (5 - 1)
          case measure => omega
          case rel => exact ⟨1, 1, o', _, cap', rfl, rfl, rfl, by omega, Nat.le_refl _, Lib.hid (by rw [HU.out]; rfl), Lib.hid (by rw [HU.out]; exact HPR2.out)⟩
      · have hz2 : z = 1 := by omega
        clear hz; subst hz2
        have hup : marksUp s.at_ 2 = marksUp s.at_ 1 ++ (if sg.has s.at_ 2 then [2] else []) := rfl
        generalize hh : sg.has s.at_ 2 = h at *
        have HU := Lib.hid hup; have HE := Lib.hid e2
        clear hup e1 e2 e3 e4 e5 hh
        cases h
        · have hb : (bits BinOp.and IntKind.i64 s.at_ 2 != 0) = false := HE.out
          have HB2 := Lib.hid hb
          rw [if_neg (by decide), List.append_nil] at HU
          go_wp2_with fail
          go_roundg (5 - 2)
          case measure => omega
          case rel => exact ⟨2, 2, o, n, cap, rfl, rfl, rfl, by omega, Nat.le_refl _, by rw [HU.out]; exact HN, Lib.hid (by rw [HU.out]; exact HPR.out.new (below_one wr _))⟩
        · have hb : (bits BinOp.and IntKind.i64 s.at_ 2 != 0) = true := HE.out
          rw [if_pos rfl] at HU
          go_wp2_with (at_builtin; refine wpList_append_ints rfl _ _ 43 rfl (B + 1) 3 i0 (Value.int .i64 0) Tryd.underlying43 hi hz0 hz1 hz2 rfl (.slice o n cap) n (0 :: marksUp s.at_ 1) rfl ?c1 (some ⟨wr.heap.size + 1, 0, none⟩) 1 1 [2] rfl (new_two wr _ _) ?c2 ?c3 ?_)
          case c1 => exact (HPR.out.new (below_two wr _ _)).own HN.out
          case c2 => have := HN.out; have := HRL.out; omega
          case c3 => simp; omega
          intro v' w2 hr2 hg2
          have HPR2 := Lib.hid ((HPR.out.new (below_two wr _ _)).grow (ys := 0 :: marksUp s.at_ 1 ++ [2]) (v' := v') (m := n + 1) hg2 (by rw [List.length_append, ← HN.out]; rfl) (by simpa using hr2))
          obtain ⟨o', cap', hv', _⟩ := HPR2.out.row.slice
          subst hv'
          clear hr2 hg2
          go_wp2_with fail
          go_roundg (5 - 2)
          case measure => omega
          case rel => exact ⟨2, 2, o', _, cap', rfl, rfl, rfl, by omega, Nat.le_refl _, Lib.hid (by rw [HU.out]; rfl), Lib.hid (by rw [HU.out]; exact HPR2.out)⟩
      · have hz2 : z = 2 := by omega
        clear hz; subst hz2
        have hup : marksUp s.at_ 3 = marksUp s.at_ 2 ++ (if sg.has s.at_ 4 then [3] else []) := rfl
        generalize hh : sg.has s.at_ 4 = h at *
        have HU := Lib.hid hup; have HE := Lib.hid e3
        clear hup e1 e2 e3 e4 e5 hh
        cases h
        · have hb : (bits BinOp.and IntKind.i64 s.at_ 4 != 0) = false := HE.out
          have HB2 := Lib.hid hb
          rw [if_neg (by decide), List.append_nil] at HU
          go_wp2_with fail
          go_roundg (5 - 3)
          case measure => omega
          case rel => exact ⟨3, 3, o, n, cap, rfl, rfl, rfl, by omega, Nat.le_refl _, by rw [HU.out]; exact HN, Lib.hid (by rw [HU.out]; exact HPR.out.new (below_one wr _))⟩
        · have hb : (bits BinOp.and IntKind.i64 s.at_ 4 != 0) = true := HE.out
          rw [if_pos rfl] at HU
          go_wp2_with (at_builtin; refine wpList_append_ints rfl _ _ 43 rfl (B + 1) 3 i0 (Value.int .i64 0) Tryd.underlying43 hi hz0 hz1 hz2 rfl (.slice o n cap) n (0 :: marksUp s.at_ 2) rfl ?c1 (some ⟨wr.heap.size + 1, 0, none⟩) 1 1 [3] rfl (new_two wr _ _) ?c2 ?c3 ?_)
          case c1 => exact (HPR.out.new (below_two wr _ _)).own HN.out
          case c2 => have := HN.out; have := HRL.out; omega
          case c3 => simp; omega
          intro v' w2 hr2 hg2
          have HPR2 := Lib.hid ((HPR.out.new (below_two wr _ _)).grow (ys := 0 :: marksUp s.at_ 2 ++ [3]) (v' := v') (m := n + 1) hg2 (by rw [List.length_append, ← HN.out]; rfl) (by simpa using hr2))
          obtain ⟨o', cap', hv', _⟩ := HPR2.out.row.slice
          subst hv'
          clear hr2 hg2
          go_wp2_with fail
          go_roundg (5 - 3)
          case measure => omega
          case rel => exact ⟨3, 3, o', _, cap', rfl, rfl, rfl, by omega, Nat.le_refl _, Lib.hid (by rw [HU.out]; rfl), Lib.hid (by rw [HU.out]; exact HPR2.out)⟩
      · have hz2 : z = 3 := by omega
        clear hz; subst hz2
        have hup : marksUp s.at_ 4 = marksUp s.at_ 3 ++ (if sg.has s.at_ 8 then [4] else []) := rfl
        generalize hh : sg.has s.at_ 8 = h at *
        have HU := Lib.hid hup; have HE := Lib.hid e4
        clear hup e1 e2 e3 e4 e5 hh
        cases h
        · have hb : (bits BinOp.and IntKind.i64 s.at_ 8 != 0) = false := HE.out
          have HB2 := Lib.hid hb
          rw [if_neg (by decide), List.append_nil] at HU
          go_wp2_with fail
          go_roundg (5 - 4)
          case measure => omega
          case rel => exact ⟨4, 4, o, n, cap, rfl, rfl, rfl, by omega, Nat.le_refl _, by rw [HU.out]; exact HN, Lib.hid (by rw [HU.out]; exact HPR.out.new (below_one wr _))⟩
        · have hb : (bits BinOp.and IntKind.i64 s.at_ 8 != 0) = true := HE.out
          rw [if_pos rfl] at HU
          go_wp2_with (at_builtin; refine wpList_append_ints rfl _ _ 43 rfl (B + 1) 3 i0 (Value.int .i64 0) Tryd.underlying43 hi hz0 hz1 hz2 rfl (.slice o n cap) n (0 :: marksUp s.at_ 3) rfl ?c1 (some ⟨wr.heap.size + 1, 0, none⟩) 1 1 [4] rfl (new_two wr _ _) ?c2 ?c3 ?_)
          case c1 => exact (HPR.out.new (below_two wr _ _)).own HN.out
          case c2 => have := HN.out; have := HRL.out; omega
          case c3 => simp; omega
          intro v' w2 hr2 hg2
          have HPR2 := Lib.hid ((HPR.out.new (below_two wr _ _)).grow (ys := 0 :: marksUp s.at_ 3 ++ [4]) (v' := v') (m := n + 1) hg2 (by rw [List.length_append, ← HN.out]; rfl) (by simpa using hr2))
          obtain ⟨o', cap', hv', _⟩ := HPR2.out.row.slice
          subst hv'
          clear hr2 hg2
          go_wp2_with fail
          go_roundg (5 - 4)
          case measure => omega
          case rel => exact ⟨4, 4, o', _, cap', rfl, rfl, rfl, by omega, Nat.le_refl _, Lib.hid (by rw [HU.out]; rfl), Lib.hid (by rw [HU.out]; exact HPR2.out)⟩
      · have hz2 : z = 4 := by omega
        clear hz; subst hz2
        have hup : marksUp s.at_ 5 = marksUp s.at_ 4 ++ (if sg.has s.at_ 16 then [7] else []) := rfl
        generalize hh : sg.has s.at_ 16 = h at *
        have HU := Lib.hid hup; have HE := Lib.hid e5
        clear hup e1 e2 e3 e4 e5 hh
        cases h
        · have hb : (bits BinOp.and IntKind.i64 s.at_ 16 != 0) = false := HE.out
          have HB2 := Lib.hid hb
          rw [if_neg (by decide), List.append_nil] at HU
          go_wp2_with fail
          go_roundg (5 - 5)
          case measure => omega
          case rel => exact ⟨5, 5, o, n, cap, rfl, rfl, rfl, by omega, Nat.le_refl _, by rw [HU.out]; exact HN, Lib.hid (by rw [HU.out]; exact HPR.out.new (below_one wr _))⟩
        · have hb : (bits BinOp.and IntKind.i64 s.at_ 16 != 0) = true := HE.out
          rw [if_pos rfl] at HU
          go_wp2_with (at_builtin; refine wpList_append_ints rfl _ _ 43 rfl (B + 1) 3 i0 (Value.int .i64 0) Tryd.underlying43 hi hz0 hz1 hz2 rfl (.slice o n cap) n (0 :: marksUp s.at_ 4) rfl ?c1 (some ⟨wr.heap.size + 1, 0, none⟩) 1 1 [7] rfl (new_two wr _ _) ?c2 ?c3 ?_)
          case c1 => exact (HPR.out.new (below_two wr _ _)).own HN.out
          case c2 => have := HN.out; have := HRL.out; omega
          case c3 => simp; omega
          intro v' w2 hr2 hg2
          have HPR2 := Lib.hid ((HPR.out.new (below_two wr _ _)).grow (ys := 0 :: marksUp s.at_ 4 ++ [7]) (v' := v') (m := n + 1) hg2 (by rw [List.length_append, ← HN.out]; rfl) (by simpa using hr2))
          obtain ⟨o', cap', hv', _⟩ := HPR2.out.row.slice
          subst hv'
          clear hr2 hg2
          go_wp2_with fail
          go_roundg (5 - 5)
          case measure => omega
          case rel => exact ⟨5, 5, o', _, cap', rfl, rfl, rfl, by omega, Nat.le_refl _, Lib.hid (by rw [HU.out]; rfl), Lib.hid (by rw [HU.out]; exact HPR2.out)⟩
    · obtain rfl : k = 5 := by omega
      have hz2 : z = 5 := by omega
      clear hz; subst hz2
      rw [marksUp_all] at HN HPR HRL
      have hc1 := HRT.out
      simp only [sg.right, Bool.and_eq_true] at hc1
      have HC := Lib.hid hc1; clear hc1 hlt
      go_wp2_with fail
      refine (colourParams_any _ _ _ HC.out.1.1.1 (by decide)).mono ?_
      rintro e w2 ⟨o2, n2, c2, rfl, hi2, hb2⟩
      have HI2 := Lib.hid hi2; have HPR2 := Lib.hid (HPR.out.new hb2)
      have hl2 := sg.colourP_len s.fg 30
      have hn2 := hi2.len
      have hn2' : n2 ≤ 5 := by omega
      have HN2 := Lib.hid hn2
      clear hi2 hb2 hn2 hl2 k0 k1 k2 f0 f1 f2 u0
      go_wp2_with (at_builtin; refine wpList_append_ints rfl _ _ 43 rfl (B + 1) 3 i0 (Value.int .i64 0) Tryd.underlying43 hi hz0 hz1 hz2 rfl (.slice o n cap) n (0 :: sg.marksP s.at_) rfl ?c1 o2 n2 c2 (sg.colourP s.fg 30) rfl HI2.out ?c2 ?c3 ?_)
      case c1 => exact HPR2.out.own HN.out
      case c2 => have := HN.out; have := HRL.out; omega
      case c3 => exact HPR2.out.st.cells.lt
      intro v' w3 hr3 hg3
      have HPR3 := Lib.hid (HPR2.out.grow (ys := 0 :: sg.marksP s.at_ ++ sg.colourP s.fg 30) (v' := v') (m := n + n2) hg3 (by rw [List.length_append, ← HN.out, HN2.out]) (by simpa using hr3))
      obtain ⟨o3, cap3, hv3, _⟩ := HPR3.out.row.slice
      subst hv3
      obtain ⟨k0, k1, k2, f0, f1, f2, u0⟩ := HPR3.out.st.cells
      generalize hn3 : (0 :: sg.marksP s.at_ ++ sg.colourP s.fg 30).length = n3 at *
      have hn3' : n3 ≤ 11 := by rw [← hn3, List.length_append]; have := HRL.out; have := HN2.out; omega
      have HN3 := Lib.hid hn3
      clear hr3 hg3 hn3
      go_wp2_with fail
      refine (colourParams_any _ _ _ HC.out.1.1.2 (by decide)).mono ?_
      rintro e w4 ⟨o4, n4, c4, rfl, hi4, hb4⟩
      have HI4 := Lib.hid hi4; have HPR4 := Lib.hid (HPR3.out.new hb4)
      have hl4 := sg.colourP_len s.bg 40
      have hn4 := hi4.len
      have hn4' : n4 ≤ 5 := by omega
      have HN4 := Lib.hid hn4
      clear hi4 hb4 hn4 hl4 k0 k1 k2 f0 f1 f2 u0
      go_wp2_with (at_builtin; refine wpList_append_ints rfl _ _ 43 rfl (B + 1) 3 i0 (Value.int .i64 0) Tryd.underlying43 hi hz0 hz1 hz2 rfl (.slice o3 n3 cap3) n3 (0 :: sg.marksP s.at_ ++ sg.colourP s.fg 30) rfl ?c4 o4 n4 c4 (sg.colourP s.bg 40) rfl HI4.out ?c5 ?c6 ?_)
      case c4 => exact HPR4.out.own HN3.out.symm
      case c5 => omega
      case c6 => exact HPR4.out.st.cells.lt
      intro v' w5 hr5 hg5
      have HPR5 := Lib.hid (HPR4.out.grow (ys := 0 :: sg.marksP s.at_ ++ sg.colourP s.fg 30 ++ sg.colourP s.bg 40) (v' := v') (m := n3 + n4) hg5 (by rw [List.length_append, HN3.out, HN4.out]) (by simpa using hr5))
      rw [← HR.out] at HPR5
      obtain ⟨o5, cap5, hv5, hi5⟩ := HPR5.out.row.slice
      subst hv5
      have HG : Hid (Gives w R (.returned (.slice o5 R.length cap5)) w5) := Lib.hid ⟨_, _, _, rfl, hi5, by rw [HB.out]; exact HPR5.out.bel⟩
      clear hr5 hg5 hi5
      go_wp2_with fail
      go_ret
      exact HG.out
end Go.Proofs.YtgkodjkhhmcnnaaDoor.S5
