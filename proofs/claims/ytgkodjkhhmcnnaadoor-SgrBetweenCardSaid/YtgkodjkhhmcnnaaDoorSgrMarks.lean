/- setMarks. -/
import Derived.Test.YtgkodjkhhmcnnaaDoorSgrCode
namespace Go.Proofs.YtgkodjkhhmcnnaaDoor.S5
open Go.RowKit
attribute [local go_sem ↓ 10000] run_marks0 run_marks1 run_marks2 run_marks3 run_marks4
theorem mark_bound {x : Int} (m : Int) (hm : m = 1 ∨ m = 2 ∨ m = 4 ∨ m = 8 ∨ m = 16) (h0 : 0 ≤ x) (h1 : x ≤ 31) : (0 ≤ sg.withM x m ∧ sg.withM x m ≤ 31) ∧ (0 ≤ sg.without x m ∧ sg.without x m ≤ 31) := by
  have key : ∀ i : Fin 32, ∀ m : Fin 5, (0 ≤ sg.withM (i.val : Int) ([1, 2, 4, 8, 16].getD m.val 0) ∧ sg.withM (i.val : Int) ([1, 2, 4, 8, 16].getD m.val 0) ≤ 31) ∧ (0 ≤ sg.without (i.val : Int) ([1, 2, 4, 8, 16].getD m.val 0) ∧ sg.without (i.val : Int) ([1, 2, 4, 8, 16].getD m.val 0) ≤ 31) := by decide
  obtain ⟨i, rfl⟩ := sg.fin32 h0 h1
  rcases hm with rfl | rfl | rfl | rfl | rfl
  · exact key i 0
  · exact key i 1
  · exact key i 2
  · exact key i 3
  · exact key i 4
theorem mark_set {w wr : World} {b : Nat} {f g x : Int} (o : Obj) (y y' : Int) (h : StAt wr b ⟨f, g, x⟩) (hk : Kept w wr (· = b)) (hy : y' = y) :
    Hid (StAt ((wr.setCell ⟨b, 2, none⟩ (.int .i64 y)).alloc o).drew b ⟨f, g, y'⟩) ∧ Kept w ((wr.setCell ⟨b, 2, none⟩ (.int .i64 y)).alloc o).drew (· = b) := by
  subst hy
  exact ⟨Lib.hid ((h.set2 y').kept ((Kept.refl _ (fun _ => False)).alloc o).drew (fun h => h)), ((hk.setCell (fun _ => rfl) _).alloc o).drew⟩
theorem mark_not {w wr : World} {b : Nat} {s : sg.St} (o : Obj) (h : StAt wr b s) (hk : Kept w wr (· = b)) : Hid (StAt (wr.alloc o) b s) ∧ Kept w (wr.alloc o) (· = b) :=
  ⟨Lib.hid (h.kept ((Kept.refl wr (fun _ => False)).alloc o) (fun h => h)), hk.alloc o⟩
set_option maxRecDepth 100000 in
set_option maxHeartbeats 1000000 in
theorem setMarks_any (b : Nat) (s : sg.St) (n : Int) (w : World) (hs : StAt w b s) (ht : Tabs w) (h0 : 0 ≤ s.at_) (h1 : s.at_ ≤ 31) :
    Calls Tryd.prog 51 #[.pointer (some ⟨b, 2, none⟩), .int .i64 n] w fun e w' => e = .returned (.tuple #[]) ∧ StAt w' b ⟨s.fg, s.bg, sg.markOf s.at_ n⟩ ∧ Kept w w' (· = b) := by
  rw [← markK_all]
  have m0 := ht.marks 0 (by decide); have m1 := ht.marks 1 (by decide); have m2 := ht.marks 2 (by decide); have m3 := ht.marks 3 (by decide); have m4 := ht.marks 4 (by decide); have m5 := ht.marks 5 (by decide); have m6 := ht.marks 6 (by decide); have m7 := ht.marks 7 (by decide); have m8 := ht.marks 8 (by decide); have m9 := ht.marks 9 (by decide); have m10 := ht.marks 10 (by decide); have m11 := ht.marks 11 (by decide); have m12 := ht.marks 12 (by decide); have m13 := ht.marks 13 (by decide); have m14 := ht.marks 14 (by decide)
  have hlt := ht.lt.1
  simp only [List.getD, List.getElem?_cons_zero, List.getElem?_cons_succ, Option.getD_some] at m0 m1 m2 m3 m4 m5 m6 m7 m8 m9 m10 m11 m12 m13 m14
  have HS := Lib.hid hs; clear hs ht
  go_enter Tryd.func51, Tryd.ntmps51
  go_wp2_with fail
  go_loopg [7] 5 (fun gg s7 wr => ∃ (k : Nat) (z : Int), s7 = .int .i64 z ∧ z = k ∧ k ≤ 5 ∧ 5 - k ≤ gg ∧ Hid (StAt wr b ⟨s.fg, s.bg, markK s.at_ n k⟩) ∧ 0 ≤ markK s.at_ n k ∧ markK s.at_ n k ≤ 31 ∧ Kept w wr (· = b))
  case atStart => exact ⟨0, 0, rfl, rfl, by omega, by omega, HS, h0, h1, Kept.refl _ _⟩
  case round =>
    obtain ⟨k, z, rfl, hz, hk, hgg, HA, ha0, ha1, hkp⟩ := hrel
    clear m0 m1 m2 m3 m4 m5 m6 m7 m8 m9 m10 m11 m12 m13 m14 HS h0 h1 hlt
    by_cases hlt : k < 5
    · obtain ⟨k0, k1, k2, f0, f1, f2, u0⟩ := HA.out.cells
      generalize hxe : markK s.at_ n k = x at *
      replace hxe := hxe.symm
      have HX := Lib.hid (show x = markK s.at_ n k from hxe); clear hxe
      obtain ⟨e1, e2, e3, e4, e5⟩ := sg.or_mark ha0 ha1
      obtain ⟨d1, d2, d3, d4, d5⟩ := sg.not_mark ha0 ha1
      obtain rfl | rfl | rfl | rfl | rfl : k = 0 ∨ k = 1 ∨ k = 2 ∨ k = 3 ∨ k = 4 := by omega
      · have hz2 : z = 0 := by omega
        clear hz; subst hz2
        have hst : markK s.at_ n 1 = if n = 1 then sg.withM x 1 else if n = 22 then sg.without x 1 else x := by rw [HX.out]; rfl
        have hbd := mark_bound 1 (by omega) ha0 ha1
        have HT := Lib.hid hst; have HE := Lib.hid e1; have HD := Lib.hid d1; have HB := Lib.hid hbd
        clear hst hbd e1 e2 e3 e4 e5 d1 d2 d3 d4 d5
        go_wp2_with fail
        rotate_left 2
        · rename_i hw1 hw2
          have hw1 : n ≠ 1 := by simpa using hw1
          have hw2 : n ≠ 22 := by simpa using hw2
          obtain ⟨h1, h2⟩ := mark_not _ HA.out hkp
          go_roundg (5 - 1)
          case measure => omega
          case rel => exact ⟨1, 1, rfl, rfl, by omega, Nat.le_refl _, by rw [HT.out, if_neg hw1, if_neg hw2]; exact h1, by rw [HT.out, if_neg hw1, if_neg hw2]; exact ha0, by rw [HT.out, if_neg hw1, if_neg hw2]; exact ha1, h2⟩
        · rename_i hw1
          have hw1 : n = 1 := by simpa using hw1
          go_region
          go_wp2
          obtain ⟨h1, h2⟩ := mark_set _ _ (markK s.at_ n 1) HA.out hkp (by rw [HT.out, if_pos hw1, ← HE.out])
          go_roundg (5 - 1)
          case measure => omega
          case rel => exact ⟨1, 1, rfl, rfl, by omega, Nat.le_refl _, h1, by rw [HT.out, if_pos hw1]; exact HB.out.1.1, by rw [HT.out, if_pos hw1]; exact HB.out.1.2, h2⟩
        · rename_i hw1 hw2
          have hw1 : n ≠ 1 := by simpa using hw1
          have hw2 : n = 22 := by simpa using hw2
          go_region
          go_wp2
          obtain ⟨h1, h2⟩ := mark_set _ _ (markK s.at_ n 1) HA.out hkp (by rw [HT.out, if_neg hw1, if_pos hw2, ← HD.out])
          go_roundg (5 - 1)
          case measure => omega
          case rel => exact ⟨1, 1, rfl, rfl, by omega, Nat.le_refl _, h1, by rw [HT.out, if_neg hw1, if_pos hw2]; exact HB.out.2.1, by rw [HT.out, if_neg hw1, if_pos hw2]; exact HB.out.2.2, h2⟩
      · have hz2 : z = 1 := by omega
        clear hz; subst hz2
        have hst : markK s.at_ n 2 = if n = 2 then sg.withM x 2 else if n = 22 then sg.without x 2 else x := by rw [HX.out]; rfl
        have hbd := mark_bound 2 (by omega) ha0 ha1
        have HT := Lib.hid hst; have HE := Lib.hid e2; have HD := Lib.hid d2; have HB := Lib.hid hbd
        clear hst hbd e1 e2 e3 e4 e5 d1 d2 d3 d4 d5
        go_wp2_with fail
        rotate_left 2
        · rename_i hw1 hw2
          have hw1 : n ≠ 2 := by simpa using hw1
          have hw2 : n ≠ 22 := by simpa using hw2
          obtain ⟨h1, h2⟩ := mark_not _ HA.out hkp
          go_roundg (5 - 2)
          case measure => omega
          case rel => exact ⟨2, 2, rfl, rfl, by omega, Nat.le_refl _, by rw [HT.out, if_neg hw1, if_neg hw2]; exact h1, by rw [HT.out, if_neg hw1, if_neg hw2]; exact ha0, by rw [HT.out, if_neg hw1, if_neg hw2]; exact ha1, h2⟩
        · rename_i hw1
          have hw1 : n = 2 := by simpa using hw1
          go_region
          go_wp2
          obtain ⟨h1, h2⟩ := mark_set _ _ (markK s.at_ n 2) HA.out hkp (by rw [HT.out, if_pos hw1, ← HE.out])
          go_roundg (5 - 2)
          case measure => omega
          case rel => exact ⟨2, 2, rfl, rfl, by omega, Nat.le_refl _, h1, by rw [HT.out, if_pos hw1]; exact HB.out.1.1, by rw [HT.out, if_pos hw1]; exact HB.out.1.2, h2⟩
        · rename_i hw1 hw2
          have hw1 : n ≠ 2 := by simpa using hw1
          have hw2 : n = 22 := by simpa using hw2
          go_region
          go_wp2
          obtain ⟨h1, h2⟩ := mark_set _ _ (markK s.at_ n 2) HA.out hkp (by rw [HT.out, if_neg hw1, if_pos hw2, ← HD.out])
          go_roundg (5 - 2)
          case measure => omega
          case rel => exact ⟨2, 2, rfl, rfl, by omega, Nat.le_refl _, h1, by rw [HT.out, if_neg hw1, if_pos hw2]; exact HB.out.2.1, by rw [HT.out, if_neg hw1, if_pos hw2]; exact HB.out.2.2, h2⟩
      · have hz2 : z = 2 := by omega
        clear hz; subst hz2
        have hst : markK s.at_ n 3 = if n = 3 then sg.withM x 4 else if n = 23 then sg.without x 4 else x := by rw [HX.out]; rfl
        have hbd := mark_bound 4 (by omega) ha0 ha1
        have HT := Lib.hid hst; have HE := Lib.hid e3; have HD := Lib.hid d3; have HB := Lib.hid hbd
        clear hst hbd e1 e2 e3 e4 e5 d1 d2 d3 d4 d5
        go_wp2_with fail
        rotate_left 2
        · rename_i hw1 hw2
          have hw1 : n ≠ 3 := by simpa using hw1
          have hw2 : n ≠ 23 := by simpa using hw2
          obtain ⟨h1, h2⟩ := mark_not _ HA.out hkp
          go_roundg (5 - 3)
          case measure => omega
          case rel => exact ⟨3, 3, rfl, rfl, by omega, Nat.le_refl _, by rw [HT.out, if_neg hw1, if_neg hw2]; exact h1, by rw [HT.out, if_neg hw1, if_neg hw2]; exact ha0, by rw [HT.out, if_neg hw1, if_neg hw2]; exact ha1, h2⟩
        · rename_i hw1
          have hw1 : n = 3 := by simpa using hw1
          go_region
          go_wp2
          obtain ⟨h1, h2⟩ := mark_set _ _ (markK s.at_ n 3) HA.out hkp (by rw [HT.out, if_pos hw1, ← HE.out])
          go_roundg (5 - 3)
          case measure => omega
          case rel => exact ⟨3, 3, rfl, rfl, by omega, Nat.le_refl _, h1, by rw [HT.out, if_pos hw1]; exact HB.out.1.1, by rw [HT.out, if_pos hw1]; exact HB.out.1.2, h2⟩
        · rename_i hw1 hw2
          have hw1 : n ≠ 3 := by simpa using hw1
          have hw2 : n = 23 := by simpa using hw2
          go_region
          go_wp2
          obtain ⟨h1, h2⟩ := mark_set _ _ (markK s.at_ n 3) HA.out hkp (by rw [HT.out, if_neg hw1, if_pos hw2, ← HD.out])
          go_roundg (5 - 3)
          case measure => omega
          case rel => exact ⟨3, 3, rfl, rfl, by omega, Nat.le_refl _, h1, by rw [HT.out, if_neg hw1, if_pos hw2]; exact HB.out.2.1, by rw [HT.out, if_neg hw1, if_pos hw2]; exact HB.out.2.2, h2⟩
      · have hz2 : z = 3 := by omega
        clear hz; subst hz2
        have hst : markK s.at_ n 4 = if n = 4 then sg.withM x 8 else if n = 24 then sg.without x 8 else x := by rw [HX.out]; rfl
        have hbd := mark_bound 8 (by omega) ha0 ha1
        have HT := Lib.hid hst; have HE := Lib.hid e4; have HD := Lib.hid d4; have HB := Lib.hid hbd
        clear hst hbd e1 e2 e3 e4 e5 d1 d2 d3 d4 d5
        go_wp2_with fail
        rotate_left 2
        · rename_i hw1 hw2
          have hw1 : n ≠ 4 := by simpa using hw1
          have hw2 : n ≠ 24 := by simpa using hw2
          obtain ⟨h1, h2⟩ := mark_not _ HA.out hkp
          go_roundg (5 - 4)
          case measure => omega
          case rel => exact ⟨4, 4, rfl, rfl, by omega, Nat.le_refl _, by rw [HT.out, if_neg hw1, if_neg hw2]; exact h1, by rw [HT.out, if_neg hw1, if_neg hw2]; exact ha0, by rw [HT.out, if_neg hw1, if_neg hw2]; exact ha1, h2⟩
        · rename_i hw1
          have hw1 : n = 4 := by simpa using hw1
          go_region
          go_wp2
          obtain ⟨h1, h2⟩ := mark_set _ _ (markK s.at_ n 4) HA.out hkp (by rw [HT.out, if_pos hw1, ← HE.out])
          go_roundg (5 - 4)
          case measure => omega
          case rel => exact ⟨4, 4, rfl, rfl, by omega, Nat.le_refl _, h1, by rw [HT.out, if_pos hw1]; exact HB.out.1.1, by rw [HT.out, if_pos hw1]; exact HB.out.1.2, h2⟩
        · rename_i hw1 hw2
          have hw1 : n ≠ 4 := by simpa using hw1
          have hw2 : n = 24 := by simpa using hw2
          go_region
          go_wp2
          obtain ⟨h1, h2⟩ := mark_set _ _ (markK s.at_ n 4) HA.out hkp (by rw [HT.out, if_neg hw1, if_pos hw2, ← HD.out])
          go_roundg (5 - 4)
          case measure => omega
          case rel => exact ⟨4, 4, rfl, rfl, by omega, Nat.le_refl _, h1, by rw [HT.out, if_neg hw1, if_pos hw2]; exact HB.out.2.1, by rw [HT.out, if_neg hw1, if_pos hw2]; exact HB.out.2.2, h2⟩
      · have hz2 : z = 4 := by omega
        clear hz; subst hz2
        have hst : markK s.at_ n 5 = if n = 7 then sg.withM x 16 else if n = 27 then sg.without x 16 else x := by rw [HX.out]; rfl
        have hbd := mark_bound 16 (by omega) ha0 ha1
        have HT := Lib.hid hst; have HE := Lib.hid e5; have HD := Lib.hid d5; have HB := Lib.hid hbd
        clear hst hbd e1 e2 e3 e4 e5 d1 d2 d3 d4 d5
        go_wp2_with fail
        rotate_left 2
        · rename_i hw1 hw2
          have hw1 : n ≠ 7 := by simpa using hw1
          have hw2 : n ≠ 27 := by simpa using hw2
          obtain ⟨h1, h2⟩ := mark_not _ HA.out hkp
          go_roundg (5 - 5)
          case measure => omega
          case rel => exact ⟨5, 5, rfl, rfl, by omega, Nat.le_refl _, by rw [HT.out, if_neg hw1, if_neg hw2]; exact h1, by rw [HT.out, if_neg hw1, if_neg hw2]; exact ha0, by rw [HT.out, if_neg hw1, if_neg hw2]; exact ha1, h2⟩
        · rename_i hw1
          have hw1 : n = 7 := by simpa using hw1
          go_region
          go_wp2
          obtain ⟨h1, h2⟩ := mark_set _ _ (markK s.at_ n 5) HA.out hkp (by rw [HT.out, if_pos hw1, ← HE.out])
          go_roundg (5 - 5)
          case measure => omega
          case rel => exact ⟨5, 5, rfl, rfl, by omega, Nat.le_refl _, h1, by rw [HT.out, if_pos hw1]; exact HB.out.1.1, by rw [HT.out, if_pos hw1]; exact HB.out.1.2, h2⟩
        · rename_i hw1 hw2
          have hw1 : n ≠ 7 := by simpa using hw1
          have hw2 : n = 27 := by simpa using hw2
          go_region
          go_wp2
          obtain ⟨h1, h2⟩ := mark_set _ _ (markK s.at_ n 5) HA.out hkp (by rw [HT.out, if_neg hw1, if_pos hw2, ← HD.out])
          go_roundg (5 - 5)
          case measure => omega
          case rel => exact ⟨5, 5, rfl, rfl, by omega, Nat.le_refl _, h1, by rw [HT.out, if_neg hw1, if_pos hw2]; exact HB.out.2.1, by rw [HT.out, if_neg hw1, if_pos hw2]; exact HB.out.2.2, h2⟩
    · obtain rfl : k = 5 := by omega
      have hz2 : z = 5 := by omega
      clear hz; subst hz2
      go_wp2_with fail
      go_end0
      exact ⟨rfl, HA.out, hkp⟩
end Go.Proofs.YtgkodjkhhmcnnaaDoor.S5
