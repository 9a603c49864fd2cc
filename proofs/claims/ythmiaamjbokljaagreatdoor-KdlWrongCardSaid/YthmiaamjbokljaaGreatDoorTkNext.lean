/- The reader's next. -/
import Derived.Test.YthmiaamjbokljaaGreatDoorTkInt
namespace Go.Proofs.YthmiaamjbokljaaGreatDoor
open Go.RowKit
theorem tk.word_take (c : UInt8) (l : List UInt8) : (c :: l).take (tk.span tk.isWord (c :: l)) = (c :: l).takeWhile tk.isWord := by
  unfold tk.span
  exact List.prefix_iff_eq_take.1 (List.takeWhile_prefix tk.isWord) |>.symm
set_option maxRecDepth 100000 in
set_option maxHeartbeats 3200000 in
theorem next_any (p : Nat) (s : List UInt8) (r : tk.St) (V : Value) (w : World) (h : RdAt w p s r V) (ht : TT w) (hs : s.length ≤ 4096) (hat : r.at_ < s.length) (hlen : r.toks.length ≤ 1048576) :
    Calls Tryz.prog 34 #[.pointer (some ⟨p, 0, none⟩)] w fun e w' => e = .returned (.tuple #[]) ∧ (∃ V', RdAt w' p s (tk.next s r) V') ∧ Below p w w' := by
  have hsl := fun wx => run_str_lo s .i64 r.at_ (Nat.le_of_lt hat) wx
  have hdl : (s.drop r.at_).length = s.length - r.at_ := List.length_drop
  obtain ⟨c, l, hcl⟩ : ∃ c l, s.drop r.at_ = c :: l := by
    cases hq : s.drop r.at_ with
    | nil => rw [hq] at hdl; simp at hdl; omega
    | cons c l => exact ⟨c, l, rfl⟩
  have HN : Hid (tk.next s r = if tk.isBlank c = true then { r with at_ := r.at_ + tk.span tk.isBlank (c :: l) }
    else if Lib.hasPrefix (c :: l) [47, 47] = true then { r with at_ := r.at_ + tk.span tk.inLine (c :: l) }
    else if Lib.hasPrefix (c :: l) [47, 42] = true then tk.remark r (c :: l)
    else if tk.isBreak c = true then tk.tell r 5 [c]
    else if tk.isSign c = true then tk.tell r 4 [c]
    else if c.toNat = 34 then tk.quote r (c :: l)
    else if 0 < tk.intLen (c :: l) then tk.integer r (c :: l)
    else if tk.isWord c = true then tk.tell r 1 ((c :: l).takeWhile tk.isWord)
    else tk.fail r 70 r.at_) := Lib.hid (by unfold tk.next; rw [hcl])
  rw [hcl] at hsl hdl
  have hl1 : (c :: l).length ≤ 1048576 := by omega
  have hix := fun wx => run_str_idx (c :: l) .i64 0 (by simp) wx
  rw [show ((0 : Nat) : Int) = 0 from rfl, show (c :: l)[0] = c from rfl] at hix
  have hh1 := fun wx => run_str_hi (c :: l) .i64 1 (by simp) wx
  rw [show ((1 : Nat) : Int) = 1 from rfl, show (c :: l).take 1 = [c] from rfl] at hh1
  have hw1 := tk.span_le tk.isWord (c :: l)
  have hhw := fun wx => run_str_hi (c :: l) .i64 (tk.span tk.isWord (c :: l)) hw1 wx
  rw [tk.word_take] at hhw
  have hb1 := tk.span_le tk.isBlank (c :: l)
  have hi1 := tk.span_le tk.inLine (c :: l)
  have hwl : ((c :: l).takeWhile tk.isWord).length ≤ (c :: l).length := hw1
  have HBL := Lib.hid (fun W => isBlank_any c W)
  have HSB := Lib.hid (fun W => span_isBlank (c :: l) W hl1)
  have HP1 := Lib.hid (fun W => Tryz.strings_HasPrefix ⟨(c :: l).toArray⟩ ⟨#[47, 47]⟩ W)
  have HSI := Lib.hid (fun W => span_inLine (c :: l) W hl1)
  have HP2 := Lib.hid (fun W => Tryz.strings_HasPrefix ⟨(c :: l).toArray⟩ ⟨#[47, 42]⟩ W)
  have HBR := Lib.hid (fun W => isBreak_any c W)
  have HSG := Lib.hid (fun W => isSign_any c W)
  have HIL := Lib.hid (fun W => intLen_any (c :: l) W hl1)
  have HWD := Lib.hid (fun W => isWord_any c W)
  have HSW := Lib.hid (fun W => span_isWord (c :: l) W hl1)
  have h2l : Lib.hasPrefix (c :: l) [47, 42] = true → 2 ≤ (c :: l).length := fun hx => by
    unfold Lib.hasPrefix at hx
    have := (List.isPrefixOf_iff_prefix.1 hx).length_le
    simpa using this
  rw [show Lib.hasPrefix (ByteArray.mk (c :: l).toArray).data.toList (ByteArray.mk #[47, 47]).data.toList = Lib.hasPrefix (c :: l) [47, 47] from rfl] at HP1
  rw [show Lib.hasPrefix (ByteArray.mk (c :: l).toArray).data.toList (ByteArray.mk #[47, 42]).data.toList = Lib.hasPrefix (c :: l) [47, 42] from rfl] at HP2
  have HH := Lib.hid (And.intro h ht)
  obtain ⟨c0, c1, c2, c3, c4, f1, f2, f3, f4, u⟩ := h.cells
  have hsz := str_size s
  generalize tk.next s r = R at *
  generalize tk.isBlank c = b1 at *
  generalize Lib.hasPrefix (c :: l) [47, 47] = b2 at *
  generalize Lib.hasPrefix (c :: l) [47, 42] = b3 at *
  generalize tk.isBreak c = b4 at *
  generalize tk.isSign c = b5 at *
  generalize tk.isWord c = b8 at *
  generalize tk.span tk.isBlank (c :: l) = n1 at *
  generalize tk.span tk.inLine (c :: l) = n2 at *
  generalize tk.span tk.isWord (c :: l) = n3 at *
  generalize tk.intLen (c :: l) = n4 at *
  generalize (c :: l).takeWhile tk.isWord = word at *
  generalize hrest : c :: l = rest at *
  clear h ht hcl
  go_enter Tryz.func34, Tryz.ntmps34
  go_wp2_with fail
  go_cut [2] from 4 to 86 (fun s2 wx => s2 = str rest ∧ Hid (RdAt wx p s r V ∧ TT wx ∧ Below p w wx))
  case first =>
    go_quiet (fail)
    go_wp2_with fail
    go_meet
    exact ⟨rfl, Lib.hid ⟨⟨HH.out.1.blk, HH.out.1.row⟩, HH.out.2.below (below_dN (Below.refl w.heap.size w) nq) HH.out.2.lt, below_dN (Below.refl p w) nq⟩⟩
  case rest =>
  obtain ⟨rfl, HC⟩ := hcut
  generalize wc = w1 at *
  obtain ⟨hA, hTT, hBW⟩ := HC.out
  clear HC c0 c1 c2 c3 c4 f1 f2 f3 f4 u
  have HRM := Lib.hid (fun h2 => remark_any p s r V rest w1 hA hTT h2 hl1 (by omega))
  have HT5 := Lib.hid (tell_any p s r V 5 [c] w1 hA (by simp; omega) hlen)
  have HT4 := Lib.hid (tell_any p s r V 4 [c] w1 hA (by simp; omega) hlen)
  have HT1 := Lib.hid (tell_any p s r V 1 word w1 hA (by omega) hlen)
  have HQT := Lib.hid (quote_any p s r V rest w1 hA hl1 (by omega) hlen)
  have HIN := Lib.hid (integer_any p s r V rest w1 hA hTT hl1 (by omega) hlen)
  have HFL := Lib.hid (fail_any p s r V 70 r.at_ w1 hA)
  have HAT : Hid (∀ (W : World) (n : Nat) (x : Int), x = (n : Int) → (∃ nq, W = w1.drewN nq) → RdAt (W.setCell ⟨p, 1, none⟩ (.int .i64 x)) p s { r with at_ := n } V ∧ Below p w (W.setCell ⟨p, 1, none⟩ (.int .i64 x))) := Lib.hid (fun W n x hx hW => by
    obtain ⟨nq, rfl⟩ := hW
    exact ⟨(show RdAt (w1.drewN nq) p s r V from ⟨hA.blk, hA.row⟩).at_ n x hx, (below_dN hBW nq).setCell (Nat.le_refl _) _⟩)
  have HBW := Lib.hid hBW
  obtain ⟨c0, c1, c2, c3, c4, f1, f2, f3, f4, u⟩ := hA.cells
  clear hA hTT hBW
  go_wp2_with fail
  refine (HBL.out _).mono ?_
  rintro e w2 ⟨rfl, hw2⟩
  replace hw2 := hw2.symm
  subst hw2
  cases b1
  case true =>
    have HE : Hid (R = { r with at_ := r.at_ + n1 }) := Lib.hid (by rw [HN.out]; simp)
    have hv1 : IntKind.i64.wrap ((r.at_ : Int) + n1) = (r.at_ : Int) + n1 := by rw [IntKind.wrap_i64]; omega
    go_upto_region 4 with fail
    go_region_with (go_at_call 54; refine (HSB.out _).mono ?_; rintro e w3 ⟨rfl, hw3⟩; replace hw3 := hw3.symm; subst hw3)
    all_goals go_wp2_with fail
    all_goals go_end0
    all_goals
      have hx := HAT.out _ (r.at_ + n1) ((r.at_ : Int) + n1) (by omega) ⟨1, rfl⟩
      exact ⟨rfl, ⟨V, by rw [HE.out]; exact hx.1⟩, hx.2⟩
  case false =>
  go_wp2_with fail
  refine (HP1.out _).mono ?_
  rintro e w2 ⟨rfl, hw2⟩
  replace hw2 := hw2.symm
  subst hw2
  cases b2
  case true =>
    have HE : Hid (R = { r with at_ := r.at_ + n2 }) := Lib.hid (by rw [HN.out]; simp)
    have hv1 : IntKind.i64.wrap ((r.at_ : Int) + n2) = (r.at_ : Int) + n2 := by rw [IntKind.wrap_i64]; omega
    go_upto_region 6 with fail
    go_region_with (go_at_call 54; refine (HSI.out _).mono ?_; rintro e w3 ⟨rfl, hw3⟩; replace hw3 := hw3.symm; subst hw3)
    all_goals go_wp2_with fail
    all_goals go_end0
    all_goals
      have hx := HAT.out _ (r.at_ + n2) ((r.at_ : Int) + n2) (by omega) ⟨1, rfl⟩
      exact ⟨rfl, ⟨V, by rw [HE.out]; exact hx.1⟩, hx.2⟩
  case false =>
  go_wp2_with fail
  refine (HP2.out _).mono ?_
  rintro e w2 ⟨rfl, hw2⟩
  replace hw2 := hw2.symm
  subst hw2
  cases b3
  case true =>
    have HE : Hid (R = tk.remark r rest) := Lib.hid (by rw [HN.out]; simp)
    go_wp2_with fail
    refine (HRM.out (h2l (by first | rfl | trivial))).mono ?_
    rintro e w3 ⟨rfl, hR, hb⟩
    have HR := Lib.hid (And.intro hR (HBW.out.trans hb))
    clear hR hb
    go_wp2_with fail
    go_end0
    exact ⟨rfl, by rw [HE.out]; exact HR.out.1, HR.out.2⟩
  case false =>
  go_wp2_with fail
  refine (HBR.out _).mono ?_
  rintro e w2 ⟨rfl, hw2⟩
  replace hw2 := hw2.symm
  subst hw2
  cases b4
  case true =>
    have HE : Hid (R = tk.tell r 5 [c]) := Lib.hid (by rw [HN.out]; simp)
    go_wp2_with fail
    refine HT5.out.mono ?_
    rintro e w3 ⟨rfl, hR, hb⟩
    have HR := Lib.hid (And.intro hR (HBW.out.trans hb))
    clear hR hb
    go_wp2_with fail
    go_end0
    exact ⟨rfl, by rw [HE.out]; exact HR.out.1, HR.out.2⟩
  case false =>
  go_wp2_with fail
  refine (HSG.out _).mono ?_
  rintro e w2 ⟨rfl, hw2⟩
  replace hw2 := hw2.symm
  subst hw2
  cases b5
  case true =>
    have HE : Hid (R = tk.tell r 4 [c]) := Lib.hid (by rw [HN.out]; simp)
    go_wp2_with fail
    refine HT4.out.mono ?_
    rintro e w3 ⟨rfl, hR, hb⟩
    have HR := Lib.hid (And.intro hR (HBW.out.trans hb))
    clear hR hb
    go_wp2_with fail
    go_end0
    exact ⟨rfl, by rw [HE.out]; exact HR.out.1, HR.out.2⟩
  case false =>
  by_cases h34 : c.toNat = 34
  · have h34i : (((c.toNat : Nat) : Int) == 34) = true := by simp; omega
    have HE : Hid (R = tk.quote r rest) := Lib.hid (by rw [HN.out]; simp [h34])
    go_wp2_with fail
    refine HQT.out.mono ?_
    rintro e w3 ⟨rfl, hR, hb⟩
    have HR := Lib.hid (And.intro hR (HBW.out.trans hb))
    clear hR hb
    go_wp2_with fail
    go_end0
    exact ⟨rfl, by rw [HE.out]; exact HR.out.1, HR.out.2⟩
  have h34i : (((c.toNat : Nat) : Int) == 34) = false := by simp; omega
  go_wp2_with fail
  refine (HIL.out _).mono ?_
  rintro e w2 ⟨rfl, hw2⟩
  replace hw2 := hw2.symm
  subst hw2
  by_cases h4 : 0 < n4
  · have h4i : (0 : Int) < (n4 : Int) := by omega
    have HE : Hid (R = tk.integer r rest) := Lib.hid (by rw [HN.out]; simp [h34, h4])
    go_wp2_with fail
    refine HIN.out.mono ?_
    rintro e w3 ⟨rfl, hR, hb⟩
    have HR := Lib.hid (And.intro hR (HBW.out.trans hb))
    clear hR hb
    go_wp2_with fail
    go_end0
    exact ⟨rfl, by rw [HE.out]; exact HR.out.1, HR.out.2⟩
  have h4i : ¬ (0 : Int) < (n4 : Int) := by omega
  go_wp2_with fail
  refine (HWD.out _).mono ?_
  rintro e w2 ⟨rfl, hw2⟩
  replace hw2 := hw2.symm
  subst hw2
  cases b8
  case true =>
    have HE : Hid (R = tk.tell r 1 word) := Lib.hid (by rw [HN.out]; simp [h34, h4])
    go_wp2_with fail
    refine (HSW.out _).mono ?_
    rintro e w2 ⟨rfl, hw2⟩
    replace hw2 := hw2.symm
    subst hw2
    go_wp2_with fail
    refine HT1.out.mono ?_
    rintro e w3 ⟨rfl, hR, hb⟩
    have HR := Lib.hid (And.intro hR (HBW.out.trans hb))
    clear hR hb
    go_wp2_with fail
    go_end0
    exact ⟨rfl, by rw [HE.out]; exact HR.out.1, HR.out.2⟩
  case false =>
    have HE : Hid (R = tk.fail r 70 r.at_) := Lib.hid (by rw [HN.out]; simp [h34, h4])
    go_wp2_with fail
    refine HFL.out.mono ?_
    rintro e w3 ⟨rfl, hR, hb⟩
    have HR := Lib.hid (And.intro hR (HBW.out.trans hb))
    clear hR hb
    go_wp2_with fail
    go_end0
    exact ⟨rfl, ⟨V, by rw [HE.out]; exact HR.out.1⟩, HR.out.2⟩
end Go.Proofs.YthmiaamjbokljaaGreatDoor
