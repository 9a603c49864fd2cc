/- TokWords, walked: it returns true. -/
import Derived.Test.YteilaoiimlpbkabDoorTkWordC
namespace Go.Proofs.YteilaoiimlpbkabDoor
open Go.RowKit
theorem tk.words_cases (s : List UInt8) (hw : ∀ c ∈ s, tk.isWord c = true) (hne : s ≠ []) (hl : s.length ≤ 1000) :
    (tk.numb s = false ∧ tk.tokens s = ([{ kind := 1, text := s }], 0, 0)) ∨ (tk.numb s = true ∧ tk.digs s = false ∧ tk.tokens s = ([], 73, 0)) ∨
      (tk.numb s = true ∧ tk.digs s = true ∧ ((∃ v, tk.tokens s = ([{ kind := 3, text := s, int := v }], 0, 0)) ∨ (tk.tokens s = ([], 73, 0) ∧ 19 ≤ s.length))) := by
  have ht := tk.words s hw hne hl
  unfold tk.wordT at ht
  cases hn : tk.numb s
  · have h0 : tk.intLen s = 0 := by
      by_cases h : 0 < tk.intLen s
      · rw [(tk.numb_iff s).2 h] at hn; cases hn
      · omega
    rw [if_pos h0] at ht
    exact .inl ⟨rfl, ht⟩
  · have h0 := (tk.numb_iff s).1 hn
    rw [if_neg (by omega)] at ht
    cases hd : tk.digs s
    · have hne2 : tk.intLen s ≠ s.length := fun e => by rw [(tk.digs_iff s hn).2 e] at hd; cases hd
      refine .inr (.inl ⟨rfl, rfl, ?_⟩)
      rw [ht]
      split
      · rw [if_neg hne2]
      · rfl
    · have he := (tk.digs_iff s hn).1 hd
      refine .inr (.inr ⟨rfl, rfl, ?_⟩)
      rw [he, List.take_length] at ht
      cases hp : Lib.parseIntB 64 s with
      | ok v =>
        rw [hp] at ht
        simp only [if_true] at ht
        exact .inl ⟨v, ht⟩
      | range =>
        rw [hp] at ht
        refine .inr ⟨ht, ?_⟩
        rcases Nat.lt_or_ge 18 s.length with h | h
        · exact h
        · obtain ⟨v, hv⟩ := tk.parse_small s hn hd h
          rw [hp] at hv; cases hv
      | _ =>
        rw [hp] at ht
        refine .inr ⟨ht, ?_⟩
        rcases Nat.lt_or_ge 18 s.length with h | h
        · exact h
        · obtain ⟨v, hv⟩ := tk.parse_small s hn hd h
          rw [hp] at hv; cases hv
theorem tk.numb_cons (c : UInt8) (l : List UInt8) : tk.numb (c :: l) = (tk.isDigit c || (decide (c.toNat = 45) && match l with
  | [] => false
  | d :: _ => tk.isDigit d)) := by
  cases l with
  | nil => simp [tk.numb]
  | cons d r => simp [tk.numb]
theorem tk.numb_at (l : List UInt8) (h : 0 < l.length) : tk.numb l = (tk.isDigit l[0] || (decide (l[0].toNat = 45) && if h1 : 1 < l.length then tk.isDigit l[1] else false)) := by
  cases l with
  | nil => simp at h
  | cons c r =>
    rw [tk.numb_cons]
    cases r with
    | nil => simp
    | cons d r => simp
set_option maxRecDepth 100000 in
set_option maxHeartbeats 3200000 in
theorem tokWords_any (l : List UInt8) (w : World) (ht : TT w) : Calls Tryd.prog 5 #[str l] w fun e w' => e = .returned (.bool true) ∧ Below w.heap.size w w' := by
  have h3 := ht.lt
  have HT := Lib.hid ht
  have HA := Lib.hid (alive_any w ht)
  have hsz := str_size l
  have HIX := Lib.hid (fun (i : Nat) (hi : i < l.length) wx => run_str_idx l .i64 i hi wx)
  have HTK := Lib.hid (fun W hW ts c x hT hl => tokens_then l W hW hl ts c x hT)
  have HPL := Lib.hid (fun W hW hl => plain_any l W hW hl)
  have HWC := Lib.hid (tk.words_cases l)
  have HNE : Hid (0 < l.length → l ≠ []) := Lib.hid (fun h e => by subst e; simp at h)
  have HTA : Hid (l.take l.length = l) := Lib.hid (List.take_length)
  have HDS := Lib.hid (tk.digs_snoc l)
  clear ht
  obtain ⟨n, hn⟩ : ∃ n, l.length = n := ⟨_, rfl⟩
  have HN := Lib.hid hn
  rw [hn] at hsz HTK HPL HWC HNE HTA
  clear hn
  by_cases h0 : n = 0
  · subst h0
    go_enter Tryd.func5, Tryd.ntmps5
    go_wp2_with fail
    refine HA.out.mono ?_
    rintro e w1 ⟨rfl, hb1⟩
    have HB1 := Lib.hid hb1
    clear hb1
    go_wp2_with fail
    go_ret
    exact ⟨rfl, HB1.out⟩
  have h0i : ((n : Int) == 0) = false := by simp; omega
  by_cases hbig : 1000 < n
  · have hbi : decide ((1000 : Int) < (n : Int)) = true := decide_eq_true (by omega)
    go_enter Tryd.func5, Tryd.ntmps5
    go_wp2_with fail
    refine HA.out.mono ?_
    rintro e w1 ⟨rfl, hb1⟩
    have HB1 := Lib.hid hb1
    clear hb1
    go_wp2_with fail
    go_ret
    exact ⟨rfl, HB1.out⟩
  have hbi : decide ((1000 : Int) < (n : Int)) = false := decide_eq_false (by omega)
  have hn0 : 0 < n := by omega
  have hnb : n ≤ 1000 := by omega
  clear h0 hbig
  go_enter Tryd.func5, Tryd.ntmps5
  go_wp2_with fail
  refine HA.out.mono ?_
  rintro e w1 ⟨rfl, hb1⟩
  have HB1 := Lib.hid hb1
  clear hb1 HA
  go_wp2_with fail
  go_loopg [3, 4] n (fun gg s3 s4 wr => ∃ (k : Nat) (fl : Bool), s4 = .int .i64 k ∧ s3 = .bool fl ∧ k ≤ n ∧ n - k ≤ gg ∧ Hid (fl = tk.digs (l.take k) ∧ (∀ c ∈ l.take k, tk.isWord c = true) ∧ wr = w1))
  case atStart => exact ⟨0, true, rfl, rfl, Nat.zero_le _, by omega, Lib.hid ⟨rfl, by simp, rfl⟩⟩
  case round =>
    obtain ⟨k, fl, rfl, rfl, hk, hgg, HQ⟩ := hrel
    obtain rfl := HQ.out.2.2
    by_cases hlt : k < n
    · have hkl : k < l.length := by rw [HN.out]; exact hlt
      have hix := HIX.out k hkl
      have hds := HDS.out k hkl
      rw [← HQ.out.1] at hds
      have HWS : Hid (tk.isWord l[k] = true → ∀ c ∈ l.take (k + 1), tk.isWord c = true) := Lib.hid (fun h c hc => by
        rw [List.take_succ_eq_append_getElem hkl] at hc
        rcases List.mem_append.1 hc with hc | hc
        · exact HQ.out.2.1 c hc
        · simp at hc; subst hc; exact h)
      have HW := Lib.hid (fun W => refWord_any l[k] W)
      have HD := Lib.hid (fun W => refDigit_any l[k] W)
      generalize tk.isWord l[k] = W at *
      generalize tk.isDigit l[k] = D at *
      have hki : (k : Int) < (n : Int) := by omega
      cases W
      case false =>
        clear hds
        generalize l[k].toNat = q at *
        go_wp2_with fail
        refine (HW.out _).mono ?_
        rintro e w' ⟨rfl, hw⟩
        replace hw := hw.symm
        subst hw
        go_wp2_with fail
        go_ret
        exact ⟨rfl, HB1.out⟩
      case true =>
        have HWS2 := Lib.hid (HWS.out rfl)
        cases fl
        case false =>
          have HF : Hid (false = tk.digs (l.take (k + 1))) := Lib.hid (by rw [hds]; rfl)
          clear hds
          generalize l[k].toNat = q at *
          go_wp2_with fail
          refine (HW.out _).mono ?_
          rintro e w' ⟨rfl, hw⟩
          replace hw := hw.symm
          subst hw
          go_wp2_with fail
          go_roundg (n - (k + 1))
          case measure => omega
          case rel => exact ⟨k + 1, false, by go_num, rfl, by omega, Nat.le_refl _, Lib.hid ⟨HF.out, HWS2.out, rfl⟩⟩
        case true =>
          cases D
          case true =>
            have HF : Hid (true = tk.digs (l.take (k + 1))) := Lib.hid (by rw [hds]; rfl)
            clear hds
            generalize l[k].toNat = q at *
            go_wp2_with fail
            refine (HW.out _).mono ?_
            rintro e w' ⟨rfl, hw⟩
            replace hw := hw.symm
            subst hw
            go_wp2_with fail
            refine (HD.out _).mono ?_
            rintro e w' ⟨rfl, hw⟩
            replace hw := hw.symm
            subst hw
            go_wp2_with fail
            go_roundg (n - (k + 1))
            case measure => omega
            case rel => exact ⟨k + 1, true, by go_num, rfl, by omega, Nat.le_refl _, Lib.hid ⟨HF.out, HWS2.out, rfl⟩⟩
          case false =>
            by_cases hk0 : k = 0
            · have HF : Hid (decide (l[k].toNat = 45) = tk.digs (l.take (k + 1))) := Lib.hid (by rw [hds]; simp [hk0])
              clear hds
              generalize l[k].toNat = q at *
              have hix0 : ∀ wx, (Instr.index 9 (.string ⟨l.toArray⟩) (.int .i64 0)).run Tryd.prog wx = .ok (.int .u8 (q : Nat)) wx := fun wx => by
                have := hix wx
                rw [hk0] at this
                exact this
              have hk0i : ((k : Int) == 0) = true := by simp; omega
              clear hk0
              by_cases h45 : q = 45
              · have h45i : ((q : Int) == 45) = true := by simp; omega
                have HF2 : Hid (true = tk.digs (l.take (k + 1))) := Lib.hid (by rw [← HF.out]; symm; exact decide_eq_true h45)
                clear h45 HF
                go_wp2_with fail
                refine (HW.out _).mono ?_
                rintro e w' ⟨rfl, hw⟩
                replace hw := hw.symm
                subst hw
                go_wp2_with fail
                refine (HD.out _).mono ?_
                rintro e w' ⟨rfl, hw⟩
                replace hw := hw.symm
                subst hw
                go_wp2_with fail
                go_roundg (n - (k + 1))
                case measure => omega
                case rel => exact ⟨k + 1, true, by go_num, rfl, by omega, Nat.le_refl _, Lib.hid ⟨HF2.out, HWS2.out, rfl⟩⟩
              · have h45i : ((q : Int) == 45) = false := by simp; omega
                have HF2 : Hid (false = tk.digs (l.take (k + 1))) := Lib.hid (by rw [← HF.out]; symm; exact decide_eq_false h45)
                clear h45 HF
                go_wp2_with fail
                refine (HW.out _).mono ?_
                rintro e w' ⟨rfl, hw⟩
                replace hw := hw.symm
                subst hw
                go_wp2_with fail
                refine (HD.out _).mono ?_
                rintro e w' ⟨rfl, hw⟩
                replace hw := hw.symm
                subst hw
                go_wp2_with fail
                go_roundg (n - (k + 1))
                case measure => omega
                case rel => exact ⟨k + 1, false, by go_num, rfl, by omega, Nat.le_refl _, Lib.hid ⟨HF2.out, HWS2.out, rfl⟩⟩
            · have hk0i : ((k : Int) == 0) = false := by simp; omega
              have HF : Hid (false = tk.digs (l.take (k + 1))) := Lib.hid (by rw [hds]; simp [hk0])
              clear hds
              generalize l[k].toNat = q at *
              go_wp2_with fail
              refine (HW.out _).mono ?_
              rintro e w' ⟨rfl, hw⟩
              replace hw := hw.symm
              subst hw
              go_wp2_with fail
              refine (HD.out _).mono ?_
              rintro e w' ⟨rfl, hw⟩
              replace hw := hw.symm
              subst hw
              go_wp2_with fail
              go_roundg (n - (k + 1))
              case measure => omega
              case rel => exact ⟨k + 1, false, by go_num, rfl, by omega, Nat.le_refl _, Lib.hid ⟨HF.out, HWS2.out, rfl⟩⟩
    · obtain rfl : k = n := by omega
      have hl0 : 0 < l.length := by rw [HN.out]; exact hn0
      have HFL : Hid (fl = tk.digs l) := Lib.hid (by have := HQ.out.1; rwa [HTA.out] at this)
      have HALL : Hid (∀ c ∈ l, tk.isWord c = true) := Lib.hid (by have := HQ.out.2.1; rwa [HTA.out] at this)
      have HC := Lib.hid (HWC.out HALL.out (HNE.out hn0) hnb)
      rw [← HFL.out] at HC
      have hnum := tk.numb_at l hl0
      have hix0 : ∀ wx, (Instr.index 9 (.string ⟨l.toArray⟩) (.int .i64 0)).run Tryd.prog wx = .ok (.int .u8 (l[0].toNat : Nat)) wx := fun wx => HIX.out 0 hl0 wx
      have HIX1 : Hid (∀ h1 : 1 < l.length, ∀ wx, (Instr.index 9 (.string ⟨l.toArray⟩) (.int .i64 1)).run Tryd.prog wx = .ok (.int .u8 (l[1].toNat : Nat)) wx) := Lib.hid (fun h1 wx => HIX.out 1 h1 wx)
      have HD0 := Lib.hid (fun W => refDigit_any l[0] W)
      have HD1 := Lib.hid (fun (h1 : 1 < l.length) W => refDigit_any l[1] W)
      generalize hB : tk.numb l = B at *
      clear hB HQ HFL HALL HWC HNE HDS HIX hgg hlt
      go_upto_region 12 with fail
      go_cut [5] (fun s5 wx => s5 = .bool B ∧ wx = wr)
      case first =>
        clear HC
        generalize tk.isDigit l[0] = D0 at *
        generalize l[0].toNat = q at *
        cases D0
        case true =>
          obtain rfl : B = true := by rw [hnum]; rfl
          clear hnum
          go_wp2_with fail
          refine (HD0.out _).mono ?_
          rintro e w' ⟨rfl, hw⟩
          replace hw := hw.symm
          subst hw
          go_wp2_with fail
          go_meet
          exact ⟨rfl, rfl⟩
        case false =>
          by_cases hk1 : 1 < k
          · have hk1i : decide ((1 : Int) < (k : Int)) = true := decide_eq_true (by omega)
            have h1 : 1 < l.length := by rw [HN.out]; exact hk1
            rw [dif_pos h1, Bool.false_or] at hnum
            have hix1 := HIX1.out h1
            have HDD := Lib.hid (fun W => HD1.out h1 W)
            generalize tk.isDigit l[1] = D1 at *
            generalize l[1].toNat = q1 at *
            by_cases h45 : q = 45
            · have h45i : ((q : Int) == 45) = true := by simp; omega
              have hB : B = D1 := by rw [hnum, decide_eq_true h45, Bool.true_and]
              clear hnum h45
              subst hB
              go_wp2_with fail
              refine (HD0.out _).mono ?_
              rintro e w' ⟨rfl, hw⟩
              replace hw := hw.symm
              subst hw
              go_wp2_with fail
              refine (HDD.out _).mono ?_
              rintro e w' ⟨rfl, hw⟩
              replace hw := hw.symm
              subst hw
              go_wp2_with fail
              go_meet
              exact ⟨rfl, rfl⟩
            · have h45i : ((q : Int) == 45) = false := by simp; omega
              obtain rfl : B = false := by rw [hnum, decide_eq_false h45, Bool.false_and]
              clear hnum h45
              go_wp2_with fail
              refine (HD0.out _).mono ?_
              rintro e w' ⟨rfl, hw⟩
              replace hw := hw.symm
              subst hw
              go_wp2_with fail
              go_meet
              exact ⟨rfl, rfl⟩
          · have hk1i : decide ((1 : Int) < (k : Int)) = false := decide_eq_false (by omega)
            obtain rfl : B = false := by rw [hnum, dif_neg (by rw [HN.out]; exact hk1)]; simp
            clear hnum
            go_wp2_with fail
            refine (HD0.out _).mono ?_
            rintro e w' ⟨rfl, hw⟩
            replace hw := hw.symm
            subst hw
            go_wp2_with fail
            go_meet
            exact ⟨rfl, rfl⟩
      case rest =>
        obtain ⟨rfl, rfl⟩ := hcut
        clear hnum hix0 HIX1 HD0 HD1
        have h18 : decide ((19 : Int) ≤ (k : Int)) = decide (19 ≤ k) := by rw [decide_eq_decide]; omega
        rcases HC.out with ⟨rfl, hT⟩ | ⟨rfl, rfl, hT⟩ | ⟨rfl, rfl, ⟨v, hT⟩ | ⟨hT, h19⟩⟩
        · clear HC h18
          have HS1 := Lib.hid (HTK.out wc (HT.out.below HB1.out h3) _ 0 0 hT (by omega))
          have HPV := tk.plain_words hT
          clear hT
          go_wp2_with fail
          refine HS1.out.mono ?_
          rintro e w2 ⟨V, rfl, hb2, hx2⟩
          have HX2 := Lib.hid hx2
          have HB2 : Hid (Below wc.heap.size wc (w2.alloc (.cells #[.int .i64 0, .int .i64 0] 26))) := Lib.hid (hx2 _ (Below.refl _ _)).2.2
          obtain ⟨ao, ac, rfl⟩ := own_slice (hx2 _ (Below.refl _ _)).1
          clear hx2 hb2 HS1
          go_upto_region 14 with fail
          generalize w2.alloc (.cells #[.int .i64 0, .int .i64 0] 26) = w3 at *
          generalize w2.heap.size = fb at *
          have HB3 := Lib.hid (HB1.out.trans (HB2.out.mono HB1.out.size))
          obtain ⟨r1, q1, _⟩ := HX2.out w3 (Below.refl _ _)
          have y0 : w3.cell? ⟨fb, 0, none⟩ = some (.int .i64 0) := (cell_of_heap q1).trans rfl
          have y1 : w3.cell? ⟨fb, 1, none⟩ = some (.int .i64 0) := (cell_of_heap q1).trans rfl
          have HP3 := Lib.hid (HPL.out w3 (HT.out.below HB3.out h3) (by omega))
          rw [HPV] at HP3
          clear q1 HX2 HB2 HPV
          have hpv : tk.plainOf l [{ kind := 1, text := l }] = true := by simp [tk.plainOf]
          rw [hpv] at HP3
          obtain ⟨g1, c1, hV1, _, hm1, _, hg1, t0, t1, _, _⟩ := tok_at r1 (k := 0) rfl
          obtain ⟨rfl, -, rfl⟩ := Value.slice.inj hV1
          simp only [Nat.zero_mul, Nat.zero_add] at t0 t1
          clear r1 hV1
          go_wp2_with fail
          refine HP3.out.mono ?_
          rintro e w4 ⟨rfl, hb4⟩
          have HB4 := Lib.hid (HB3.out.trans (hb4.mono HB3.out.size))
          clear hb4
          go_wp2_with fail
          go_ret
          exact ⟨rfl, HB4.out⟩
        · clear HC h18
          have HS1 := Lib.hid (HTK.out wc (HT.out.below HB1.out h3) _ 73 0 hT (by omega))
          have HPV := tk.plain_words hT
          clear hT
          go_wp2_with fail
          refine HS1.out.mono ?_
          rintro e w2 ⟨V, rfl, hb2, hx2⟩
          have HX2 := Lib.hid hx2
          have HB2 : Hid (Below wc.heap.size wc (w2.alloc (.cells #[.int .i64 73, .int .i64 0] 26))) := Lib.hid (hx2 _ (Below.refl _ _)).2.2
          obtain ⟨ao, ac, rfl⟩ := own_slice (hx2 _ (Below.refl _ _)).1
          clear hx2 hb2 HS1
          go_upto_region 14 with fail
          generalize w2.alloc (.cells #[.int .i64 73, .int .i64 0] 26) = w3 at *
          generalize w2.heap.size = fb at *
          have HB3 := Lib.hid (HB1.out.trans (HB2.out.mono HB1.out.size))
          obtain ⟨r1, q1, _⟩ := HX2.out w3 (Below.refl _ _)
          have y0 : w3.cell? ⟨fb, 0, none⟩ = some (.int .i64 73) := (cell_of_heap q1).trans rfl
          have y1 : w3.cell? ⟨fb, 1, none⟩ = some (.int .i64 0) := (cell_of_heap q1).trans rfl
          have HP3 := Lib.hid (HPL.out w3 (HT.out.below HB3.out h3) (by omega))
          rw [HPV] at HP3
          clear q1 HX2 HB2 HPV
          have hpv : tk.plainOf l [] = false := rfl
          rw [hpv] at HP3
          clear r1
          go_wp2_with fail
          refine HP3.out.mono ?_
          rintro e w4 ⟨rfl, hb4⟩
          have HB4 := Lib.hid (HB3.out.trans (hb4.mono HB3.out.size))
          clear hb4
          go_wp2_with fail
          go_ret
          exact ⟨rfl, HB4.out⟩
        · clear HC h18
          have HS1 := Lib.hid (HTK.out wc (HT.out.below HB1.out h3) _ 0 0 hT (by omega))
          have HPV := tk.plain_words hT
          clear hT
          go_wp2_with fail
          refine HS1.out.mono ?_
          rintro e w2 ⟨V, rfl, hb2, hx2⟩
          have HX2 := Lib.hid hx2
          have HB2 : Hid (Below wc.heap.size wc (w2.alloc (.cells #[.int .i64 0, .int .i64 0] 26))) := Lib.hid (hx2 _ (Below.refl _ _)).2.2
          obtain ⟨ao, ac, rfl⟩ := own_slice (hx2 _ (Below.refl _ _)).1
          clear hx2 hb2 HS1
          go_upto_region 14 with fail
          generalize w2.alloc (.cells #[.int .i64 0, .int .i64 0] 26) = w3 at *
          generalize w2.heap.size = fb at *
          have HB3 := Lib.hid (HB1.out.trans (HB2.out.mono HB1.out.size))
          obtain ⟨r1, q1, _⟩ := HX2.out w3 (Below.refl _ _)
          have y0 : w3.cell? ⟨fb, 0, none⟩ = some (.int .i64 0) := (cell_of_heap q1).trans rfl
          have y1 : w3.cell? ⟨fb, 1, none⟩ = some (.int .i64 0) := (cell_of_heap q1).trans rfl
          have HP3 := Lib.hid (HPL.out w3 (HT.out.below HB3.out h3) (by omega))
          rw [HPV] at HP3
          clear q1 HX2 HB2 HPV
          have hpv : tk.plainOf l [{ kind := 3, text := l, int := v }] = false := by simp [tk.plainOf]
          rw [hpv] at HP3
          obtain ⟨g1, c1, hV1, _, hm1, _, hg1, t0, t1, _, _⟩ := tok_at r1 (k := 0) rfl
          obtain ⟨rfl, -, rfl⟩ := Value.slice.inj hV1
          simp only [Nat.zero_mul, Nat.zero_add] at t0 t1
          clear r1 hV1
          go_wp2_with fail
          refine HP3.out.mono ?_
          rintro e w4 ⟨rfl, hb4⟩
          have HB4 := Lib.hid (HB3.out.trans (hb4.mono HB3.out.size))
          clear hb4
          go_wp2_with fail
          go_ret
          exact ⟨rfl, HB4.out⟩
        · have h19i : decide ((19 : Int) ≤ (k : Int)) = true := by rw [h18]; exact decide_eq_true h19
          clear HC h18 h19
          have HS1 := Lib.hid (HTK.out wc (HT.out.below HB1.out h3) _ 73 0 hT (by omega))
          have HPV := tk.plain_words hT
          clear hT
          go_wp2_with fail
          refine HS1.out.mono ?_
          rintro e w2 ⟨V, rfl, hb2, hx2⟩
          have HX2 := Lib.hid hx2
          have HB2 : Hid (Below wc.heap.size wc (w2.alloc (.cells #[.int .i64 73, .int .i64 0] 26))) := Lib.hid (hx2 _ (Below.refl _ _)).2.2
          obtain ⟨ao, ac, rfl⟩ := own_slice (hx2 _ (Below.refl _ _)).1
          clear hx2 hb2 HS1
          go_upto_region 14 with fail
          generalize w2.alloc (.cells #[.int .i64 73, .int .i64 0] 26) = w3 at *
          generalize w2.heap.size = fb at *
          have HB3 := Lib.hid (HB1.out.trans (HB2.out.mono HB1.out.size))
          obtain ⟨r1, q1, _⟩ := HX2.out w3 (Below.refl _ _)
          have y0 : w3.cell? ⟨fb, 0, none⟩ = some (.int .i64 73) := (cell_of_heap q1).trans rfl
          have y1 : w3.cell? ⟨fb, 1, none⟩ = some (.int .i64 0) := (cell_of_heap q1).trans rfl
          have HP3 := Lib.hid (HPL.out w3 (HT.out.below HB3.out h3) (by omega))
          rw [HPV] at HP3
          clear q1 HX2 HB2 HPV
          have hpv : tk.plainOf l [] = false := rfl
          rw [hpv] at HP3
          clear r1
          go_wp2_with fail
          refine HP3.out.mono ?_
          rintro e w4 ⟨rfl, hb4⟩
          have HB4 := Lib.hid (HB3.out.trans (hb4.mono HB3.out.size))
          clear hb4
          go_wp2_with fail
          go_ret
          exact ⟨rfl, HB4.out⟩
end Go.Proofs.YteilaoiimlpbkabDoor
