/- BusOrder. -/
import Derived.Test.YtmhlkdhinklnfaaBuLift
import Derived.Deep.RegionHeld3
namespace Go.Proofs.Ytmhlkdhinklnfaa
open Go.RowKit
namespace bu
/-- slot 2, that kind `want` goes to: what came, what was taken, what the last one taken was -/
structure OrS (want : Int) (S : Nat → Slot) (i : Nat) (last came taken : Int) : Prop where
  on : (S 1).on = true
  kw : ∀ k : Int, wantsS (S 1) k = decide (k = want)
  oth : ∀ j, j < 4 → j ≠ 1 → ∀ k : Int, wantsS (S j) k = false
  q : ∀ e, e ∈ (S 1).queue → e.kind = want ∧ last < e.a ∧ e.a < (i : Int)
  srt : (S 1).queue.Pairwise fun a b => a.a < b.a
  len : (S 1).queue.length ≤ 16
  cnt : came = taken + (S 1).queue.length + (S 1).dropped
  dr : 0 ≤ (S 1).dropped ∧ (0 < (S 1).dropped → 17 ≤ came)
  tk : 0 ≤ taken
  cm : came ≤ (i : Int)
theorem OrS.openA {want : Int} {S : Nat → Slot} {i : Nat} {last came taken : Int} (h : OrS want S i last came taken) : bu.openA S 2 = some 1 := if_pos ⟨by omega, by omega, h.on⟩
theorem OrS.start (want : Int) (h1 : 1 ≤ want) (h8 : want ≤ 8) : ∃ S1 S2, openR S0 2 = (0, S1) ∧ subR S1 2 want true = (0, S2) ∧ OrS want S2 0 (-1) 0 0 := by
  have hk : isKind want = true := isKind_iff.2 ⟨h1, h8⟩
  have hs : ∀ S : Nat → Slot, (S 1).on = true → subR S 2 want true = (0, upd S 1 { S 1 with kinds := fun j => if (j : Int) = want - 1 then true else (S 1).kinds j }) := fun S ho => by
    have hoA : bu.openA S 2 = some 1 := if_pos ⟨by omega, by omega, ho⟩
    unfold subR
    rw [hoA]
    simp only
    rw [if_pos hk]
  refine ⟨upd S0 1 { Slot.zero with on := true }, _, rfl, hs _ rfl, rfl, fun k => ?_, fun j hj h2 k => ?_, fun e he => (by cases he), List.Pairwise.nil, Nat.zero_le _, rfl, ⟨Int.le_refl _, fun h => absurd h (Int.lt_irrefl 0)⟩, Int.le_refl _, Int.le_refl _⟩
  · unfold wantsS
    rw [upd_same]
    by_cases hk2 : isKind k = true
    · have := isKind_iff.1 hk2
      rw [hk2, Bool.true_and]
      simp only
      by_cases e : k = want
      · subst e
        rw [if_pos (by omega)]
        simp
      · rw [if_neg (by omega)]
        simp [e]
        rfl
    · have hf : isKind k = false := by simpa using hk2
      rw [hf, Bool.false_and]
      have : ¬ k = want := fun e => hk2 (e ▸ hk)
      simp [this]
  · unfold wantsS
    rw [upd_other _ _ h2, upd_other _ _ h2]
    simp [Slot.zero]
theorem OrS.pubNo {want : Int} {S : Nat → Slot} {i : Nat} {last came taken : Int} (h : OrS want S i last came taken) (ev : Ev) (hk : ev.kind ≠ want) : bu.pub S ev 4 = (0, S) := by
  rw [pub_one S ev 1 (by omega) (fun j hj h1 => h.oth j hj h1 _), h.kw, if_neg (by simpa using hk)]
theorem OrS.later {want : Int} {S : Nat → Slot} {i : Nat} {last came taken : Int} (h : OrS want S i last came taken) : OrS want S (i + 1) last came taken :=
  ⟨h.on, h.kw, h.oth, fun e he => ⟨(h.q e he).1, (h.q e he).2.1, by have := (h.q e he).2.2; omega⟩, h.srt, h.len, h.cnt, h.dr, h.tk, by have := h.cm; omega⟩
theorem OrS.pub {want : Int} {S : Nat → Slot} {i : Nat} {last came taken : Int} (h : OrS want S i last came taken) (hl : last < (i : Int)) : ∃ (n : Nat) (S' : Nat → Slot), bu.pub S ⟨want, (i : Int), 0, ⟨#[]⟩⟩ 4 = (n, S') ∧ OrS want S' (i + 1) last (came + 1) taken := by
  refine ⟨_, _, by rw [pub_one S ⟨want, (i : Int), 0, ⟨#[]⟩⟩ 1 (by omega) (fun j hj h1 => h.oth j hj h1 _), h.kw, if_pos (by simp)], ?_⟩
  have hc := h.cnt
  have hd := h.dr
  have hln := h.len
  have ht := h.tk
  have hcm := h.cm
  have hp : ∀ s, (s.on = true) → (∀ k, wantsS s k = decide (k = want)) → (∀ e, e ∈ s.queue → e.kind = want ∧ last < e.a ∧ e.a < ((i + 1 : Nat) : Int)) → (s.queue.Pairwise fun a b => a.a < b.a) → s.queue.length ≤ 16 → came + 1 = taken + s.queue.length + s.dropped → (0 ≤ s.dropped ∧ (0 < s.dropped → 17 ≤ came + 1)) → OrS want (upd S 1 s) (i + 1) last (came + 1) taken := fun s a1 a2 a3 a4 a5 a6 a7 =>
    ⟨by rw [upd_same]; exact a1, fun k => by rw [upd_same]; exact a2 k, fun j hj h2 k => by rw [upd_other _ _ h2]; exact h.oth j hj h2 k, by rw [upd_same]; exact a3, by rw [upd_same]; exact a4, by rw [upd_same]; exact a5, by rw [upd_same]; exact a6, by rw [upd_same]; exact a7, ht, by omega⟩
  unfold putS
  by_cases h16 : (S 1).queue.length = 16
  · rw [if_pos h16]
    refine hp _ h.on h.kw (fun e he => ⟨(h.q e he).1, (h.q e he).2.1, by have := (h.q e he).2.2; omega⟩) h.srt hln ?_ ?_
    · simp only; omega
    · simp only; omega
  · rw [if_neg h16]
    refine hp _ h.on h.kw (fun e he => ?_) ?_ ?_ ?_ ?_
    · simp only [List.mem_append, List.mem_singleton] at he
      rcases he with he | rfl
      · exact ⟨(h.q e he).1, (h.q e he).2.1, by have := (h.q e he).2.2; omega⟩
      · exact ⟨rfl, hl, by simp only; omega⟩
    · simp only
      rw [List.pairwise_append]
      refine ⟨h.srt, List.pairwise_singleton _ _, fun a ha b hb => ?_⟩
      rw [List.mem_singleton] at hb
      subst hb
      exact (h.q a ha).2.2
    · simp only [List.length_append, List.length_singleton]; omega
    · simp only [List.length_append, List.length_singleton]; omega
    · simp only; omega
theorem OrS.take {want : Int} {S : Nat → Slot} {i : Nat} {last came taken : Int} (h : OrS want S i last came taken) :
    (takeR S 2 = (none, S) ∧ (S 1).queue.length = 0) ∨ ∃ e S', takeR S 2 = (some e, S') ∧ e.kind = want ∧ last < e.a ∧ e.a < (i : Int) ∧ OrS want S' i e.a came (taken + 1) ∧ (S' 1).queue.length + 1 = (S 1).queue.length := by
  have hc := h.cnt
  have hd := h.dr
  have hln := h.len
  have ht := h.tk
  have hcm := h.cm
  unfold takeR
  rw [h.openA]
  simp only
  cases hq : (S 1).queue with
  | nil => exact .inl ⟨rfl, rfl⟩
  | cons e l =>
    have hqe := h.q e (by rw [hq]; exact List.mem_cons_self ..)
    have hs := h.srt
    rw [hq] at hs hln hc
    rw [List.pairwise_cons] at hs
    rw [List.length_cons] at hln hc
    refine .inr ⟨e, _, rfl, hqe.1, hqe.2.1, hqe.2.2, ?_, by rw [upd_same]; rfl⟩
    refine ⟨by rw [upd_same]; exact h.on, fun k => by rw [upd_same]; exact h.kw k, fun j hj h2 k => by rw [upd_other _ _ h2]; exact h.oth j hj h2 k, ?_, ?_, ?_, ?_, ?_, by omega, hcm⟩
    all_goals rw [upd_same]
    · intro x hx
      have := h.q x (by rw [hq]; exact List.mem_cons_of_mem _ hx)
      exact ⟨this.1, hs.1 x hx, this.2.2⟩
    · exact hs.2
    · simp only; omega
    · simp only; omega
    · exact hd
theorem OrS.lenA {want : Int} {S : Nat → Slot} {i : Nat} {last came taken : Int} (h : OrS want S i last came taken) : ((bu.lenA S 2 : Nat) : Int) = ((S 1).queue.length : Int) := by
  unfold bu.lenA
  rw [h.openA]
theorem OrS.dropA {want : Int} {S : Nat → Slot} {i : Nat} {last came taken : Int} (h : OrS want S i last came taken) : bu.dropA S 2 = (S 1).dropped := by
  unfold bu.dropA
  rw [h.openA]
theorem OrS.came_pos {want : Int} {S : Nat → Slot} {i : Nat} {last came taken : Int} (h : OrS want S i last came taken) : 0 ≤ came := by
  have := h.cnt
  have := h.dr
  have := h.tk
  omega
theorem OrS.tells {want : Int} {S : Nat → Slot} {i : Nat} {last came taken : Int} (h : OrS want S i last came taken) : ∃ L D : Int, 0 ≤ L ∧ L ≤ 16 ∧ 0 ≤ D ∧ (0 < D → 17 ≤ came) ∧ came = taken + L + D ∧ 0 ≤ taken ∧ came ≤ (i : Int) ∧ ((bu.lenA S 2 : Nat) : Int) = L ∧ bu.dropA S 2 = D := by
  have := h.len
  exact ⟨_, _, by omega, by omega, h.dr.1, h.dr.2, h.cnt, h.tk, h.cm, h.lenA, h.dropA⟩
end bu
theorem BlIn.cell {w : World} {D : Nat → Prop} {o : Option Addr} {m cap : Nat} {l : List Bool} (h : BlIn w D (.slice o m cap) l) (k : Nat) (hk : k < l.length) : ∃ b off, o = some ⟨b, off, none⟩ ∧ b < w.heap.size ∧ w.cell? ⟨b, off + k, none⟩ = some (.bool l[k]) := by
  obtain ⟨b, off, e, -, hb, hc⟩ := RowIn.at_ h k hk
  exact ⟨b, off, e, hb, hc k _ (by simp [hk])⟩
set_option maxRecDepth 100000 in
set_option maxHeartbeats 3200000 in
theorem busOrder_any (VK : Value) (ks : List Int) (VT : Value) (ts : List Bool) (want : Int) (w : World) (hK : NsIn w (fun b => b < w.heap.size) VK ks) (hT : BlIn w (fun b => b < w.heap.size) VT ts) : Calls Try.prog 4 #[VK, VT, .int .i64 want] w fun e w' => e = .returned (.bool true) ∧ Below w.heap.size w w' := by
  obtain ⟨oK, cK, rfl, hk1, hk2, -, -⟩ := id hK
  obtain ⟨oT, cT, rfl, ht1, ht2, -, -⟩ := id hT
  have HN := Lib.hid (newP_any w)
  go_enter Try.func4, Try.ntmps4
  go_wp2_with fail
  refine HN.out.mono ?_
  rintro e x ⟨rfl, hx⟩
  have G0 := Lib.hid (hx ▸ BG.new w w w.heap.size (Below.refl _ _) (Nat.le_refl _))
  have HC := Lib.hid (alive_any x)
  clear hx HN
  go_wp2_with fail
  refine HC.out.mono ?_
  rintro e x1 ⟨rfl, hb⟩
  have G1 := Lib.hid (G0.out.below hb)
  clear hb HC G0
  by_cases hw1 : want < 1
  · go_wp2_with fail
    go_ret
    exact ⟨rfl, G1.out.bel⟩
  by_cases hw8 : 8 < want
  · go_wp2_with fail
    go_ret
    exact ⟨rfl, G1.out.bel⟩
  obtain ⟨S1, S2, hs1, hs2, hor⟩ := bu.OrS.start want (by omega) (by omega)
  have HS := Lib.hid (And.intro hs1 (And.intro hs2 hor))
  have HC := Lib.hid (open_g G1.out 2 _ HS.out.1)
  clear hs1 hs2 hor
  go_wp2_with fail
  refine HC.out.mono ?_
  rintro e x2 ⟨rfl, g⟩
  have G2 := Lib.hid g
  clear g HC G1
  have HC := Lib.hid (sub_g G2.out 2 want true _ HS.out.2.1)
  go_wp2_with fail
  refine HC.out.mono ?_
  rintro e x3 ⟨rfl, g⟩
  have G3 := Lib.hid (And.intro g HS.out.2.2)
  clear g HC G2 HS
  go_wp2_with fail
  go_loopg [8, 9, 10, 52] ks.length (fun gg s8 s9 s10 s52 wr => ∃ (i : Nat) (S : Nat → bu.Slot) (last came taken : Int), s8 = .int .i64 came ∧ s9 = .int .i64 taken ∧ s10 = .int .i64 last ∧ s52 = .int .i64 i ∧ i ≤ ks.length ∧ ks.length - i ≤ gg ∧ last < (i : Int) ∧ Hid (BG w.heap.size w w.heap.size [] S (i : Int) wr ∧ bu.OrS want S i last came taken))
  case atStart => exact ⟨0, S2, -1, 0, 0, rfl, rfl, rfl, rfl, Nat.zero_le _, Nat.le_refl _, by decide, G3⟩
  case round =>
    clear G3 hw1 hw8
    obtain ⟨i, S, last, came, taken, rfl, rfl, rfl, rfl, hi, hgg, hla, HT⟩ := hrel
    by_cases hi2 : (i : Int) < (ks.length : Int)
    · obtain ⟨bK, offK, rfl, hbK, hcK⟩ := NsIn.cell (RowIn.below hK HT.out.1.bel) i (by omega)
      obtain ⟨k, hk⟩ : ∃ k, ks[i]'(by omega) = k := ⟨_, rfl⟩
      rw [hk] at hcK
      clear hk
      have hcb := HT.out.2.cm
      have hcb0 := HT.out.2.came_pos
      by_cases hkw : k = want
      · have hkw := hkw.symm
        subst hkw

        obtain ⟨n, SP, hp, ho⟩ := HT.out.2.pub hla
        have HC := Lib.hid (pub_g HT.out.1 (by omega) ⟨want, (i : Int), 0, ⟨#[]⟩⟩ _ hp)
        have HO := Lib.hid ho
        clear hp ho
        go_wp2_with fail
        refine HC.out.mono ?_
        rintro e x5 ⟨rfl, g⟩
        have HU := Lib.hid (And.intro g HO.out)
        clear g HO HC HT hcK hbK
        by_cases hit : i < ts.length
        · obtain ⟨bT, offT, rfl, hbT, hcT⟩ := BlIn.cell (RowIn.below hT HU.out.1.bel) i hit
          obtain ⟨t, htt⟩ : ∃ t, ts[i] = t := ⟨_, rfl⟩
          rw [htt] at hcT
          have hiT : (i : Int) < (ts.length : Int) := by omega
          cases t with
          | false =>
            obtain ⟨L, D, hL0, hL16, hD0, h17, hcnt, htk, hcm, hl1, hd1⟩ := HU.out.2.tells
            have HC1 := Lib.hid (len_g HU.out.1 2 _ hl1)
            have HC2 := Lib.hid (drop_g HU.out.1 2 _ hd1)
            have hs1 : -9223372036854775808 ≤ taken + L ∧ taken + L ≤ 9223372036854775807 := by omega
            have hs2 : -9223372036854775808 ≤ taken + L + D ∧ taken + L + D ≤ 9223372036854775807 := by omega
            have hce : ((came + 1) == taken + L + D) = true := by rw [beq_iff_eq]; omega
            clear hl1 hd1
            by_cases hDp : 0 < D
            · have h17' := h17 hDp
              clear h17
              go_wp2_with fail
              refine HC1.out.mono ?_
              rintro e w' ⟨rfl, hw⟩
              replace hw := hw.symm
              subst hw
              go_wp2_with fail
              refine HC2.out.mono ?_
              rintro e w' ⟨rfl, hw⟩
              replace hw := hw.symm
              subst hw
              go_wp2_with fail
              refine HC1.out.mono ?_
              rintro e w' ⟨rfl, hw⟩
              replace hw := hw.symm
              subst hw
              go_wp2_with fail
              refine HC2.out.mono ?_
              rintro e w' ⟨rfl, hw⟩
              replace hw := hw.symm
              subst hw
              go_wp2_with fail
              go_roundg (ks.length - (i + 1))
              case measure => omega
              case rel => exact ⟨i + 1, _, last, (came + 1), taken, (by first | rfl | (simp; done) | (simp; omega)), (by first | rfl | (simp; done) | (simp; omega)), (by first | rfl | (simp; done) | (simp; omega)), (by first | rfl | (simp; done) | (simp; omega)), by omega, Nat.le_refl _, by have := hla; omega, Lib.hid ⟨by have := HU.out.1; rwa [show (i : Int) + 1 = ((i + 1 : Nat) : Int) by omega] at this, HU.out.2⟩⟩
            · clear h17
              go_wp2_with fail
              refine HC1.out.mono ?_
              rintro e w' ⟨rfl, hw⟩
              replace hw := hw.symm
              subst hw
              go_wp2_with fail
              refine HC2.out.mono ?_
              rintro e w' ⟨rfl, hw⟩
              replace hw := hw.symm
              subst hw
              go_wp2_with fail
              refine HC1.out.mono ?_
              rintro e w' ⟨rfl, hw⟩
              replace hw := hw.symm
              subst hw
              go_wp2_with fail
              refine HC2.out.mono ?_
              rintro e w' ⟨rfl, hw⟩
              replace hw := hw.symm
              subst hw
              go_wp2_with fail
              go_roundg (ks.length - (i + 1))
              case measure => omega
              case rel => exact ⟨i + 1, _, last, (came + 1), taken, (by first | rfl | (simp; done) | (simp; omega)), (by first | rfl | (simp; done) | (simp; omega)), (by first | rfl | (simp; done) | (simp; omega)), (by first | rfl | (simp; done) | (simp; omega)), by omega, Nat.le_refl _, by have := hla; omega, Lib.hid ⟨by have := HU.out.1; rwa [show (i : Int) + 1 = ((i + 1 : Nat) : Int) by omega] at this, HU.out.2⟩⟩
          | true =>
            rcases HU.out.2.take with ⟨ht, -⟩ | ⟨⟨ek, ea, eb, et⟩, SQ, ht, hek, hla2, hai, ho, -⟩
            · have HC := Lib.hid (take_g HU.out.1 2 _ ht)
              go_wp2_with fail
              refine HC.out.mono ?_
              rintro e x6 ⟨rfl, g⟩
              have GT := Lib.hid (And.intro (g.below (below_one x6 (evO bu.evZ))) HU.out.2)
              clear g HC ht
              dsimp only [Option.getD, Option.isSome]
              obtain ⟨L, D, hL0, hL16, hD0, h17, hcnt, htk, hcm, hl1, hd1⟩ := GT.out.2.tells
              have HC1 := Lib.hid (len_g GT.out.1 2 _ hl1)
              have HC2 := Lib.hid (drop_g GT.out.1 2 _ hd1)
              have hs1 : -9223372036854775808 ≤ taken + L ∧ taken + L ≤ 9223372036854775807 := by omega
              have hs2 : -9223372036854775808 ≤ taken + L + D ∧ taken + L + D ≤ 9223372036854775807 := by omega
              have hce : ((came + 1) == taken + L + D) = true := by rw [beq_iff_eq]; omega
              clear hl1 hd1
              by_cases hDp : 0 < D
              · have h17' := h17 hDp
                clear h17
                go_wp2_with fail
                refine HC1.out.mono ?_
                rintro e w' ⟨rfl, hw⟩
                replace hw := hw.symm
                subst hw
                go_wp2_with fail
                refine HC2.out.mono ?_
                rintro e w' ⟨rfl, hw⟩
                replace hw := hw.symm
                subst hw
                go_wp2_with fail
                refine HC1.out.mono ?_
                rintro e w' ⟨rfl, hw⟩
                replace hw := hw.symm
                subst hw
                go_wp2_with fail
                refine HC2.out.mono ?_
                rintro e w' ⟨rfl, hw⟩
                replace hw := hw.symm
                subst hw
                go_wp2_with fail
                go_roundg (ks.length - (i + 1))
                case measure => omega
                case rel => exact ⟨i + 1, _, last, (came + 1), taken, (by first | rfl | (simp; done) | (simp; omega)), (by first | rfl | (simp; done) | (simp; omega)), (by first | rfl | (simp; done) | (simp; omega)), (by first | rfl | (simp; done) | (simp; omega)), by omega, Nat.le_refl _, by have := hla; omega, Lib.hid ⟨by have := GT.out.1; rwa [show (i : Int) + 1 = ((i + 1 : Nat) : Int) by omega] at this, GT.out.2⟩⟩
              · clear h17
                go_wp2_with fail
                refine HC1.out.mono ?_
                rintro e w' ⟨rfl, hw⟩
                replace hw := hw.symm
                subst hw
                go_wp2_with fail
                refine HC2.out.mono ?_
                rintro e w' ⟨rfl, hw⟩
                replace hw := hw.symm
                subst hw
                go_wp2_with fail
                refine HC1.out.mono ?_
                rintro e w' ⟨rfl, hw⟩
                replace hw := hw.symm
                subst hw
                go_wp2_with fail
                refine HC2.out.mono ?_
                rintro e w' ⟨rfl, hw⟩
                replace hw := hw.symm
                subst hw
                go_wp2_with fail
                go_roundg (ks.length - (i + 1))
                case measure => omega
                case rel => exact ⟨i + 1, _, last, (came + 1), taken, (by first | rfl | (simp; done) | (simp; omega)), (by first | rfl | (simp; done) | (simp; omega)), (by first | rfl | (simp; done) | (simp; omega)), (by first | rfl | (simp; done) | (simp; omega)), by omega, Nat.le_refl _, by have := hla; omega, Lib.hid ⟨by have := GT.out.1; rwa [show (i : Int) + 1 = ((i + 1 : Nat) : Int) by omega] at this, GT.out.2⟩⟩
            · have HC := Lib.hid (take_g HU.out.1 2 _ ht)
              simp only at hek hla2 hai ho
              have hek := hek.symm
              subst hek
              have HO := Lib.hid ho
              go_wp2_with fail
              refine HC.out.mono ?_
              rintro e x6 ⟨rfl, g⟩
              clear HC ht ho hcT hbT
              dsimp only [Option.getD, Option.isSome]
              have GX := g.box (evO ⟨want, ea, eb, et⟩)
              go_upto_region 18 with fail
              obtain ⟨W, hW⟩ : ∃ W, x6.alloc (evO ⟨want, ea, eb, et⟩) = W := ⟨_, rfl⟩
              rw [hW] at GX
              change Code.wp _ _ _ _ (x6.alloc (evO ⟨want, ea, eb, et⟩))
              rw [hW]
              clear hW g
              generalize x6.heap.size = be at *
              have hbx : W.heap[be]? = some (evO ⟨want, ea, eb, et⟩) := GX.here
              have y0 : W.cell? ⟨be, 0, none⟩ = some (.int .i64 want) := (cell_of_heap hbx).trans rfl
              have y1 : W.cell? ⟨be, 1, none⟩ = some (.int .i64 ea) := (cell_of_heap hbx).trans rfl
              have GT := Lib.hid (And.intro GX.drop HO.out)
              have hla := hai
              clear hbx GX HO
              obtain ⟨L, D, hL0, hL16, hD0, h17, hcnt, htk, hcm, hl1, hd1⟩ := GT.out.2.tells
              have HC1 := Lib.hid (len_g GT.out.1 2 _ hl1)
              have HC2 := Lib.hid (drop_g GT.out.1 2 _ hd1)
              have hs1 : -9223372036854775808 ≤ (taken + 1) + L ∧ (taken + 1) + L ≤ 9223372036854775807 := by omega
              have hs2 : -9223372036854775808 ≤ (taken + 1) + L + D ∧ (taken + 1) + L + D ≤ 9223372036854775807 := by omega
              have hce : ((came + 1) == (taken + 1) + L + D) = true := by rw [beq_iff_eq]; omega
              clear hl1 hd1
              by_cases hDp : 0 < D
              · have h17' := h17 hDp
                clear h17
                go_wp2_with fail
                refine HC1.out.mono ?_
                rintro e w' ⟨rfl, hw⟩
                replace hw := hw.symm
                subst hw
                go_wp2_with fail
                refine HC2.out.mono ?_
                rintro e w' ⟨rfl, hw⟩
                replace hw := hw.symm
                subst hw
                go_wp2_with fail
                refine HC1.out.mono ?_
                rintro e w' ⟨rfl, hw⟩
                replace hw := hw.symm
                subst hw
                go_wp2_with fail
                refine HC2.out.mono ?_
                rintro e w' ⟨rfl, hw⟩
                replace hw := hw.symm
                subst hw
                go_wp2_with fail
                go_roundg (ks.length - (i + 1))
                case measure => omega
                case rel => exact ⟨i + 1, _, ea, (came + 1), (taken + 1), (by first | rfl | (simp; done) | (simp; omega)), (by first | rfl | (simp; done) | (simp; omega)), (by first | rfl | (simp; done) | (simp; omega)), (by first | rfl | (simp; done) | (simp; omega)), by omega, Nat.le_refl _, by have := hla; omega, Lib.hid ⟨by have := GT.out.1; rwa [show (i : Int) + 1 = ((i + 1 : Nat) : Int) by omega] at this, GT.out.2⟩⟩
              · clear h17
                go_wp2_with fail
                refine HC1.out.mono ?_
                rintro e w' ⟨rfl, hw⟩
                replace hw := hw.symm
                subst hw
                go_wp2_with fail
                refine HC2.out.mono ?_
                rintro e w' ⟨rfl, hw⟩
                replace hw := hw.symm
                subst hw
                go_wp2_with fail
                refine HC1.out.mono ?_
                rintro e w' ⟨rfl, hw⟩
                replace hw := hw.symm
                subst hw
                go_wp2_with fail
                refine HC2.out.mono ?_
                rintro e w' ⟨rfl, hw⟩
                replace hw := hw.symm
                subst hw
                go_wp2_with fail
                go_roundg (ks.length - (i + 1))
                case measure => omega
                case rel => exact ⟨i + 1, _, ea, (came + 1), (taken + 1), (by first | rfl | (simp; done) | (simp; omega)), (by first | rfl | (simp; done) | (simp; omega)), (by first | rfl | (simp; done) | (simp; omega)), (by first | rfl | (simp; done) | (simp; omega)), by omega, Nat.le_refl _, by have := hla; omega, Lib.hid ⟨by have := GT.out.1; rwa [show (i : Int) + 1 = ((i + 1 : Nat) : Int) by omega] at this, GT.out.2⟩⟩
        · have hiT : ¬ (i : Int) < (ts.length : Int) := by omega
          obtain ⟨L, D, hL0, hL16, hD0, h17, hcnt, htk, hcm, hl1, hd1⟩ := HU.out.2.tells
          have HC1 := Lib.hid (len_g HU.out.1 2 _ hl1)
          have HC2 := Lib.hid (drop_g HU.out.1 2 _ hd1)
          have hs1 : -9223372036854775808 ≤ taken + L ∧ taken + L ≤ 9223372036854775807 := by omega
          have hs2 : -9223372036854775808 ≤ taken + L + D ∧ taken + L + D ≤ 9223372036854775807 := by omega
          have hce : ((came + 1) == taken + L + D) = true := by rw [beq_iff_eq]; omega
          clear hl1 hd1
          by_cases hDp : 0 < D
          · have h17' := h17 hDp
            clear h17
            go_wp2_with fail
            refine HC1.out.mono ?_
            rintro e w' ⟨rfl, hw⟩
            replace hw := hw.symm
            subst hw
            go_wp2_with fail
            refine HC2.out.mono ?_
            rintro e w' ⟨rfl, hw⟩
            replace hw := hw.symm
            subst hw
            go_wp2_with fail
            refine HC1.out.mono ?_
            rintro e w' ⟨rfl, hw⟩
            replace hw := hw.symm
            subst hw
            go_wp2_with fail
            refine HC2.out.mono ?_
            rintro e w' ⟨rfl, hw⟩
            replace hw := hw.symm
            subst hw
            go_wp2_with fail
            go_roundg (ks.length - (i + 1))
            case measure => omega
            case rel => exact ⟨i + 1, _, last, (came + 1), taken, (by first | rfl | (simp; done) | (simp; omega)), (by first | rfl | (simp; done) | (simp; omega)), (by first | rfl | (simp; done) | (simp; omega)), (by first | rfl | (simp; done) | (simp; omega)), by omega, Nat.le_refl _, by have := hla; omega, Lib.hid ⟨by have := HU.out.1; rwa [show (i : Int) + 1 = ((i + 1 : Nat) : Int) by omega] at this, HU.out.2⟩⟩
          · clear h17
            go_wp2_with fail
            refine HC1.out.mono ?_
            rintro e w' ⟨rfl, hw⟩
            replace hw := hw.symm
            subst hw
            go_wp2_with fail
            refine HC2.out.mono ?_
            rintro e w' ⟨rfl, hw⟩
            replace hw := hw.symm
            subst hw
            go_wp2_with fail
            refine HC1.out.mono ?_
            rintro e w' ⟨rfl, hw⟩
            replace hw := hw.symm
            subst hw
            go_wp2_with fail
            refine HC2.out.mono ?_
            rintro e w' ⟨rfl, hw⟩
            replace hw := hw.symm
            subst hw
            go_wp2_with fail
            go_roundg (ks.length - (i + 1))
            case measure => omega
            case rel => exact ⟨i + 1, _, last, (came + 1), taken, (by first | rfl | (simp; done) | (simp; omega)), (by first | rfl | (simp; done) | (simp; omega)), (by first | rfl | (simp; done) | (simp; omega)), (by first | rfl | (simp; done) | (simp; omega)), by omega, Nat.le_refl _, by have := hla; omega, Lib.hid ⟨by have := HU.out.1; rwa [show (i : Int) + 1 = ((i + 1 : Nat) : Int) by omega] at this, HU.out.2⟩⟩
      · have HC := Lib.hid (pub_g HT.out.1 (by omega) ⟨k, (i : Int), 0, ⟨#[]⟩⟩ _ (HT.out.2.pubNo _ hkw))
        go_wp2_with fail
        refine HC.out.mono ?_
        rintro e x5 ⟨rfl, g⟩
        have HU := Lib.hid (And.intro g HT.out.2.later)
        clear g HC HT hcK hbK
        by_cases hit : i < ts.length
        · obtain ⟨bT, offT, rfl, hbT, hcT⟩ := BlIn.cell (RowIn.below hT HU.out.1.bel) i hit
          obtain ⟨t, htt⟩ : ∃ t, ts[i] = t := ⟨_, rfl⟩
          rw [htt] at hcT
          have hiT : (i : Int) < (ts.length : Int) := by omega
          cases t with
          | false =>
            obtain ⟨L, D, hL0, hL16, hD0, h17, hcnt, htk, hcm, hl1, hd1⟩ := HU.out.2.tells
            have HC1 := Lib.hid (len_g HU.out.1 2 _ hl1)
            have HC2 := Lib.hid (drop_g HU.out.1 2 _ hd1)
            have hs1 : -9223372036854775808 ≤ taken + L ∧ taken + L ≤ 9223372036854775807 := by omega
            have hs2 : -9223372036854775808 ≤ taken + L + D ∧ taken + L + D ≤ 9223372036854775807 := by omega
            have hce : (came == taken + L + D) = true := by rw [beq_iff_eq]; omega
            clear hl1 hd1
            by_cases hDp : 0 < D
            · have h17' := h17 hDp
              clear h17
              go_wp2_with fail
              refine HC1.out.mono ?_
              rintro e w' ⟨rfl, hw⟩
              replace hw := hw.symm
              subst hw
              go_wp2_with fail
              refine HC2.out.mono ?_
              rintro e w' ⟨rfl, hw⟩
              replace hw := hw.symm
              subst hw
              go_wp2_with fail
              refine HC1.out.mono ?_
              rintro e w' ⟨rfl, hw⟩
              replace hw := hw.symm
              subst hw
              go_wp2_with fail
              refine HC2.out.mono ?_
              rintro e w' ⟨rfl, hw⟩
              replace hw := hw.symm
              subst hw
              go_wp2_with fail
              go_roundg (ks.length - (i + 1))
              case measure => omega
              case rel => exact ⟨i + 1, _, last, came, taken, (by first | rfl | (simp; done) | (simp; omega)), (by first | rfl | (simp; done) | (simp; omega)), (by first | rfl | (simp; done) | (simp; omega)), (by first | rfl | (simp; done) | (simp; omega)), by omega, Nat.le_refl _, by have := hla; omega, Lib.hid ⟨by have := HU.out.1; rwa [show (i : Int) + 1 = ((i + 1 : Nat) : Int) by omega] at this, HU.out.2⟩⟩
            · clear h17
              go_wp2_with fail
              refine HC1.out.mono ?_
              rintro e w' ⟨rfl, hw⟩
              replace hw := hw.symm
              subst hw
              go_wp2_with fail
              refine HC2.out.mono ?_
              rintro e w' ⟨rfl, hw⟩
              replace hw := hw.symm
              subst hw
              go_wp2_with fail
              refine HC1.out.mono ?_
              rintro e w' ⟨rfl, hw⟩
              replace hw := hw.symm
              subst hw
              go_wp2_with fail
              refine HC2.out.mono ?_
              rintro e w' ⟨rfl, hw⟩
              replace hw := hw.symm
              subst hw
              go_wp2_with fail
              go_roundg (ks.length - (i + 1))
              case measure => omega
              case rel => exact ⟨i + 1, _, last, came, taken, (by first | rfl | (simp; done) | (simp; omega)), (by first | rfl | (simp; done) | (simp; omega)), (by first | rfl | (simp; done) | (simp; omega)), (by first | rfl | (simp; done) | (simp; omega)), by omega, Nat.le_refl _, by have := hla; omega, Lib.hid ⟨by have := HU.out.1; rwa [show (i : Int) + 1 = ((i + 1 : Nat) : Int) by omega] at this, HU.out.2⟩⟩
          | true =>
            rcases HU.out.2.take with ⟨ht, -⟩ | ⟨⟨ek, ea, eb, et⟩, SQ, ht, hek, hla2, hai, ho, -⟩
            · have HC := Lib.hid (take_g HU.out.1 2 _ ht)
              go_wp2_with fail
              refine HC.out.mono ?_
              rintro e x6 ⟨rfl, g⟩
              have GT := Lib.hid (And.intro (g.below (below_one x6 (evO bu.evZ))) HU.out.2)
              clear g HC ht
              dsimp only [Option.getD, Option.isSome]
              obtain ⟨L, D, hL0, hL16, hD0, h17, hcnt, htk, hcm, hl1, hd1⟩ := GT.out.2.tells
              have HC1 := Lib.hid (len_g GT.out.1 2 _ hl1)
              have HC2 := Lib.hid (drop_g GT.out.1 2 _ hd1)
              have hs1 : -9223372036854775808 ≤ taken + L ∧ taken + L ≤ 9223372036854775807 := by omega
              have hs2 : -9223372036854775808 ≤ taken + L + D ∧ taken + L + D ≤ 9223372036854775807 := by omega
              have hce : (came == taken + L + D) = true := by rw [beq_iff_eq]; omega
              clear hl1 hd1
              by_cases hDp : 0 < D
              · have h17' := h17 hDp
                clear h17
                go_wp2_with fail
                refine HC1.out.mono ?_
                rintro e w' ⟨rfl, hw⟩
                replace hw := hw.symm
                subst hw
                go_wp2_with fail
                refine HC2.out.mono ?_
                rintro e w' ⟨rfl, hw⟩
                replace hw := hw.symm
                subst hw
                go_wp2_with fail
                refine HC1.out.mono ?_
                rintro e w' ⟨rfl, hw⟩
                replace hw := hw.symm
                subst hw
                go_wp2_with fail
                refine HC2.out.mono ?_
                rintro e w' ⟨rfl, hw⟩
                replace hw := hw.symm
                subst hw
                go_wp2_with fail
                go_roundg (ks.length - (i + 1))
                case measure => omega
                case rel => exact ⟨i + 1, _, last, came, taken, (by first | rfl | (simp; done) | (simp; omega)), (by first | rfl | (simp; done) | (simp; omega)), (by first | rfl | (simp; done) | (simp; omega)), (by first | rfl | (simp; done) | (simp; omega)), by omega, Nat.le_refl _, by have := hla; omega, Lib.hid ⟨by have := GT.out.1; rwa [show (i : Int) + 1 = ((i + 1 : Nat) : Int) by omega] at this, GT.out.2⟩⟩
              · clear h17
                go_wp2_with fail
                refine HC1.out.mono ?_
                rintro e w' ⟨rfl, hw⟩
                replace hw := hw.symm
                subst hw
                go_wp2_with fail
                refine HC2.out.mono ?_
                rintro e w' ⟨rfl, hw⟩
                replace hw := hw.symm
                subst hw
                go_wp2_with fail
                refine HC1.out.mono ?_
                rintro e w' ⟨rfl, hw⟩
                replace hw := hw.symm
                subst hw
                go_wp2_with fail
                refine HC2.out.mono ?_
                rintro e w' ⟨rfl, hw⟩
                replace hw := hw.symm
                subst hw
                go_wp2_with fail
                go_roundg (ks.length - (i + 1))
                case measure => omega
                case rel => exact ⟨i + 1, _, last, came, taken, (by first | rfl | (simp; done) | (simp; omega)), (by first | rfl | (simp; done) | (simp; omega)), (by first | rfl | (simp; done) | (simp; omega)), (by first | rfl | (simp; done) | (simp; omega)), by omega, Nat.le_refl _, by have := hla; omega, Lib.hid ⟨by have := GT.out.1; rwa [show (i : Int) + 1 = ((i + 1 : Nat) : Int) by omega] at this, GT.out.2⟩⟩
            · have HC := Lib.hid (take_g HU.out.1 2 _ ht)
              simp only at hek hla2 hai ho
              have hek := hek.symm
              subst hek
              have HO := Lib.hid ho
              go_wp2_with fail
              refine HC.out.mono ?_
              rintro e x6 ⟨rfl, g⟩
              clear HC ht ho hcT hbT
              dsimp only [Option.getD, Option.isSome]
              have GX := g.box (evO ⟨want, ea, eb, et⟩)
              go_upto_region 18 with fail
              obtain ⟨W, hW⟩ : ∃ W, x6.alloc (evO ⟨want, ea, eb, et⟩) = W := ⟨_, rfl⟩
              rw [hW] at GX
              change Code.wp _ _ _ _ (x6.alloc (evO ⟨want, ea, eb, et⟩))
              rw [hW]
              clear hW g
              generalize x6.heap.size = be at *
              have hbx : W.heap[be]? = some (evO ⟨want, ea, eb, et⟩) := GX.here
              have y0 : W.cell? ⟨be, 0, none⟩ = some (.int .i64 want) := (cell_of_heap hbx).trans rfl
              have y1 : W.cell? ⟨be, 1, none⟩ = some (.int .i64 ea) := (cell_of_heap hbx).trans rfl
              have GT := Lib.hid (And.intro GX.drop HO.out)
              have hla := hai
              clear hbx GX HO
              obtain ⟨L, D, hL0, hL16, hD0, h17, hcnt, htk, hcm, hl1, hd1⟩ := GT.out.2.tells
              have HC1 := Lib.hid (len_g GT.out.1 2 _ hl1)
              have HC2 := Lib.hid (drop_g GT.out.1 2 _ hd1)
              have hs1 : -9223372036854775808 ≤ (taken + 1) + L ∧ (taken + 1) + L ≤ 9223372036854775807 := by omega
              have hs2 : -9223372036854775808 ≤ (taken + 1) + L + D ∧ (taken + 1) + L + D ≤ 9223372036854775807 := by omega
              have hce : (came == (taken + 1) + L + D) = true := by rw [beq_iff_eq]; omega
              clear hl1 hd1
              by_cases hDp : 0 < D
              · have h17' := h17 hDp
                clear h17
                go_wp2_with fail
                refine HC1.out.mono ?_
                rintro e w' ⟨rfl, hw⟩
                replace hw := hw.symm
                subst hw
                go_wp2_with fail
                refine HC2.out.mono ?_
                rintro e w' ⟨rfl, hw⟩
                replace hw := hw.symm
                subst hw
                go_wp2_with fail
                refine HC1.out.mono ?_
                rintro e w' ⟨rfl, hw⟩
                replace hw := hw.symm
                subst hw
                go_wp2_with fail
                refine HC2.out.mono ?_
                rintro e w' ⟨rfl, hw⟩
                replace hw := hw.symm
                subst hw
                go_wp2_with fail
                go_roundg (ks.length - (i + 1))
                case measure => omega
                case rel => exact ⟨i + 1, _, ea, came, (taken + 1), (by first | rfl | (simp; done) | (simp; omega)), (by first | rfl | (simp; done) | (simp; omega)), (by first | rfl | (simp; done) | (simp; omega)), (by first | rfl | (simp; done) | (simp; omega)), by omega, Nat.le_refl _, by have := hla; omega, Lib.hid ⟨by have := GT.out.1; rwa [show (i : Int) + 1 = ((i + 1 : Nat) : Int) by omega] at this, GT.out.2⟩⟩
              · clear h17
                go_wp2_with fail
                refine HC1.out.mono ?_
                rintro e w' ⟨rfl, hw⟩
                replace hw := hw.symm
                subst hw
                go_wp2_with fail
                refine HC2.out.mono ?_
                rintro e w' ⟨rfl, hw⟩
                replace hw := hw.symm
                subst hw
                go_wp2_with fail
                refine HC1.out.mono ?_
                rintro e w' ⟨rfl, hw⟩
                replace hw := hw.symm
                subst hw
                go_wp2_with fail
                refine HC2.out.mono ?_
                rintro e w' ⟨rfl, hw⟩
                replace hw := hw.symm
                subst hw
                go_wp2_with fail
                go_roundg (ks.length - (i + 1))
                case measure => omega
                case rel => exact ⟨i + 1, _, ea, came, (taken + 1), (by first | rfl | (simp; done) | (simp; omega)), (by first | rfl | (simp; done) | (simp; omega)), (by first | rfl | (simp; done) | (simp; omega)), (by first | rfl | (simp; done) | (simp; omega)), by omega, Nat.le_refl _, by have := hla; omega, Lib.hid ⟨by have := GT.out.1; rwa [show (i : Int) + 1 = ((i + 1 : Nat) : Int) by omega] at this, GT.out.2⟩⟩
        · have hiT : ¬ (i : Int) < (ts.length : Int) := by omega
          obtain ⟨L, D, hL0, hL16, hD0, h17, hcnt, htk, hcm, hl1, hd1⟩ := HU.out.2.tells
          have HC1 := Lib.hid (len_g HU.out.1 2 _ hl1)
          have HC2 := Lib.hid (drop_g HU.out.1 2 _ hd1)
          have hs1 : -9223372036854775808 ≤ taken + L ∧ taken + L ≤ 9223372036854775807 := by omega
          have hs2 : -9223372036854775808 ≤ taken + L + D ∧ taken + L + D ≤ 9223372036854775807 := by omega
          have hce : (came == taken + L + D) = true := by rw [beq_iff_eq]; omega
          clear hl1 hd1
          by_cases hDp : 0 < D
          · have h17' := h17 hDp
            clear h17
            go_wp2_with fail
            refine HC1.out.mono ?_
            rintro e w' ⟨rfl, hw⟩
            replace hw := hw.symm
            subst hw
            go_wp2_with fail
            refine HC2.out.mono ?_
            rintro e w' ⟨rfl, hw⟩
            replace hw := hw.symm
            subst hw
            go_wp2_with fail
            refine HC1.out.mono ?_
            rintro e w' ⟨rfl, hw⟩
            replace hw := hw.symm
            subst hw
            go_wp2_with fail
            refine HC2.out.mono ?_
            rintro e w' ⟨rfl, hw⟩
            replace hw := hw.symm
            subst hw
            go_wp2_with fail
            go_roundg (ks.length - (i + 1))
            case measure => omega
            case rel => exact ⟨i + 1, _, last, came, taken, (by first | rfl | (simp; done) | (simp; omega)), (by first | rfl | (simp; done) | (simp; omega)), (by first | rfl | (simp; done) | (simp; omega)), (by first | rfl | (simp; done) | (simp; omega)), by omega, Nat.le_refl _, by have := hla; omega, Lib.hid ⟨by have := HU.out.1; rwa [show (i : Int) + 1 = ((i + 1 : Nat) : Int) by omega] at this, HU.out.2⟩⟩
          · clear h17
            go_wp2_with fail
            refine HC1.out.mono ?_
            rintro e w' ⟨rfl, hw⟩
            replace hw := hw.symm
            subst hw
            go_wp2_with fail
            refine HC2.out.mono ?_
            rintro e w' ⟨rfl, hw⟩
            replace hw := hw.symm
            subst hw
            go_wp2_with fail
            refine HC1.out.mono ?_
            rintro e w' ⟨rfl, hw⟩
            replace hw := hw.symm
            subst hw
            go_wp2_with fail
            refine HC2.out.mono ?_
            rintro e w' ⟨rfl, hw⟩
            replace hw := hw.symm
            subst hw
            go_wp2_with fail
            go_roundg (ks.length - (i + 1))
            case measure => omega
            case rel => exact ⟨i + 1, _, last, came, taken, (by first | rfl | (simp; done) | (simp; omega)), (by first | rfl | (simp; done) | (simp; omega)), (by first | rfl | (simp; done) | (simp; omega)), (by first | rfl | (simp; done) | (simp; omega)), by omega, Nat.le_refl _, by have := hla; omega, Lib.hid ⟨by have := HU.out.1; rwa [show (i : Int) + 1 = ((i + 1 : Nat) : Int) by omega] at this, HU.out.2⟩⟩
    · obtain rfl : i = ks.length := by omega
      clear hgg hi hla
      go_wp2_with fail
      clear hi2
      go_loopg [10] 16 (fun gg s10 wr => ∃ (S : Nat → bu.Slot) (last came taken : Int), s10 = .int .i64 last ∧ Hid ((S 1).queue.length ≤ gg) ∧ Hid (BG w.heap.size w w.heap.size [] S (ks.length : Int) wr ∧ bu.OrS want S ks.length last came taken))
      case atStart => exact ⟨S, last, came, taken, rfl, Lib.hid HT.out.2.len, HT⟩
      case round =>
        obtain ⟨SL, last', came', taken', rfl, HL, HT'⟩ := hrel
        rcases HT'.out.2.take with ⟨ht, hlen⟩ | ⟨⟨ek, ea, eb, et⟩, SQ, ht, hek, hla2, hai, ho, hln⟩
        · have HC1 := Lib.hid (len_g HT'.out.1 2 0 (by rw [HT'.out.2.lenA, hlen]; rfl))
          have HC := Lib.hid (take_g HT'.out.1 2 _ ht)
          clear ht hlen HT HT' HL
          go_wp2_with fail
          refine HC1.out.mono ?_
          rintro e w' ⟨rfl, hw⟩
          replace hw := hw.symm
          subst hw
          go_wp2_with fail
          refine HC.out.mono ?_
          rintro e x6 ⟨rfl, g⟩
          have GT := Lib.hid (g.below (below_one x6 (evO bu.evZ)))
          clear g HC HC1
          dsimp only [Option.getD, Option.isSome]
          go_wp2_with fail
          go_ret
          exact ⟨rfl, GT.out.bel⟩
        · obtain ⟨L, hL⟩ : ∃ L : Int, ((SL 1).queue.length : Int) = L := ⟨_, rfl⟩
          have hL0 : 0 < L := by omega
          have HC1 := Lib.hid (len_g HT'.out.1 2 L (by rw [HT'.out.2.lenA, hL]))
          have HC := Lib.hid (take_g HT'.out.1 2 _ ht)
          have HM : Hid ((SQ 1).queue.length < (SL 1).queue.length) := Lib.hid (by omega)
          simp only at hek hla2 hai ho
          have HO := Lib.hid ho
          clear ht hek hai ho hln HT HT' hL
          go_wp2_with fail
          refine HC1.out.mono ?_
          rintro e w' ⟨rfl, hw⟩
          replace hw := hw.symm
          subst hw
          go_wp2_with fail
          refine HC.out.mono ?_
          rintro e x6 ⟨rfl, g⟩
          clear HC HC1
          dsimp only [Option.getD, Option.isSome]
          have GX := g.box (evO ⟨ek, ea, eb, et⟩)
          go_upto_region 28 with fail
          obtain ⟨W, hW⟩ : ∃ W, x6.alloc (evO ⟨ek, ea, eb, et⟩) = W := ⟨_, rfl⟩
          rw [hW] at GX
          change Code.wp _ _ _ _ (x6.alloc (evO ⟨ek, ea, eb, et⟩))
          rw [hW]
          clear hW g
          generalize x6.heap.size = be at *
          have hbx : W.heap[be]? = some (evO ⟨ek, ea, eb, et⟩) := GX.here
          have y1 : W.cell? ⟨be, 1, none⟩ = some (.int .i64 ea) := (cell_of_heap hbx).trans rfl
          have GT := Lib.hid (And.intro GX.drop HO.out)
          clear hbx GX HO
          go_wp2_with fail
          go_roundg ((SQ 1).queue.length)
          case measure =>
            have := HL.out
            have := HM.out
            omega
          case rel => exact ⟨SQ, ea, came', taken' + 1, (by first | rfl | (simp; done)), Lib.hid (Nat.le_refl _), GT⟩
end Go.Proofs.Ytmhlkdhinklnfaa
