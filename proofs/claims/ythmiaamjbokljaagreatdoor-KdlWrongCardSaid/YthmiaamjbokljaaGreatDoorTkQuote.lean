/- Quotes and Ints, read. -/
import Derived.Test.YthmiaamjbokljaaGreatDoorTkUnq
namespace Go.Proofs.YthmiaamjbokljaaGreatDoor
open Go.RowKit
theorem tk.qend_some : ∀ (l : List UInt8) (k e : Nat), tk.qend k l = some e → k ≤ e ∧ e < k + l.length ∧ tk.paired (l.take (e - k)) = true
  | [], k, e, h => by simp [tk.qend] at h
  | [c], k, e, h => by
    unfold tk.qend at h
    split at h
    · cases h; exact ⟨Nat.le_refl _, by simp, by simp [tk.paired]⟩
    · cases h
  | c :: d :: r, k, e, h => by
    unfold tk.qend at h
    split at h
    · rename_i h92
      obtain ⟨h1, h2, h3⟩ := tk.qend_some r (k + 2) e h
      obtain ⟨m, hm⟩ : ∃ m, e = k + 2 + m := ⟨e - (k + 2), by omega⟩
      subst hm
      refine ⟨by omega, by simp; omega, ?_⟩
      rw [show k + 2 + m - k = m + 2 by omega]
      rw [show k + 2 + m - (k + 2) = m by omega] at h3
      simp only [List.take_succ_cons]
      unfold tk.paired
      rw [if_pos h92]
      exact h3
    split at h
    · cases h; exact ⟨Nat.le_refl _, by simp, by simp [tk.paired]⟩
    · rename_i h92 _
      obtain ⟨h1, h2, h3⟩ := tk.qend_some (d :: r) (k + 1) e h
      obtain ⟨m, hm⟩ : ∃ m, e = k + 1 + m := ⟨e - (k + 1), by omega⟩
      subst hm
      refine ⟨by omega, by simp at h2 ⊢; omega, ?_⟩
      rw [show k + 1 + m - k = m + 1 by omega]
      rw [show k + 1 + m - (k + 1) = m by omega] at h3
      cases m with
      | zero => simp [tk.paired, h92]
      | succ m =>
        simp only [List.take_succ_cons] at h3 ⊢
        unfold tk.paired
        rw [if_neg h92]
        exact h3
theorem tk.quoteEnd_some (l : List UInt8) (e : Nat) (h : tk.quoteEnd l = some e) : 1 ≤ e ∧ e < l.length ∧ tk.paired ((l.take e).drop 1) = true := by
  obtain ⟨h1, h2, h3⟩ := tk.qend_some (l.drop 1) 1 e h
  rw [List.length_drop] at h2
  refine ⟨h1, by omega, ?_⟩
  rw [List.drop_take]
  exact h3
theorem tk.unq_place : ∀ (l : List UInt8) (k : Nat) (acc : List UInt8), (tk.unq k l acc).2.2 ≤ k + l.length
  | [], k, acc => by simp [tk.unq]
  | [c], k, acc => by unfold tk.unq; split; simp; split <;> simp
  | c :: d :: r, k, acc => by
    unfold tk.unq
    split
    · simp
    split
    · split
      · simp
      · have := tk.unq_place r (k + 2) (acc ++ [UInt8.ofNat (tk.escaped d)])
        simp; omega
    · have := tk.unq_place (d :: r) (k + 1) (acc ++ [c])
      simp at this ⊢; omega
theorem run_str_lh (l : List UInt8) (k k' : IntKind) (a b : Nat) (hab : a ≤ b) (hb : b ≤ l.length) (wx : World) : (Instr.slice 9 (.string ⟨l.toArray⟩) (some (.int k (a : Int))) (some (.int k' (b : Int))) none).run Tryz.prog wx = .ok (str ((l.take b).drop a)) wx := by
  rw [run_slice_string (P := Tryz.prog) wx 9 ⟨l.toArray⟩ k k' a b Tryz.underlying9 (by omega) (by omega) (by rw [str_size]; omega)]
  simp [str_extract, List.drop_take]
set_option maxRecDepth 100000 in
set_option maxHeartbeats 1600000 in
theorem quote_any (p : Nat) (s : List UInt8) (r : tk.St) (V : Value) (rest : List UInt8) (w : World) (h : RdAt w p s r V) (hl : rest.length ≤ 1048576) (hat : r.at_ ≤ 1048576) (hlen : r.toks.length ≤ 1048576) :
    Calls Tryz.prog 61 #[.pointer (some ⟨p, 0, none⟩), str rest] w fun e w' => e = .returned (.tuple #[]) ∧ (∃ V', RdAt w' p s (tk.quote r rest) V') ∧ Below p w w' := by
  have HQ := Lib.hid (quoteEnd_any rest w hl)
  obtain ⟨c0, c1, c2, c3, c4, f1, f2, f3, f4, u⟩ := h.cells
  have hsz := str_size rest
  cases hq : tk.quoteEnd rest with
  | none =>
    have HE : Hid (tk.quote r rest = tk.fail r 71 r.at_) := Lib.hid (by unfold tk.quote; rw [hq])
    rw [hq] at HQ
    have HF := Lib.hid (fail_any p s r V 71 r.at_ w h)
    unfold tk.optInt at HQ
    clear h hq
    go_enter Tryz.func61, Tryz.ntmps61
    go_wp2_with fail
    refine HQ.out.mono ?_
    rintro e w1 ⟨rfl, rfl⟩
    go_wp2_with fail
    refine HF.out.mono ?_
    rintro e w2 ⟨rfl, hR, hb⟩
    have HR := Lib.hid (And.intro hR hb)
    clear hR hb
    go_wp2_with fail
    refine bodyPost_ret (results_none rfl _ _ _) rfl ?_
    exact ⟨rfl, ⟨V, by rw [HE.out]; exact HR.out.1⟩, HR.out.2⟩
  | some q =>
    obtain ⟨hq1, hq2, hq3⟩ := tk.quoteEnd_some rest q hq
    have HU := Lib.hid (unquoted_any ((rest.take q).drop 1) w (by rw [List.length_drop, List.length_take]; omega) hq3)
    have hpl := tk.unq_place ((rest.take q).drop 1) 0 []
    rw [List.length_drop, List.length_take] at hpl
    have HE : Hid (tk.quote r rest = if (tk.unq 0 ((rest.take q).drop 1) []).2.1 = 0 then tk.add r { kind := 2, text := (tk.unq 0 ((rest.take q).drop 1) []).1 } (q + 1) else tk.fail r (tk.unq 0 ((rest.take q).drop 1) []).2.1 (r.at_ + 1 + (tk.unq 0 ((rest.take q).drop 1) []).2.2)) := Lib.hid (by unfold tk.quote; rw [hq])
    rw [hq] at HQ
    have hsl := fun wx => run_str_lh rest .i64 .i64 1 q hq1 (by omega) wx
    rw [show ((1 : Nat) : Int) = 1 from rfl] at hsl
    unfold tk.optInt at HQ
    generalize (rest.take q).drop 1 = inside at *
    generalize tk.unq 0 inside [] = U at *
    obtain ⟨ut, uc, up⟩ := U
    dsimp only at HU HE hpl
    have HH := Lib.hid h
    clear h hq hq3
    have hqi : ¬ ((q : Nat) : Int) < 0 := by omega
    go_enter Tryz.func61, Tryz.ntmps61
    go_wp2_with fail
    refine HQ.out.mono ?_
    rintro e w1 ⟨rfl, hw1⟩
    replace hw1 := hw1.symm
    subst hw1
    go_wp2_with fail
    refine HU.out.mono ?_
    rintro e w2 ⟨rfl, hb2⟩
    have hba := below_one w2 (.cells #[.int .i64 uc, .int .i64 up] 30)
    have HR2 := Lib.hid ((HH.out.below hb2).below hba)
    have HB2 := Lib.hid ((hb2.mono (Nat.le_of_lt u)).trans (hba.mono (Nat.le_trans (Nat.le_of_lt u) hb2.size)))
    clear hb2 hba c0 c1 c2 c3 c4 f1 f2 f3 f4
    obtain ⟨c0, c1, c2, c3, c4, f1, f2, f3, f4, u2⟩ := HR2.out.cells
    have HZ := Lib.hid (heap_alloc_new w2 (.cells #[.int .i64 uc, .int .i64 up] 30))
    go_upto_region 4 with fail
    generalize w2.alloc (.cells #[.int .i64 uc, .int .i64 up] 30) = w3 at *
    generalize w2.heap.size = g at *
    have d0 : w3.cell? ⟨g, 0, none⟩ = some (.int .i64 uc) := (cell_of_heap HZ.out).trans rfl
    have d1 : w3.cell? ⟨g, 1, none⟩ = some (.int .i64 up) := (cell_of_heap HZ.out).trans rfl
    by_cases hz : uc = 0
    · subst hz
      have HA := Lib.hid (add_any p s r V { kind := 2, text := ut } 0 (q + 1) w3 HR2.out (by omega) hlen)
      rw [show ((q + 1 : Nat) : Int) = (q : Int) + 1 by omega] at HA
      go_wp2_with fail
      refine HA.out.mono ?_
      rintro e w4 ⟨rfl, hR, hb⟩
      have HR := Lib.hid (And.intro hR (HB2.out.trans hb))
      clear hR hb
      go_wp2_with fail
      go_end0
      refine ⟨rfl, ?_, HR.out.2⟩
      have hx := HR.out.1
      simpa [HE.out] using hx
    · have hzi : ((uc : Int) == 0) = false := by simp; omega
      have HF := Lib.hid (fun X (hX : Below w3.heap.size w3 X) => fail_any p s r V uc ((r.at_ : Int) + 1 + up) X (HR2.out.below hX))
      have HB3 : Hid (∀ X, Below w3.heap.size w3 X → Below p w X) := Lib.hid (fun X hX => HB2.out.trans (hX.mono (Nat.le_of_lt u2)))
      have hv1 : IntKind.i64.wrap ((r.at_ : Int) + 1) = (r.at_ : Int) + 1 := by rw [IntKind.wrap_i64]; omega
      have hv2 : IntKind.i64.wrap ((r.at_ : Int) + 1 + up) = (r.at_ : Int) + 1 + up := by rw [IntKind.wrap_i64]; omega
      go_upto_region 5 with fail
      go_region_with (go_at_call 65; refine (HF.out _ (below_dN (Below.refl _ w3) 1)).mono ?_; rintro e w4 ⟨rfl, hR, hb⟩; have HR := Lib.hid (And.intro hR ((HB3.out _ (below_dN (Below.refl _ w3) 1)).trans hb)); clear hR hb)
      all_goals go_wp2_with fail
      all_goals refine bodyPost_ret (results_none rfl _ _ _) rfl ?_
      all_goals refine ⟨rfl, ?_, HR.out.2⟩
      all_goals rw [HE.out, if_neg hz]
      all_goals exact ⟨V, HR.out.1⟩
theorem tk.intLen_le (l : List UInt8) : tk.intLen l ≤ l.length := by
  have h1 := tk.trim_len l
  have h2 := tk.span_le tk.isDigit (Lib.trimPrefix l [45])
  unfold tk.intLen
  dsimp only
  split
  · omega
  · omega
theorem tk.parse_nil : Lib.parseIntB 64 [] = Lib.NumEnd.syntax := rfl
/-- ParseInt, in either way -/
theorem parse_any (l : List UInt8) (w : World) (hl : l.length ≤ 1048576) (ht : TT w) :
    Calls Tryz.prog 87 #[str l, .int .i64 10, .int .i64 64] w fun e w' => ((∃ v, Lib.parseIntB 64 l = .ok v ∧ e = .returned (.tuple #[.int .i64 v, .nilIface])) ∨ ((∀ v, Lib.parseIntB 64 l ≠ .ok v) ∧ ∃ z N, e = .returned (.tuple #[.int .i64 z, .iface 148 (.pointer (some ⟨N, 0, none⟩))]))) ∧ Below w.heap.size w w' := by
  have hs := str_size l
  cases h : Lib.parseIntB 64 l with
  | ok v =>
    refine (Tryz.strconv_ParseInt_10_at64_ok ⟨l.toArray⟩ (by omega) v h w).mono ?_
    rintro e w' ⟨rfl, hw⟩
    refine ⟨.inl ⟨v, rfl, rfl⟩, ?_⟩
    rcases hw with rfl | ⟨t, rfl⟩
    · exact Below.refl _ _
    · exact Lib.bytesWorld_below _ _ _
  | range =>
    obtain ⟨ev, he, hev⟩ := ht.rng
    refine (Tryz.strconv_ParseInt_10_at64_range ⟨l.toArray⟩ (by omega) h ev w he hev).mono ?_
    rintro e w' ⟨N, rfl, _, _, hb⟩
    exact ⟨.inr ⟨fun v hv => (by cases hv), _, N, rfl⟩, hb⟩
  | _ =>
    obtain ⟨ev, he, hev⟩ := ht.syn
    refine (Tryz.strconv_ParseInt_10_at64_syntax ⟨l.toArray⟩ (by omega) h ev w he hev).mono ?_
    rintro e w' ⟨N, rfl, _, _, hb⟩
    exact ⟨.inr ⟨fun v hv => (by cases hv), _, N, rfl⟩, hb⟩
end Go.Proofs.YthmiaamjbokljaaGreatDoor
