/- An Int, read. -/
import Derived.Test.YthmiaamjbokljaaGreatDoorTkQuote
namespace Go.Proofs.YthmiaamjbokljaaGreatDoor
open Go.RowKit
set_option maxRecDepth 100000 in
set_option maxHeartbeats 1600000 in
theorem integer_any (p : Nat) (s : List UInt8) (r : tk.St) (V : Value) (rest : List UInt8) (w : World) (h : RdAt w p s r V) (ht : TT w) (hl : rest.length ≤ 1048576) (hat : r.at_ ≤ 1048576) (hlen : r.toks.length ≤ 1048576) :
    Calls Tryz.prog 63 #[.pointer (some ⟨p, 0, none⟩), str rest] w fun e w' => e = .returned (.tuple #[]) ∧ (∃ V', RdAt w' p s (tk.integer r rest) V') ∧ Below p w w' := by
  have hn := tk.intLen_le rest
  have HI := Lib.hid (intLen_any rest w hl)
  have hsz := str_size rest
  have HDI : Hid (tk.integer r rest = match Lib.parseIntB 64 (rest.take (tk.intLen rest)) with
    | .ok v => if tk.span tk.isWord (rest.drop (tk.intLen rest)) = 0 then tk.add r { kind := 3, text := rest.take (tk.intLen rest), int := v } (tk.intLen rest) else tk.fail r 73 r.at_
    | _ => tk.fail r 73 r.at_) := Lib.hid rfl
  generalize tk.intLen rest = n at *
  have hhi := fun wx => run_str_hi rest .i64 n hn wx
  have hlo := fun wx => run_str_lo rest .i64 n hn wx
  have hll : (rest.take n).length ≤ 1048576 := by rw [List.length_take]; omega
  have HP := Lib.hid (parse_any (rest.take n) w hll ht)
  have HSP := Lib.hid (fun W => span_isWord (rest.drop n) W (by rw [List.length_drop]; omega))
  have HCL := Lib.hid (fun W => clone_any (rest.take n) W hll)
  generalize tk.span tk.isWord (rest.drop n) = sp at *
  generalize tk.integer r rest = R at *
  have hp := h.lt
  have HH := Lib.hid h
  clear h ht hll
  go_enter Tryz.func63, Tryz.ntmps63
  go_wp2_with fail
  refine HI.out.mono ?_
  rintro e w1 ⟨rfl, hw1⟩
  replace hw1 := hw1.symm
  subst hw1
  go_wp2_with fail
  refine HP.out.mono ?_
  rintro e w2 ⟨hor, hb2⟩
  have HR2 := Lib.hid (HH.out.below hb2)
  have HB2 := Lib.hid (hb2.mono (Nat.le_of_lt hp))
  have hp2 : p < w2.heap.size := Nat.lt_of_lt_of_le hp hb2.size
  clear hb2
  obtain ⟨c0, c1, c2, c3, c4, f1, f2, f3, f4, u⟩ := HR2.out.cells
  have HF := Lib.hid (fail_any p s r V 73 r.at_ w2 HR2.out)
  rcases hor with ⟨v, hv, rfl⟩ | ⟨hno, z, N, rfl⟩
  · by_cases hsp : sp = 0
    · subst hsp
      have HE : Hid (R = tk.add r { kind := 3, text := rest.take n, int := v } n) := Lib.hid (by rw [HDI.out, hv]; simp)
      clear hv
      go_wp2_with fail
      refine (HSP.out _).mono ?_
      rintro e w3 ⟨rfl, hw3⟩
      replace hw3 := hw3.symm
      subst hw3
      go_wp2_with fail
      refine (HCL.out _).mono ?_
      rintro e w4 ⟨rfl, hb4⟩
      have HA := Lib.hid (add_any p s r V { kind := 3, text := rest.take n, int := v } 0 n w4 (HR2.out.below hb4) (by omega) hlen)
      have HB4 := Lib.hid (HB2.out.trans (hb4.mono (Nat.le_of_lt hp2)))
      clear hb4
      go_wp2_with fail
      refine HA.out.mono ?_
      rintro e w5 ⟨rfl, hR, hb⟩
      have HR := Lib.hid (And.intro hR (HB4.out.trans hb))
      clear hR hb
      go_wp2_with fail
      go_end0
      exact ⟨rfl, by rw [HE.out]; exact HR.out.1, HR.out.2⟩
    · have hspi : (0 : Int) < (sp : Int) := by omega
      have HE : Hid (R = tk.fail r 73 r.at_) := Lib.hid (by rw [HDI.out, hv]; simp [hsp])
      clear hv
      go_wp2_with fail
      refine (HSP.out _).mono ?_
      rintro e w3 ⟨rfl, hw3⟩
      replace hw3 := hw3.symm
      subst hw3
      go_wp2_with fail
      refine HF.out.mono ?_
      rintro e w4 ⟨rfl, hR, hb⟩
      have HR := Lib.hid (And.intro hR (HB2.out.trans hb))
      clear hR hb
      go_wp2_with fail
      refine bodyPost_ret (results_none rfl _ _ _) rfl ?_
      exact ⟨rfl, ⟨V, by rw [HE.out]; exact HR.out.1⟩, HR.out.2⟩
  · have HE : Hid (R = tk.fail r 73 r.at_) := Lib.hid (by
      rw [HDI.out]
      cases hq : Lib.parseIntB 64 (rest.take n) with
      | ok v => exact absurd hq (hno v)
      | range => rfl
      | _ => rfl)
    clear hno
    go_wp2_with fail
    refine HF.out.mono ?_
    rintro e w4 ⟨rfl, hR, hb⟩
    have HR := Lib.hid (And.intro hR (HB2.out.trans hb))
    clear hR hb
    go_wp2_with fail
    refine bodyPost_ret (results_none rfl _ _ _) rfl ?_
    exact ⟨rfl, ⟨V, by rw [HE.out]; exact HR.out.1⟩, HR.out.2⟩
end Go.Proofs.YthmiaamjbokljaaGreatDoor
