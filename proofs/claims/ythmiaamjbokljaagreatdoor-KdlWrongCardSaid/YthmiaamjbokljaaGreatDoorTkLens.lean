/- How many bytes an Int has; where a Quote ends. -/
import Derived.Test.YthmiaamjbokljaaGreatDoorTkBytes
namespace Go.Proofs.YthmiaamjbokljaaGreatDoor
open Go.RowKit
theorem tk.trim_len (l : List UInt8) : (Lib.trimPrefix l [45]).length ≤ l.length := by unfold Lib.trimPrefix; split <;> simp
set_option maxRecDepth 100000 in
set_option maxHeartbeats 1600000 in
theorem intLen_any (l : List UInt8) (w : World) (hl : l.length ≤ 1048576) :
    Calls Tryz.prog 62 #[str l] w fun e w' => e = .returned (.int .i64 (tk.intLen l : Nat)) ∧ w' = w := by
  have HT := Lib.hid (fun W => Tryz.strings_TrimPrefix ⟨l.toArray⟩ ⟨#[45]⟩ W)
  have htl := tk.trim_len l
  have hsz := str_size l
  have HD : Hid (tk.intLen l = if tk.span tk.isDigit (Lib.trimPrefix l [45]) = 0 then 0 else l.length - (Lib.trimPrefix l [45]).length + tk.span tk.isDigit (Lib.trimPrefix l [45])) := Lib.hid rfl
  have hsp := tk.span_le tk.isDigit (Lib.trimPrefix l [45])
  have HS := Lib.hid (fun W => span_isDigit (Lib.trimPrefix l [45]) W (by omega))
  rw [show Lib.trimPrefix (ByteArray.mk l.toArray).data.toList (ByteArray.mk #[45]).data.toList = Lib.trimPrefix l [45] from rfl] at HT
  have hsd := str_size (Lib.trimPrefix l [45])
  generalize tk.intLen l = R at *
  generalize Lib.trimPrefix l [45] = d at *
  generalize tk.span tk.isDigit d = N at *
  generalize hdl : d.length = dl at *
  generalize hln : l.length = ln at *
  clear hdl hln
  go_enter Tryz.func62, Tryz.ntmps62
  go_wp2_with fail
  refine (HT.out _).mono ?_
  rintro e w' ⟨rfl, rfl⟩
  go_wp2_with fail
  refine (HS.out _).mono ?_
  rintro e w' ⟨rfl, rfl⟩
  by_cases h0 : N = 0
  · subst h0
    go_wp2_with fail
    go_ret
    exact ⟨ret_nat (a := 0) (by rw [HD.out]; rfl), rfl⟩
  · have h0i : ((N : Int) == 0) = false := by simp; omega
    go_wp2_with fail
    go_ret
    have hR : R = ln - dl + N := by rw [HD.out, if_neg h0]
    refine ⟨congrArg (fun z => Ending.returned (.int .i64 z)) ?_, rfl⟩
    omega
theorem tk.drop_cons (l : List UInt8) (k : Nat) (h : k < l.length) : l.drop k = l[k] :: l.drop (k + 1) := List.drop_eq_getElem_cons h
theorem tk.qend_step (l : List UInt8) (k : Nat) (h : k < l.length) : tk.qend k (l.drop k) = if l[k].toNat = 92 then tk.qend (k + 2) (l.drop (k + 2)) else if l[k].toNat = 34 then some k else tk.qend (k + 1) (l.drop (k + 1)) := by
  rw [tk.drop_cons l k h]
  by_cases h2 : k + 1 < l.length
  · rw [tk.drop_cons l (k + 1) h2]
    rfl
  · have e1 : l.drop (k + 1) = [] := List.drop_eq_nil_of_le (by omega)
    have e2 : l.drop (k + 2) = [] := List.drop_eq_nil_of_le (by omega)
    rw [e1, e2]
    by_cases h92 : l[k].toNat = 92
    · rw [if_pos h92]
      simp [tk.qend, h92]
    · rw [if_neg h92]
      rfl
def tk.optInt : Option Nat → Int
  | none => -1
  | some e => (e : Int)
set_option maxRecDepth 100000 in
set_option maxHeartbeats 1600000 in
theorem quoteEnd_any (l : List UInt8) (w : World) (hl : l.length ≤ 1048576) :
    Calls Tryz.prog 83 #[str l] w fun e w' => e = .returned (.int .i64 (tk.optInt (tk.quoteEnd l))) ∧ w' = w := by
  have HQ := Lib.hid (tk.qend_step l)
  have hsz := str_size l
  have HIX := Lib.hid (fun (i : Nat) (hi : i < l.length) wx => run_str_idx l .i64 i hi wx)
  have H1 : Hid (tk.qend 1 (l.drop 1) = tk.quoteEnd l) := Lib.hid rfl
  generalize tk.quoteEnd l = R at *
  obtain ⟨n, hn⟩ : ∃ n, l.length = n := ⟨_, rfl⟩
  have HN := Lib.hid hn
  rw [hn] at hl hsz
  clear hn
  go_enter Tryz.func83, Tryz.ntmps83
  go_wp2_with fail
  go_loopg [3] (n + 2) (fun gg s3 wr => ∃ k : Nat, s3 = .int .i64 k ∧ k ≤ n + 1 ∧ n + 2 - k ≤ gg ∧ Hid (wr = w ∧ tk.qend k (l.drop k) = R))
  case atStart => exact ⟨1, rfl, by omega, by omega, Lib.hid ⟨rfl, H1.out⟩⟩
  case round =>
    clear H1
    obtain ⟨k, rfl, hk, hgg, HW⟩ := hrel
    obtain rfl := HW.out.1
    by_cases hlt : k < n
    · have hki : (k : Int) < (n : Int) := by omega
      have hkl : k < l.length := by rw [HN.out]; exact hlt
      have hix := HIX.out k hkl
      have hst := HQ.out k hkl
      rw [HW.out.2] at hst
      generalize l[k] = c at *
      generalize hcq : c.toNat = q at *
      by_cases h92 : q = 92
      · subst h92
        have HR : Hid (tk.qend (k + 2) (l.drop (k + 2)) = R) := Lib.hid (by rw [hst, if_pos rfl])
        clear hst hcq
        go_wp2_with fail
        go_roundg (n + 2 - (k + 2))
        case measure => omega
        case rel => exact ⟨k + 2, by go_num, by omega, Nat.le_refl _, Lib.hid ⟨rfl, HR.out⟩⟩
      have h92i : ((q : Int) == 92) = false := by simp; omega
      rw [if_neg h92] at hst
      by_cases h34 : q = 34
      · subst h34
        have HR : Hid (R = some k) := Lib.hid (by rw [hst, if_pos rfl])
        clear hst hcq h92
        go_wp2_with fail
        go_ret
        exact ⟨by rw [HR.out]; rfl, rfl⟩
      · have h34i : ((q : Int) == 34) = false := by simp; omega
        have HR : Hid (tk.qend (k + 1) (l.drop (k + 1)) = R) := Lib.hid (by rw [hst, if_neg h34])
        clear hst hcq
        go_wp2_with fail
        go_roundg (n + 2 - (k + 1))
        case measure => omega
        case rel => exact ⟨k + 1, by go_num, by omega, Nat.le_refl _, Lib.hid ⟨rfl, HR.out⟩⟩
    · have hki : ¬ (k : Int) < (n : Int) := by omega
      have HR : Hid (R = none) := Lib.hid (by rw [← HW.out.2, List.drop_eq_nil_of_le (by rw [HN.out]; omega)]; rfl)
      go_wp2_with fail
      go_ret
      exact ⟨by rw [HR.out]; rfl, rfl⟩
end Go.Proofs.YthmiaamjbokljaaGreatDoor
