/- Is one of the sizes refused? Where do the Flex ones stand? What do they want, and at least? -/
import Derived.Test.YteilaoiimlpbkaaSolOne
import Derived.Test.YteilaoiimlpbkaaSolPre
namespace Go.Proofs.Yteilaoiimlpbkaa
open Go.RowKit
attribute [local go_sem ↓ 10000] run_mn run_mx

set_option maxHeartbeats 800000 in
theorem index_any (o : Option Addr) (n cap : Nat) (L : List sl.Sz) (w : World) (hs : SzIn w o n cap L) :
    Calls Try.prog 22 #[.slice o n cap, .func (.func 15) #[] #[]] w fun e w' => (∃ r : Int, e = .returned (.int .i64 r) ∧ decide (0 ≤ r) = L.any (fun s => !sl.good s)) ∧ Below w.heap.size w w' := by
  have hm : cap ≤ 9223372036854775807 := hs.max
  have hle := hs.le
  have HS := Lib.hid hs
  have HR := Lib.hid (fun k n W => refused_any k n W)
  clear hs
  go_enter Try.func22, Try.ntmps22
  go_wp2_with fail
  go_loopg [8] n (fun gg s8 wr => ∃ k : Nat, s8 = .int .i64 k ∧ k ≤ n ∧ n - k ≤ gg ∧ Hid ((L.take k).any (fun s => !sl.good s) = false) ∧ Hid (Below w.heap.size w wr))
  case atStart => exact ⟨0, rfl, Nat.zero_le _, by omega, Lib.hid rfl, Lib.hid (Below.refl _ _)⟩
  case round =>
    obtain ⟨k, rfl, hk, hgg, HA, HB⟩ := hrel
    by_cases hlt : k < n
    · obtain ⟨b, off, rfl, hb, k0, k1⟩ := (HS.out.below HB.out).cell hlt
      have hkl : k < L.length := by rw [HS.out.len]; exact hlt
      have hst := sl.any_snoc L k hkl
      rw [HA.out] at hst
      have HT := Lib.hid (fun h => sl.any_take L (k + 1) h)
      generalize L.getD k sl.z0 = s at *
      obtain ⟨sk, sn⟩ := s
      have HST := Lib.hid hst
      clear hst hkl
      have hki : (k : Int) < (n : Int) := by omega
      dsimp only at k0 k1
      cases hg : sl.good ⟨sk, sn⟩
      · have HG := Lib.hid hg
        clear hg
        go_wp2_with fail
        refine (HR.out _ _ _).mono ?_
        rintro e w2 ⟨rfl, hb2⟩
        rw [HG.out]
        have HB2 := Lib.hid (HB.out.trans (hb2.mono HB.out.size))
        clear hb2
        go_wp2_with fail
        go_ret
        exact ⟨⟨_, rfl, by rw [HT.out (by rw [HST.out, HG.out]; rfl)]; exact decide_eq_true (by omega)⟩, HB2.out⟩
      · have HG := Lib.hid hg
        clear hg
        go_wp2_with fail
        refine (HR.out _ _ _).mono ?_
        rintro e w2 ⟨rfl, hb2⟩
        rw [HG.out]
        have HB2 := Lib.hid (HB.out.trans (hb2.mono HB.out.size))
        clear hb2
        go_wp2_with fail
        go_roundg (n - (k + 1))
        case measure => omega
        case rel => exact ⟨k + 1, by go_num, by omega, Nat.le_refl _, Lib.hid (by rw [HST.out, HG.out]; rfl), HB2⟩
    · obtain rfl : k = n := by omega
      have HF : Hid (L.any (fun s => !sl.good s) = false) := Lib.hid (by have := HA.out; rwa [List.take_of_length_le (by rw [HS.out.len]; exact Nat.le_refl _)] at this)
      go_wp2_with fail
      go_ret
      exact ⟨⟨_, rfl, by rw [HF.out]; rfl⟩, HB.out⟩
theorem contains_any (o : Option Addr) (n cap : Nat) (L : List sl.Sz) (w : World) (hs : SzIn w o n cap L) :
    Calls Try.prog 16 #[.slice o n cap, .func (.func 15) #[] #[]] w fun e w' => e = .returned (.bool (L.any (fun s => !sl.good s))) ∧ Below w.heap.size w w' := by
  have HI := Lib.hid (index_any o n cap L w hs)
  clear hs
  generalize L.any (fun s => !sl.good s) = B at *
  go_enter Try.func16, Try.ntmps16
  go_wp2_with fail
  refine HI.out.mono ?_
  rintro e w2 ⟨⟨r, rfl, hr⟩, hb⟩
  have HR := Lib.hid hr
  have HB := Lib.hid hb
  clear hr hb
  go_wp2_with fail
  go_ret
  exact ⟨ret_bool HR.out, HB.out⟩
/-- numbers of places, as values -/
def natsI (l : List Nat) : List Int := l.map (fun p : Nat => (p : Int))
theorem natsI_snoc (l : List Nat) (k : Nat) : natsI (l ++ [k]) = natsI l ++ [(k : Int)] := by simp [natsI]
abbrev natsV (l : List Nat) : List Value := (natsI l).map (Value.int .i64)
set_option maxHeartbeats 1600000 in
theorem places_any (o : Option Addr) (n cap : Nat) (L : List sl.Sz) (w : World) (hs : SzIn w o n cap L) (hn : n ≤ 16) :
    Calls Try.prog 25 #[.slice o n cap, .func (.func 26) #[] #[]] w fun e w' => ∃ V, e = .returned V ∧ w'.ownsRow w.heap.size 3 1 V (sl.places L).length (natsV (sl.places L)) ∧ Below w.heap.size w w' := by
  have hm : cap ≤ 9223372036854775807 := hs.max
  have hle := hs.le
  have HS := Lib.hid hs
  have HR := Lib.hid (fun k n W => isFlex_any k n W)
  clear hs
  obtain ⟨i0, hi, hz0, hz1, hz2⟩ := info_parts infoE
  have HI := Lib.hid hi; have HZ0 := Lib.hid hz0; have HZ1 := Lib.hid hz1; have HZ2 := Lib.hid hz2
  clear hi hz0 hz1 hz2
  go_enter Try.func25, Try.ntmps25
  go_wp2_with fail
  go_loopg [5, 10] n (fun gg s5 s10 wr => ∃ (k m : Nat), s10 = .int .i64 k ∧ k ≤ n ∧ n - k ≤ gg ∧ m ≤ k ∧ Hid ((sl.places (L.take k)).length = m ∧ wr.ownsRow w.heap.size 3 1 s5 m (natsV (sl.places (L.take k))) ∧ Below w.heap.size w wr))
  case atStart => exact ⟨0, 0, rfl, Nat.zero_le _, by omega, Nat.le_refl _, Lib.hid ⟨rfl, (World.ownsRow_nil w w.heap.size 3 1 : w.ownsRow w.heap.size 3 1 (.slice none 0 0) 0 []), Below.refl _ _⟩⟩
  case round =>
    obtain ⟨k, m, rfl, hk, hgg, hmk, HA⟩ := hrel
    obtain ⟨ao, ac, rfl⟩ := own_slice HA.out.2.1
    by_cases hlt : k < n
    · obtain ⟨b, off, rfl, hb, k0, k1⟩ := (HS.out.below HA.out.2.2).cell hlt
      have hkl : k < L.length := by rw [HS.out.len]; exact hlt
      have hst := sl.places_snoc L k hkl
      generalize L.getD k sl.z0 = s at *
      obtain ⟨sk, sn⟩ := s
      have HST := Lib.hid hst
      clear hst hkl
      have hki : (k : Int) < (n : Int) := by omega
      dsimp only at k0 k1
      by_cases h0 : sk = 0
      · subst h0
        go_wp2_with fail
        refine (HR.out _ _ _).mono ?_
        rintro e w2 ⟨rfl, hb2⟩
        have HB2 := Lib.hid (HA.out.2.2.trans ((((Below.refl _ wr).alloc (Nat.le_refl _) _).trans (hb2.mono (by simp))).mono HA.out.2.2.size))
        have HO2 := Lib.hid (row_below HA.out.2.1 (((Below.refl _ wr).alloc (Nat.le_refl _) _).trans (hb2.mono (by simp))))
        clear hb2
        go_wp2_with (at_builtin; refine wpList_append_ints rfl _ _ 24 rfl w.heap.size 3 i0 (Value.int .i64 0) Try.underlying24 HI.out HZ0.out HZ1.out HZ2.out rfl (.slice ao m ac) m (natsI (sl.places (L.take k))) rfl ?c1 (some ⟨w2.heap.size, 0, none⟩) 1 1 [(k : Int)] rfl ?c2 ?c3 ?c4 ?_)
        case c1 => exact HO2.out.alloc _
        case c2 => exact Ints.new w2 _ [(k : Int)] (by simp)
        case c3 => omega
        case c4 => have := HB2.out.size; simp; omega
        intro v' w3 hr hg
        obtain ⟨ao3, ac3, rfl⟩ := own_slice hr
        have HB3 := Lib.hid ((HB2.out.alloc HB2.out.size _).grown hg (by have := HB2.out.size; simp; omega) (fun q hq => (HO2.out.lt q hq).1))
        have HR3 := Lib.hid hr
        clear hr hg
        go_wp2_with fail
        go_roundg (n - (k + 1))
        case measure => omega
        case rel =>
          refine ⟨k + 1, m + 1, by go_num, by omega, Nat.le_refl _, by omega, Lib.hid ⟨?_, ?_, HB3.out⟩⟩
          · rw [HST.out]; simp [HA.out.1]
          · rw [HST.out]; have := HR3.out; simpa [natsV, natsI] using this
      · have h0d : decide (sk = 0) = false := decide_eq_false h0
        have H0 := Lib.hid h0
        clear h0
        go_wp2_with fail
        refine (HR.out _ _ _).mono ?_
        rintro e w2 ⟨rfl, hb2⟩
        have HB2 := Lib.hid (HA.out.2.2.trans ((((Below.refl _ wr).alloc (Nat.le_refl _) _).trans (hb2.mono (by simp))).mono HA.out.2.2.size))
        have HO2 := Lib.hid (row_below HA.out.2.1 (((Below.refl _ wr).alloc (Nat.le_refl _) _).trans (hb2.mono (by simp))))
        clear hb2
        rw [h0d]
        clear h0d
        go_wp2_with fail
        go_roundg (n - (k + 1))
        case measure => omega
        case rel =>
          refine ⟨k + 1, m, by go_num, by omega, Nat.le_refl _, by omega, Lib.hid ⟨?_, ?_, HB2.out⟩⟩
          · rw [HST.out, if_neg H0.out]; exact HA.out.1
          · rw [HST.out, if_neg H0.out]; exact HO2.out
    · obtain rfl : k = n := by omega
      have HF : Hid (sl.places (L.take k) = sl.places L) := Lib.hid (by rw [List.take_of_length_le (by rw [HS.out.len]; exact Nat.le_refl _)])
      go_wp2_with fail
      go_ret
      refine ⟨_, rfl, ?_, HA.out.2.2⟩
      rw [← HF.out, HA.out.1]
      exact HA.out.2.1
end Go.Proofs.Yteilaoiimlpbkaa
