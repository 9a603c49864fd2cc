/- The document's pair. -/
import Derived.Test.YtibpbnffennmeaaMdRefOne
namespace Go.Proofs.Ytibpbnffennmeaa
open Go.RowKit
theorem md.two_bad (l : List UInt8) (lo hi : Nat) : (md.two lo hi ⟨l, true⟩).2 = ⟨l, true⟩ := (md.Good.two lo hi).stuck l
theorem md.two_end (b : List UInt8) (lo hi a : Nat) (h : b.length ≤ a) : (md.two lo hi ⟨b.drop a, false⟩).2 = ⟨b.drop a, true⟩ := by
  rw [List.drop_eq_nil_of_le h]
  rfl
theorem md.two_at (b : List UInt8) (lo hi a : Nat) (h : a < b.length) (hf : ¬ (md.fits lo hi b[a].toNat || md.fits lo hi (b[a].toNat + 256)) = true) : (md.two lo hi ⟨b.drop a, false⟩).2 = ⟨b.drop a, true⟩ := by
  rw [List.drop_eq_getElem_cons h]
  unfold md.two md.bnd md.next md.ret
  simp only [hf]
  rfl
theorem md.two_at1 (b : List UInt8) (lo hi a : Nat) (h : a < b.length) (hf : (md.fits lo hi b[a].toNat || md.fits lo hi (b[a].toNat + 256)) = true) (h2 : b.length ≤ a + 1) : (md.two lo hi ⟨b.drop a, false⟩).2 = ⟨b.drop (a + 1), true⟩ := by
  rw [List.drop_eq_getElem_cons h, List.drop_eq_nil_of_le h2]
  unfold md.two md.bnd md.next md.ret
  simp only [hf, if_true]
theorem md.two_at2 (b : List UInt8) (lo hi a : Nat) (h : a < b.length) (hf : (md.fits lo hi b[a].toNat || md.fits lo hi (b[a].toNat + 256)) = true) (h2 : a + 1 < b.length) :
    (¬ md.fits lo hi (b[a].toNat + b[a + 1].toNat * 256) = true → (md.two lo hi ⟨b.drop a, false⟩).2 = ⟨b.drop (a + 1), true⟩) ∧ (md.fits lo hi (b[a].toNat + b[a + 1].toNat * 256) = true → md.two lo hi ⟨b.drop a, false⟩ = (b[a].toNat + b[a + 1].toNat * 256, ⟨b.drop (a + 2), false⟩)) := by
  have e1 := List.drop_eq_getElem_cons h
  have e2 := List.drop_eq_getElem_cons h2
  rw [e1, e2]
  unfold md.two md.bnd md.next md.ret
  refine ⟨fun hx => ?_, fun hx => ?_⟩
  · simp only [hf, if_true, hx]
    rfl
  · simp only [hf, if_true, hx]
def md.sm (lo hi c : Nat) : Nat → Bool
  | 0 => false
  | k + 1 => md.sm lo hi c k || md.fits lo hi (c + 256 * k)
theorem md.sm_mono {lo hi c : Nat} : ∀ (n k : Nat), k < n → md.fits lo hi (c + 256 * k) = true → md.sm lo hi c n = true
  | 0, k, h, _ => by omega
  | n + 1, k, h, hf => by
    rw [md.sm]
    by_cases e : k = n
    · subst e; rw [hf, Bool.or_true]
    · rw [md.sm_mono n k (by omega) hf, Bool.true_or]
theorem md.sm_inv {lo hi c : Nat} : ∀ (n : Nat), md.sm lo hi c n = true → ∃ k, md.fits lo hi (c + 256 * k) = true
  | 0, h => by cases h
  | n + 1, h => by
    rw [md.sm, Bool.or_eq_true] at h
    rcases h with h | h
    · exact md.sm_inv n h
    · exact ⟨n, h⟩
theorem md.sm_all {lo hi c : Nat} (hlo : lo ≤ 256) : md.sm lo hi c 256 = (md.fits lo hi c || md.fits lo hi (c + 256)) := by
  rw [Bool.eq_iff_iff]
  constructor
  · intro h
    obtain ⟨k, hk⟩ := md.sm_inv _ h
    unfold md.fits at hk ⊢
    simp only [Bool.or_eq_true, decide_eq_true_eq] at hk ⊢
    omega
  · intro h
    rw [Bool.or_eq_true] at h
    rcases h with h | h
    · exact md.sm_mono 256 0 (by decide) h
    · exact md.sm_mono 256 1 (by decide) h
/-- what the document's reader of a number answers: the number counts only where the bytes haven't left the form -/
def NumAns (o : Option Addr) (cap : Nat) (b : List UInt8) (w w' : World) (e : Ending) (r : Nat × md.St) : Prop :=
  ∃ a v : Nat, e = .returned (.tuple #[.int .i64 v, stV o b.length cap a (!r.2.bad)]) ∧ (r.2.bad = false → v = r.1) ∧ (r.2.bad = true → v = 0) ∧ a ≤ b.length ∧ r.2.rest = b.drop a ∧ Below w.heap.size w w'

set_option maxRecDepth 100000 in
set_option maxHeartbeats 3200000 in
theorem rpair_any (D : Nat → Prop) (o : Option Addr) (cap : Nat) (b : List UInt8) (lo hi a : Nat) (bad : Bool) (w : World) (hin : BsIn w D (.slice o b.length cap) b) (ha : a ≤ b.length) (hlo : lo ≤ 256) :
    Calls Try.prog 12 #[stV o b.length cap a (!bad), .int .i64 lo, .int .i64 hi] w fun e w' => NumAns o cap b w w' e (md.two lo hi ⟨b.drop a, bad⟩) := by
  unfold NumAns
  obtain ⟨hc1, hc2⟩ := (RowIn.lens hin).2
  have hx := two_new w (stO o b.length cap a (!bad)) stZ
  have HX := Lib.hid hx
  have HIN := Lib.hid hin
  clear hx hin
  go_enter Try.func12, Try.ntmps12
  go_upto_region 1 with fail
  generalize (w.alloc (stO o b.length cap a (!bad))).alloc stZ = w2 at *
  obtain ⟨p, hp⟩ : ∃ p, w.heap.size = p := ⟨_, rfl⟩
  have HX2 : Hid (w2.heap[p]? = some (stO o b.length cap a (!bad)) ∧ w2.heap[p + 1]? = some stZ ∧ Below w.heap.size w w2) := Lib.hid (by rw [← hp]; exact HX.out)
  clear HX
  have HP := Lib.hid hp
  rw [hp]
  clear hp
  have k0 : w2.cell? ⟨p, 0, none⟩ = some (.slice o b.length cap) := (cell_of_heap HX2.out.1).trans rfl
  have k1 : w2.cell? ⟨p, 1, none⟩ = some (.int .i64 a) := (cell_of_heap HX2.out.1).trans rfl
  have k2 : w2.cell? ⟨p, 2, none⟩ = some (.bool (!bad)) := (cell_of_heap HX2.out.1).trans rfl
  have f1 := thaw (k := 1) HX2.out.1
  have f2 := thaw (k := 2) HX2.out.1
  have hlp := heap_lt HX2.out.1
  cases bad with
  | true =>
    have HZ := Lib.hid (md.two_bad (b.drop a) lo hi)
    have s1 : (w2.setCell ⟨p, 2, none⟩ (.bool false)).heap[p]? = some (.cells #[.slice o b.length cap, .int .i64 (a : Nat), .bool false] 46) := heap_setCell_same w2 p 2 _ _ (.bool false) HX2.out.1
    have s2 := heap_set_other w2 ⟨p, 2, none⟩ (.bool false) (show p + 1 ≠ p by omega) HX2.out.2.1
    have s3 : Below w.heap.size w (w2.setCell ⟨p, 2, none⟩ (.bool false)) := HX2.out.2.2.setCell (by rw [HP.out]; exact Nat.le_refl _) _
    have HF := Lib.hid (fill_one s2 s3 (by rw [HP.out]; omega) (.slice o b.length cap) (.int .i64 (a : Nat)) (.bool false))
    have HS := Lib.hid (And.intro s1 s2)
    clear s1 s2 s3
    go_upto_region 3 with fail
    clear k0 k1 k2 f1 f2 hlp HX2
    generalize w2.setCell ⟨p, 2, none⟩ (.bool false) = w9 at *
    have k0 : w9.cell? ⟨p, 0, none⟩ = some (.slice o b.length cap) := (cell_of_heap HS.out.1).trans rfl
    have k1 : w9.cell? ⟨p, 1, none⟩ = some (.int .i64 (a : Nat)) := (cell_of_heap HS.out.1).trans rfl
    have k2 : w9.cell? ⟨p, 2, none⟩ = some (.bool false) := (cell_of_heap HS.out.1).trans rfl
    have d0 : w9.cell? ⟨p + 1, 0, none⟩ = some (.slice none 0 0) := (cell_of_heap HS.out.2).trans rfl
    have d1 : w9.cell? ⟨p + 1, 1, none⟩ = some (.int .i64 0) := (cell_of_heap HS.out.2).trans rfl
    have d2 : w9.cell? ⟨p + 1, 2, none⟩ = some (.bool false) := (cell_of_heap HS.out.2).trans rfl
    have e0 := thaw (k := 0) HS.out.2
    have e1 := thaw (k := 1) HS.out.2
    have e2 := thaw (k := 2) HS.out.2
    have hl3 := heap_lt HS.out.2
    have hl4 := heap_lt HS.out.1
    go_region
    all_goals
      go_wp2_with fail
      refine bodyPost_ret (results_tmp_row rfl _ _ (p + 1) 46 _ (0, 0) _ rfl HF.out.1 Try.underlying46 rfl (by kernel_rfl)) rfl ?_
      rw [HZ.out]
      exact ⟨_, 0, rfl, (fun h => by cases h), fun _ => rfl, ha, rfl, HF.out.2⟩
  | false =>
    by_cases hn : a < b.length
    case neg =>
      have HZ := Lib.hid (md.two_end b lo hi a (by omega))
      have hni : ¬ (a : Int) < (b.length : Int) := by omega
      have s1 : (w2.setCell ⟨p, 2, none⟩ (.bool false)).heap[p]? = some (.cells #[.slice o b.length cap, .int .i64 (a : Nat), .bool false] 46) := heap_setCell_same w2 p 2 _ _ (.bool false) HX2.out.1
      have s2 := heap_set_other w2 ⟨p, 2, none⟩ (.bool false) (show p + 1 ≠ p by omega) HX2.out.2.1
      have s3 : Below w.heap.size w (w2.setCell ⟨p, 2, none⟩ (.bool false)) := HX2.out.2.2.setCell (by rw [HP.out]; exact Nat.le_refl _) _
      have HF := Lib.hid (fill_one s2 s3 (by rw [HP.out]; omega) (.slice o b.length cap) (.int .i64 (a : Nat)) (.bool false))
      have HS := Lib.hid (And.intro s1 s2)
      clear s1 s2 s3
      go_upto_region 3 with fail
      clear k0 k1 k2 f1 f2 hlp HX2
      generalize w2.setCell ⟨p, 2, none⟩ (.bool false) = w9 at *
      have k0 : w9.cell? ⟨p, 0, none⟩ = some (.slice o b.length cap) := (cell_of_heap HS.out.1).trans rfl
      have k1 : w9.cell? ⟨p, 1, none⟩ = some (.int .i64 (a : Nat)) := (cell_of_heap HS.out.1).trans rfl
      have k2 : w9.cell? ⟨p, 2, none⟩ = some (.bool false) := (cell_of_heap HS.out.1).trans rfl
      have d0 : w9.cell? ⟨p + 1, 0, none⟩ = some (.slice none 0 0) := (cell_of_heap HS.out.2).trans rfl
      have d1 : w9.cell? ⟨p + 1, 1, none⟩ = some (.int .i64 0) := (cell_of_heap HS.out.2).trans rfl
      have d2 : w9.cell? ⟨p + 1, 2, none⟩ = some (.bool false) := (cell_of_heap HS.out.2).trans rfl
      have e0 := thaw (k := 0) HS.out.2
      have e1 := thaw (k := 1) HS.out.2
      have e2 := thaw (k := 2) HS.out.2
      have hl3 := heap_lt HS.out.2
      have hl4 := heap_lt HS.out.1
      go_region
      all_goals
        go_wp2_with fail
        refine bodyPost_ret (results_tmp_row rfl _ _ (p + 1) 46 _ (0, 0) _ rfl HF.out.1 Try.underlying46 rfl (by kernel_rfl)) rfl ?_
        rw [HZ.out]
        exact ⟨_, 0, rfl, (fun h => by cases h), fun _ => rfl, ha, rfl, HF.out.2⟩
    case pos =>
      have hni : (a : Int) < (b.length : Int) := by omega
      have HA1 := Lib.hid (md.two_at b lo hi a hn)
      have HA2 := Lib.hid (md.two_at1 b lo hi a hn)
      have HA3 := Lib.hid (md.two_at2 b lo hi a hn)
      obtain ⟨g, off, rfl, hg, q0⟩ := BsIn.cell HIN.out a hn
      rw [HP.out] at hg
      have hbk : ∀ k, k < p → w2.heap[k]? = w.heap[k]? := fun k hk => HX2.out.2.2.block k (by rw [HP.out]; exact hk)
      replace q0 : w2.cell? ⟨g, off + a, none⟩ = _ := (cell_of_eq (hbk g hg) _).trans q0
      have HBK := Lib.hid hbk
      have hg2 : g < w2.heap.size := by omega
      have hc := b[a].toNat_lt
      generalize b[a].toNat = c at *
      clear hbk
      have HSA := Lib.hid (md.sm_all (c := c) (hi := hi) hlo)
      go_upto_region 7 with fail
      have hd0 : decide (b.length ≤ a) = false := decide_eq_false (by omega)
      simp only [hd0]
      clear hd0
      go_loopg [9, 10] 256 (fun gg s9 s10 wr => ∃ k : Nat, s9 = .bool (md.sm lo hi c k) ∧ s10 = .int .i64 k ∧ k ≤ 256 ∧ 256 - k ≤ gg ∧ wr = w2)
      case atStart => exact ⟨0, rfl, rfl, by omega, by omega, rfl⟩
      case round =>
        obtain ⟨k, rfl, rfl, hk, hgg, rfl⟩ := hrel
        by_cases hlt : k < 256
        case pos =>
          have hki : (k : Int) < 256 := by omega
          have HSK : Hid (md.sm lo hi c (k + 1) = (md.sm lo hi c k || md.fits lo hi (c + 256 * k))) := Lib.hid rfl
          have HFT : Hid (md.fits lo hi (c + 256 * k) = decide (lo ≤ c + 256 * k ∧ c + 256 * k ≤ hi)) := Lib.hid rfl
          have hc8 : c < 256 := hc
          cases hs : md.sm lo hi c k with
          | true =>
            rw [hs] at HSK
            have HQ : Hid (md.sm lo hi c (k + 1) = true) := Lib.hid (by rw [HSK.out]; rfl)
            clear HSK HFT hs
            go_wp2_with fail
            go_roundg (256 - (k + 1))
            case measure => omega
            case rel => exact ⟨k + 1, by rw [HQ.out], by go_num, by omega, Nat.le_refl _, rfl⟩
          | false =>
            rw [hs] at HSK
            by_cases h1 : lo ≤ c + 256 * k
            case neg =>
              have HQ : Hid (md.sm lo hi c (k + 1) = false) := Lib.hid (by rw [HSK.out, HFT.out]; simp; omega)
              clear HSK HFT hs
              have h1i : ¬ (lo : Int) ≤ (c : Int) + 256 * (k : Int) := by omega
              go_wp2_with fail
              go_roundg (256 - (k + 1))
              case measure => omega
              case rel => exact ⟨k + 1, by rw [HQ.out], by go_num, by omega, Nat.le_refl _, rfl⟩
            case pos =>
              have h1i : (lo : Int) ≤ (c : Int) + 256 * (k : Int) := by omega
              by_cases h2 : c + 256 * k ≤ hi
              · have HQ : Hid (md.sm lo hi c (k + 1) = true) := Lib.hid (by rw [HSK.out, HFT.out]; simp; omega)
                clear HSK HFT hs
                have h2i : (c : Int) + 256 * (k : Int) ≤ (hi : Int) := by omega
                go_wp2_with fail
                go_roundg (256 - (k + 1))
                case measure => omega
                case rel => exact ⟨k + 1, by rw [HQ.out], by go_num, by omega, Nat.le_refl _, rfl⟩
              · have HQ : Hid (md.sm lo hi c (k + 1) = false) := Lib.hid (by rw [HSK.out, HFT.out]; simp; omega)
                clear HSK HFT hs
                have h2i : ¬ (c : Int) + 256 * (k : Int) ≤ (hi : Int) := by omega
                go_wp2_with fail
                go_roundg (256 - (k + 1))
                case measure => omega
                case rel => exact ⟨k + 1, by rw [HQ.out], by go_num, by omega, Nat.le_refl _, rfl⟩
        case neg =>
          obtain rfl : k = 256 := by omega
          rw [HSA.out]
          cases hft : (md.fits lo hi c || md.fits lo hi (c + 256)) with
          | false =>
            have HZ := Lib.hid (HA1.out (by rw [hft]; decide))
            clear HA1 HA2 HA3 hft HSA
            have s1 : (wr.setCell ⟨p, 2, none⟩ (.bool false)).heap[p]? = some (.cells #[.slice (some ⟨g, off, none⟩) b.length cap, .int .i64 (a : Nat), .bool false] 46) := heap_setCell_same wr p 2 _ _ (.bool false) HX2.out.1
            have s2 := heap_set_other wr ⟨p, 2, none⟩ (.bool false) (show p + 1 ≠ p by omega) HX2.out.2.1
            have s3 : Below w.heap.size w (wr.setCell ⟨p, 2, none⟩ (.bool false)) := HX2.out.2.2.setCell (by rw [HP.out]; exact Nat.le_refl _) _
            have HF := Lib.hid (fill_one s2 s3 (by rw [HP.out]; omega) (.slice (some ⟨g, off, none⟩) b.length cap) (.int .i64 (a : Nat)) (.bool false))
            have HS := Lib.hid (And.intro s1 s2)
            clear s1 s2 s3
            go_upto_region 12 with fail
            clear k0 k1 k2 f1 f2 hlp HX2
            generalize wr.setCell ⟨p, 2, none⟩ (.bool false) = w9 at *
            have k0 : w9.cell? ⟨p, 0, none⟩ = some (.slice (some ⟨g, off, none⟩) b.length cap) := (cell_of_heap HS.out.1).trans rfl
            have k1 : w9.cell? ⟨p, 1, none⟩ = some (.int .i64 (a : Nat)) := (cell_of_heap HS.out.1).trans rfl
            have k2 : w9.cell? ⟨p, 2, none⟩ = some (.bool false) := (cell_of_heap HS.out.1).trans rfl
            have d0 : w9.cell? ⟨p + 1, 0, none⟩ = some (.slice none 0 0) := (cell_of_heap HS.out.2).trans rfl
            have d1 : w9.cell? ⟨p + 1, 1, none⟩ = some (.int .i64 0) := (cell_of_heap HS.out.2).trans rfl
            have d2 : w9.cell? ⟨p + 1, 2, none⟩ = some (.bool false) := (cell_of_heap HS.out.2).trans rfl
            have e0 := thaw (k := 0) HS.out.2
            have e1 := thaw (k := 1) HS.out.2
            have e2 := thaw (k := 2) HS.out.2
            have hl3 := heap_lt HS.out.2
            have hl4 := heap_lt HS.out.1
            go_region
            all_goals
              go_wp2_with fail
              refine bodyPost_ret (results_tmp_row rfl _ _ (p + 1) 46 _ (0, 0) _ rfl HF.out.1 Try.underlying46 rfl (by kernel_rfl)) rfl ?_
              rw [HZ.out]
              exact ⟨_, 0, rfl, (fun h => by cases h), fun _ => rfl, ha, rfl, HF.out.2⟩
          | true =>
            have HB2 := Lib.hid (HA2.out hft)
            have HB3 := Lib.hid (HA3.out hft)
            clear HA1 HA2 HA3 hft HSA
            have s1 : (wr.setCell ⟨p, 1, none⟩ (.int .i64 ((a : Int) + 1))).heap[p]? = some (.cells #[.slice (some ⟨g, off, none⟩) b.length cap, .int .i64 ((a : Int) + 1), .bool true] 46) := heap_setCell_same wr p 1 _ _ (.int .i64 ((a : Int) + 1)) HX2.out.1
            have s2 := heap_set_other wr ⟨p, 1, none⟩ (.int .i64 ((a : Int) + 1)) (show p + 1 ≠ p by omega) HX2.out.2.1
            have s3 : Below w.heap.size w (wr.setCell ⟨p, 1, none⟩ (.int .i64 ((a : Int) + 1))) := HX2.out.2.2.setCell (by rw [HP.out]; exact Nat.le_refl _) _
            have HX3 := Lib.hid (And.intro s1 (And.intro s2 s3))
            clear s1 s2 s3
            go_upto_region 14 with fail
            clear k0 k1 k2 f1 f2 hlp HX2 q0 hg2 HBK
            generalize wr.setCell ⟨p, 1, none⟩ (.int .i64 ((a : Int) + 1)) = w3 at *
            have k0 : w3.cell? ⟨p, 0, none⟩ = some (.slice (some ⟨g, off, none⟩) b.length cap) := (cell_of_heap HX3.out.1).trans rfl
            have k1 : w3.cell? ⟨p, 1, none⟩ = some (.int .i64 ((a : Int) + 1)) := (cell_of_heap HX3.out.1).trans rfl
            have k2 : w3.cell? ⟨p, 2, none⟩ = some (.bool true) := (cell_of_heap HX3.out.1).trans rfl
            have f1 := thaw (k := 1) HX3.out.1
            have f2 := thaw (k := 2) HX3.out.1
            have hlp := heap_lt HX3.out.1
            by_cases hn2 : a + 1 < b.length
            case neg =>
              have HZ := Lib.hid (HB2.out (by omega))
              have hn2i : ¬ (a : Int) + 1 < (b.length : Int) := by omega
              clear HB2 HB3
              have s1 : (w3.setCell ⟨p, 2, none⟩ (.bool false)).heap[p]? = some (.cells #[.slice (some ⟨g, off, none⟩) b.length cap, .int .i64 ((a : Int) + 1), .bool false] 46) := heap_setCell_same w3 p 2 _ _ (.bool false) HX3.out.1
              have s2 := heap_set_other w3 ⟨p, 2, none⟩ (.bool false) (show p + 1 ≠ p by omega) HX3.out.2.1
              have s3 : Below w.heap.size w (w3.setCell ⟨p, 2, none⟩ (.bool false)) := HX3.out.2.2.setCell (by rw [HP.out]; exact Nat.le_refl _) _
              have HF := Lib.hid (fill_one s2 s3 (by rw [HP.out]; omega) (.slice (some ⟨g, off, none⟩) b.length cap) (.int .i64 ((a : Int) + 1)) (.bool false))
              have HS := Lib.hid (And.intro s1 s2)
              clear s1 s2 s3
              go_upto_region 16 with fail
              clear k0 k1 k2 f1 f2 hlp HX3
              generalize w3.setCell ⟨p, 2, none⟩ (.bool false) = w9 at *
              have k0 : w9.cell? ⟨p, 0, none⟩ = some (.slice (some ⟨g, off, none⟩) b.length cap) := (cell_of_heap HS.out.1).trans rfl
              have k1 : w9.cell? ⟨p, 1, none⟩ = some (.int .i64 ((a : Int) + 1)) := (cell_of_heap HS.out.1).trans rfl
              have k2 : w9.cell? ⟨p, 2, none⟩ = some (.bool false) := (cell_of_heap HS.out.1).trans rfl
              have d0 : w9.cell? ⟨p + 1, 0, none⟩ = some (.slice none 0 0) := (cell_of_heap HS.out.2).trans rfl
              have d1 : w9.cell? ⟨p + 1, 1, none⟩ = some (.int .i64 0) := (cell_of_heap HS.out.2).trans rfl
              have d2 : w9.cell? ⟨p + 1, 2, none⟩ = some (.bool false) := (cell_of_heap HS.out.2).trans rfl
              have e0 := thaw (k := 0) HS.out.2
              have e1 := thaw (k := 1) HS.out.2
              have e2 := thaw (k := 2) HS.out.2
              have hl3 := heap_lt HS.out.2
              have hl4 := heap_lt HS.out.1
              go_region
              all_goals
                go_wp2_with fail
                refine bodyPost_ret (results_tmp_row rfl _ _ (p + 1) 46 _ (0, 0) _ rfl HF.out.1 Try.underlying46 rfl (by kernel_rfl)) rfl ?_
                rw [HZ.out]
                exact ⟨_, 0, rfl, (fun h => by cases h), fun _ => rfl, hn, rfl, HF.out.2⟩
            case pos =>
              have hn2i : (a : Int) + 1 < (b.length : Int) := by omega
              have hb3 := HB3.out hn2
              obtain ⟨g', off', eg, hg', q0⟩ := BsIn.cell HIN.out (a + 1) hn2
              injection eg with eg
              injection eg with eg1 eg2
              subst eg1 eg2
              have hbk : ∀ k, k < p → w3.heap[k]? = w.heap[k]? := fun k hk => HX3.out.2.2.block k (by rw [HP.out]; exact hk)
              replace q0 : w3.cell? ⟨g, off + (a + 1), none⟩ = _ := (cell_of_eq (hbk g hg) _).trans q0
              have hg2 : g < w3.heap.size := by omega
              have hd := b[a + 1].toNat_lt
              generalize b[a + 1].toNat = d at *
              have HFT : Hid (md.fits lo hi (c + d * 256) = decide (lo ≤ c + d * 256 ∧ c + d * 256 ≤ hi)) := Lib.hid rfl
              have hc8 : c < 256 := hc
              have hd8 : d < 256 := hd
              have HBB := Lib.hid hb3
              clear HB2 HB3 hb3 hbk
              by_cases h1 : c + d * 256 < lo
              case pos =>
                have HZ := Lib.hid (HBB.out.1 (by rw [HFT.out]; simp; omega))
                have h1i : (c : Int) + 256 * (d : Int) < (lo : Int) := by omega
                clear HBB HFT
                have s1 : (w3.setCell ⟨p, 2, none⟩ (.bool false)).heap[p]? = some (.cells #[.slice (some ⟨g, off, none⟩) b.length cap, .int .i64 ((a : Int) + 1), .bool false] 46) := heap_setCell_same w3 p 2 _ _ (.bool false) HX3.out.1
                have s2 := heap_set_other w3 ⟨p, 2, none⟩ (.bool false) (show p + 1 ≠ p by omega) HX3.out.2.1
                have s3 : Below w.heap.size w (w3.setCell ⟨p, 2, none⟩ (.bool false)) := HX3.out.2.2.setCell (by rw [HP.out]; exact Nat.le_refl _) _
                have HF := Lib.hid (fill_one s2 s3 (by rw [HP.out]; omega) (.slice (some ⟨g, off, none⟩) b.length cap) (.int .i64 ((a : Int) + 1)) (.bool false))
                have HS := Lib.hid (And.intro s1 s2)
                clear s1 s2 s3
                go_upto_region 16 with fail
                clear k0 k1 k2 f1 f2 hlp HX3
                generalize w3.setCell ⟨p, 2, none⟩ (.bool false) = w9 at *
                have k0 : w9.cell? ⟨p, 0, none⟩ = some (.slice (some ⟨g, off, none⟩) b.length cap) := (cell_of_heap HS.out.1).trans rfl
                have k1 : w9.cell? ⟨p, 1, none⟩ = some (.int .i64 ((a : Int) + 1)) := (cell_of_heap HS.out.1).trans rfl
                have k2 : w9.cell? ⟨p, 2, none⟩ = some (.bool false) := (cell_of_heap HS.out.1).trans rfl
                have d0 : w9.cell? ⟨p + 1, 0, none⟩ = some (.slice none 0 0) := (cell_of_heap HS.out.2).trans rfl
                have d1 : w9.cell? ⟨p + 1, 1, none⟩ = some (.int .i64 0) := (cell_of_heap HS.out.2).trans rfl
                have d2 : w9.cell? ⟨p + 1, 2, none⟩ = some (.bool false) := (cell_of_heap HS.out.2).trans rfl
                have e0 := thaw (k := 0) HS.out.2
                have e1 := thaw (k := 1) HS.out.2
                have e2 := thaw (k := 2) HS.out.2
                have hl3 := heap_lt HS.out.2
                have hl4 := heap_lt HS.out.1
                go_region
                all_goals
                  go_wp2_with fail
                  refine bodyPost_ret (results_tmp_row rfl _ _ (p + 1) 46 _ (0, 0) _ rfl HF.out.1 Try.underlying46 rfl (by kernel_rfl)) rfl ?_
                  rw [HZ.out]
                  exact ⟨_, 0, rfl, (fun h => by cases h), fun _ => rfl, hn, rfl, HF.out.2⟩
              have h1i : ¬ (c : Int) + 256 * (d : Int) < (lo : Int) := by omega
              by_cases h2 : hi < c + d * 256
              case pos =>
                have HZ := Lib.hid (HBB.out.1 (by rw [HFT.out]; simp; omega))
                have h2i : (hi : Int) < (c : Int) + 256 * (d : Int) := by omega
                clear HBB HFT
                have s1 : (w3.setCell ⟨p, 2, none⟩ (.bool false)).heap[p]? = some (.cells #[.slice (some ⟨g, off, none⟩) b.length cap, .int .i64 ((a : Int) + 1), .bool false] 46) := heap_setCell_same w3 p 2 _ _ (.bool false) HX3.out.1
                have s2 := heap_set_other w3 ⟨p, 2, none⟩ (.bool false) (show p + 1 ≠ p by omega) HX3.out.2.1
                have s3 : Below w.heap.size w (w3.setCell ⟨p, 2, none⟩ (.bool false)) := HX3.out.2.2.setCell (by rw [HP.out]; exact Nat.le_refl _) _
                have HF := Lib.hid (fill_one s2 s3 (by rw [HP.out]; omega) (.slice (some ⟨g, off, none⟩) b.length cap) (.int .i64 ((a : Int) + 1)) (.bool false))
                have HS := Lib.hid (And.intro s1 s2)
                clear s1 s2 s3
                go_upto_region 16 with fail
                clear k0 k1 k2 f1 f2 hlp HX3
                generalize w3.setCell ⟨p, 2, none⟩ (.bool false) = w9 at *
                have k0 : w9.cell? ⟨p, 0, none⟩ = some (.slice (some ⟨g, off, none⟩) b.length cap) := (cell_of_heap HS.out.1).trans rfl
                have k1 : w9.cell? ⟨p, 1, none⟩ = some (.int .i64 ((a : Int) + 1)) := (cell_of_heap HS.out.1).trans rfl
                have k2 : w9.cell? ⟨p, 2, none⟩ = some (.bool false) := (cell_of_heap HS.out.1).trans rfl
                have d0 : w9.cell? ⟨p + 1, 0, none⟩ = some (.slice none 0 0) := (cell_of_heap HS.out.2).trans rfl
                have d1 : w9.cell? ⟨p + 1, 1, none⟩ = some (.int .i64 0) := (cell_of_heap HS.out.2).trans rfl
                have d2 : w9.cell? ⟨p + 1, 2, none⟩ = some (.bool false) := (cell_of_heap HS.out.2).trans rfl
                have e0 := thaw (k := 0) HS.out.2
                have e1 := thaw (k := 1) HS.out.2
                have e2 := thaw (k := 2) HS.out.2
                have hl3 := heap_lt HS.out.2
                have hl4 := heap_lt HS.out.1
                go_region
                all_goals
                  go_wp2_with fail
                  refine bodyPost_ret (results_tmp_row rfl _ _ (p + 1) 46 _ (0, 0) _ rfl HF.out.1 Try.underlying46 rfl (by kernel_rfl)) rfl ?_
                  rw [HZ.out]
                  exact ⟨_, 0, rfl, (fun h => by cases h), fun _ => rfl, hn, rfl, HF.out.2⟩
              have h2i : ¬ (hi : Int) < (c : Int) + 256 * (d : Int) := by omega
              have HZ := Lib.hid (HBB.out.2 (by rw [HFT.out]; simp; omega))
              clear HBB HFT
              have q1 : (w3.setCell ⟨p, 1, none⟩ (.int .i64 ((a : Int) + 1 + 1))).cell? ⟨g, off + (a + 1), none⟩ = some (.int .u8 (d : Nat)) := (cell_of_eq (Below.heap_setCell w3 ⟨p, 1, none⟩ _ g (show g ≠ p by omega)) _).trans q0
              have s1 : (w3.setCell ⟨p, 1, none⟩ (.int .i64 ((a : Int) + 1 + 1))).heap[p]? = some (.cells #[.slice (some ⟨g, off, none⟩) b.length cap, .int .i64 ((a : Int) + 1 + 1), .bool true] 46) := heap_setCell_same w3 p 1 _ _ (.int .i64 ((a : Int) + 1 + 1)) HX3.out.1
              have s2 := heap_set_other w3 ⟨p, 1, none⟩ (.int .i64 ((a : Int) + 1 + 1)) (show p + 1 ≠ p by omega) HX3.out.2.1
              have s3 : Below w.heap.size w (w3.setCell ⟨p, 1, none⟩ (.int .i64 ((a : Int) + 1 + 1))) := HX3.out.2.2.setCell (by rw [HP.out]; exact Nat.le_refl _) _
              have HF := Lib.hid (fill_one s2 s3 (by rw [HP.out]; omega) (.slice (some ⟨g, off, none⟩) b.length cap) (.int .i64 ((a : Int) + 1 + 1)) (.bool true))
              have HS := Lib.hid (And.intro s1 (And.intro s2 q1))
              clear s1 s2 s3 q1
              go_upto_region 18 with fail
              clear k0 k1 k2 f1 f2 hlp HX3 q0 hg2
              generalize w3.setCell ⟨p, 1, none⟩ (.int .i64 ((a : Int) + 1 + 1)) = w4 at *
              have k0 : w4.cell? ⟨p, 0, none⟩ = some (.slice (some ⟨g, off, none⟩) b.length cap) := (cell_of_heap HS.out.1).trans rfl
              have k1 : w4.cell? ⟨p, 1, none⟩ = some (.int .i64 ((a : Int) + 1 + 1)) := (cell_of_heap HS.out.1).trans rfl
              have k2 : w4.cell? ⟨p, 2, none⟩ = some (.bool true) := (cell_of_heap HS.out.1).trans rfl
              have d0 : w4.cell? ⟨p + 1, 0, none⟩ = some (.slice none 0 0) := (cell_of_heap HS.out.2.1).trans rfl
              have d1 : w4.cell? ⟨p + 1, 1, none⟩ = some (.int .i64 0) := (cell_of_heap HS.out.2.1).trans rfl
              have d2 : w4.cell? ⟨p + 1, 2, none⟩ = some (.bool false) := (cell_of_heap HS.out.2.1).trans rfl
              have e0 := thaw (k := 0) HS.out.2.1
              have e1 := thaw (k := 1) HS.out.2.1
              have e2 := thaw (k := 2) HS.out.2.1
              have q1 := HS.out.2.2
              have hl3 := heap_lt HS.out.2.1
              have hl4 := heap_lt HS.out.1
              have hg3 : g < w4.heap.size := by omega
              have HV : Hid ((c : Int) + 256 * (d : Int) = ((c + d * 256 : Nat) : Int)) := Lib.hid (by omega)
              go_region
              all_goals
                go_wp2_with fail
                refine bodyPost_ret (results_tmp_row rfl _ _ (p + 1) 46 _ (0, 0) _ rfl HF.out.1 Try.underlying46 rfl (by kernel_rfl)) rfl ?_
                rw [HZ.out]
                refine ⟨a + 2, c + d * 256, ?_, fun _ => rfl, (fun h => by cases h), by omega, rfl, HF.out.2⟩
                rw [← HV.out]
                rfl
end Go.Proofs.Ytibpbnffennmeaa
