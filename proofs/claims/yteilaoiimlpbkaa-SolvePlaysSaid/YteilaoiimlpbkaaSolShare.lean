/- A total, shared out. -/
import Derived.Test.YteilaoiimlpbkaaSolWant
import Derived.Test.YteilaoiimlpbkaaSolSpread
import Derived.Test.YteilaoiimlpbkaaSolLess
namespace Go.Proofs.Yteilaoiimlpbkaa
namespace sl
theorem err_none (t : Int) (L : List Sz) (h : L.length = 0) : err t L = 1 := by unfold err; rw [if_pos (.inl h)]
theorem err_far (t : Int) (L : List Sz) (h : 200 < t) : err t L = 1 := by unfold err; rw [if_pos (.inr (.inl h))]
theorem err_bad (t : Int) (L : List Sz) (h : L.any (fun s => !good s) = true) : err t L = 1 := by unfold err; rw [if_pos (.inr (.inr h))]
theorem err_next (t : Int) (L : List Sz) (h0 : L.length ≠ 0) (h1 : t ≤ 200) (h2 : L.any (fun s => !good s) = false) : err t L = if 16 < L.length then 3 else if t < (L.length : Int) then 90 else 0 := by
  unfold err; rw [if_neg]
  rintro (h | h | h)
  · exact h0 h
  · omega
  · rw [h2] at h; cases h
theorem share_bad (t : Int) (L : List Sz) (h : err t L ≠ 0) : share t L = [] := by unfold share; rw [if_neg h]
theorem share_ok (t : Int) (L : List Sz) (h : err t L = 0) : share t L = lens t L := by unfold share; rw [if_pos h]
theorem spreadAll_len (w : List Int) (L : List Sz) (x : Int) : (spreadAll w L x).length = w.length := spread_len _ _ _ _ _
theorem lens_len (t : Int) (L : List Sz) : (lens t L).length = L.length := by
  unfold lens
  split
  · rw [less_len, wants_len]
  · rw [spreadAll_len, wants_len]
end sl
open Go.RowKit
attribute [local go_sem ↓ 10000] run_mn run_mx
/-- what Share answers, and where -/
def Shared (t : Int) (L : List sl.Sz) (w : World) (e : Ending) (w' : World) : Prop :=
  ∃ V, e = .returned (.tuple #[V, .int .i64 (sl.err t L)]) ∧ w'.ownsRow w.heap.size 3 1 V (sl.share t L).length ((sl.share t L).map (Value.int .i64)) ∧ Below w.heap.size w w'
theorem shared_bad {t : Int} {L : List sl.Sz} {w w' : World} {c : Int} (hc : sl.err t L = c) (h0 : c ≠ 0) (hb : Below w.heap.size w w') : Shared t L w (.returned (.tuple #[.slice none 0 0, .int .i64 c])) w' := by
  subst hc
  refine ⟨_, rfl, ?_, hb⟩
  rw [sl.share_bad t L h0]
  exact World.ownsRow_nil w' w.heap.size 3 1
theorem shared_ok {t : Int} {L : List sl.Sz} {w w' : World} {g cap n : Nat} (hl : L.length = n) (he : sl.err t L = 0) (hr : RowI w' w.heap.size g cap n (sl.lens t L)) (hb : Below w.heap.size w w') : Shared t L w (.returned (.tuple #[.slice (some ⟨g, 0, none⟩) n cap, .int .i64 0])) w' := by
  refine ⟨_, by rw [he], ?_, hb⟩
  rw [sl.share_ok t L he, sl.lens_len, hl]
  exact hr
set_option maxRecDepth 100000 in
set_option maxHeartbeats 1600000 in
theorem share_any (t : Int) (o : Option Addr) (n cap : Nat) (L : List sl.Sz) (w : World) (hs : SzIn w o n cap L) :
    Calls Try.prog 8 #[.int .i64 t, .slice o n cap] w (Shared t L w) := by
  have hm : cap ≤ 9223372036854775807 := hs.max
  have hle := hs.le
  have HS := Lib.hid hs
  have HC := Lib.hid (contains_any o n cap L w hs)
  have HLN := Lib.hid hs.len
  clear hs
  by_cases h0 : n = 0
  · subst h0
    have HE := Lib.hid (sl.err_none t L HLN.out)
    go_enter Try.func8, Try.ntmps8
    go_wp2_with fail
    go_ret2
    exact shared_bad HE.out (by decide) (Below.refl _ _)
  have h0i : ((n : Int) == 0) = false := by simp; omega
  by_cases h1 : 200 < t
  · have HE := Lib.hid (sl.err_far t L h1)
    go_enter Try.func8, Try.ntmps8
    go_wp2_with fail
    go_ret2
    exact shared_bad HE.out (by decide) (Below.refl _ _)
  have h1' : t ≤ 200 := by omega
  have HN := Lib.hid (sl.err_next t L (by rw [HLN.out]; exact h0) h1')
  have HBAD := Lib.hid (sl.err_bad t L)
  have HGD := Lib.hid (sl.all_good L)
  generalize hany : L.any (fun s => !sl.good s) = bad at *
  clear hany h1
  cases bad
  case true =>
    have HE := Lib.hid (HBAD.out rfl)
    go_enter Try.func8, Try.ntmps8
    go_wp2_with fail
    refine HC.out.mono ?_
    rintro e w1 ⟨rfl, hb1⟩
    have HB1 := Lib.hid hb1
    clear hb1
    go_wp2_with fail
    go_ret2
    exact shared_bad HE.out (by decide) HB1.out
  case false =>
    have HN2 := Lib.hid (HN.out rfl)
    have HG := Lib.hid (HGD.out rfl)
    clear HN HBAD HGD
    by_cases h2 : 16 < n
    · have HE : Hid (sl.err t L = 3) := Lib.hid (by rw [HN2.out, if_pos (by rw [HLN.out]; exact h2)])
      go_enter Try.func8, Try.ntmps8
      go_wp2_with fail
      refine HC.out.mono ?_
      rintro e w1 ⟨rfl, hb1⟩
      have HB1 := Lib.hid hb1
      clear hb1
      go_wp2_with fail
      go_ret2
      exact shared_bad HE.out (by decide) HB1.out
    have h2' : n ≤ 16 := by omega
    by_cases h3 : t < (n : Int)
    · have HE : Hid (sl.err t L = 90) := Lib.hid (by rw [HN2.out, if_neg (by rw [HLN.out]; exact h2), if_pos (by rw [HLN.out]; exact h3)])
      go_enter Try.func8, Try.ntmps8
      go_wp2_with fail
      refine HC.out.mono ?_
      rintro e w1 ⟨rfl, hb1⟩
      have HB1 := Lib.hid hb1
      clear hb1
      go_wp2_with fail
      go_ret2
      exact shared_bad HE.out (by decide) HB1.out
    have HE : Hid (sl.err t L = 0) := Lib.hid (by rw [HN2.out, if_neg (by rw [HLN.out]; exact h2), if_neg (by rw [HLN.out]; exact h3)])
    have h3' : (n : Int) ≤ t := by omega
    have ht0 : 0 ≤ t := by omega
    clear HN2 h2
    have hlb := sl.left_bounds t L HG.out h1' n (by rw [HLN.out]; exact Nat.le_refl _)
    rw [List.take_of_length_le (by rw [HLN.out]; exact Nat.le_refl _)] at hlb
    have HW := Lib.hid (fun W (hb : Below w.heap.size w W) => wanted_any t o n cap L W (HS.out.below hb) HG.out h2' ht0 h1')
    have HLS : Hid (sl.lens t L = if sl.left t L < 0 then (sl.less (sl.wants t L) (-(sl.left t L))).1 else sl.spreadAll (sl.wants t L) L (sl.left t L)) := Lib.hid rfl
    have HWP := Lib.hid (sl.wants_pos t L HG.out)
    have HWL : Hid (∀ x ∈ sl.wants t L, x ≤ 200) := Lib.hid (fun x hx => by
      obtain ⟨s, h, rfl⟩ := List.mem_map.1 hx
      exact sl.want_le (HG.out s h) h1')
    have HWN : Hid ((sl.wants t L).length = n) := Lib.hid (by rw [sl.wants_len]; exact HLN.out)
    have hn0 : 0 < n := by omega
    generalize sl.wants t L = ws at *
    generalize sl.left t L = x at *
    obtain ⟨hx1, hx2⟩ := hlb
    go_enter Try.func8, Try.ntmps8
    go_wp2_with fail
    refine HC.out.mono ?_
    rintro e w1 ⟨rfl, hb1⟩
    have HB1 := Lib.hid hb1
    clear hb1
    go_wp2_with fail
    refine (HW.out w1 HB1.out).mono ?_
    rintro e w2 ⟨V, rfl, hr2, hb2⟩
    obtain ⟨g, gcap, rfl, hri⟩ := RowI.of (own_base hr2 HB1.out.size) hn0
    have HB2 := Lib.hid (HB1.out.trans (hb2.mono HB1.out.size))
    have HRI := Lib.hid hri
    clear hr2 hb2 hri HC HW
    by_cases hx : x < 0
    · have HLL := Lib.hid (lessen_any w.heap.size g gcap n ws (-x) w2 HRI.out h2' (fun z hz => ⟨HWP.out z hz, HWL.out z hz⟩) (by omega) (by omega))
      have HF : Hid (sl.lens t L = (sl.less ws (-x)).1) := Lib.hid (by rw [HLS.out, if_pos hx])
      go_wp2_with fail
      refine HLL.out.mono ?_
      rintro e w3 ⟨rfl, hr3, hk3⟩
      have HR3 := Lib.hid hr3
      have HB3 := Lib.hid (HB2.out.trans (hk3.below HB2.out.size (fun k h => by have h' : k = g := h; subst h'; exact HRI.out.lt.1)))
      clear hr3 hk3
      go_wp2_with fail
      go_ret2
      exact shared_ok HLN.out HE.out (by rw [HF.out]; exact HR3.out) HB3.out
    · have HLL := Lib.hid (spread_any w.heap.size g gcap n ws o cap L x w2 HRI.out (HS.out.below HB2.out) hn0 h2' (fun j hj => ⟨HWP.out _ (sl.getD_mem ws j (by rw [HWN.out]; exact hj)), HWL.out _ (sl.getD_mem ws j (by rw [HWN.out]; exact hj))⟩) (by omega) (by omega))
      have HF : Hid (sl.lens t L = sl.spreadAll ws L x) := Lib.hid (by rw [HLS.out, if_neg hx])
      go_wp2_with fail
      refine HLL.out.mono ?_
      rintro e w3 ⟨rfl, hr3, hk3⟩
      have HR3 := Lib.hid hr3
      have HB3 := Lib.hid (HB2.out.trans (hk3.below HB2.out.size (fun k h => by have h' : k = g := h; subst h'; exact HRI.out.lt.1)))
      clear hr3 hk3
      go_wp2_with fail
      go_ret2
      exact shared_ok HLN.out HE.out (by rw [HF.out]; exact HR3.out) HB3.out
end Go.Proofs.Yteilaoiimlpbkaa
