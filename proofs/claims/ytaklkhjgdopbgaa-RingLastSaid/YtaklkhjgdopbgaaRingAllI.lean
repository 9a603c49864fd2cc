/- All of a ring of int. -/
import Derived.Test.YtaklkhjgdopbgaaRingPushI
import Derived.Deep.RegionLaw
namespace Go.Proofs.Ytaklkhjgdopbgaa
namespace rI
open Go.RowKit

theorem take_snoc (L : List Value) (k : Nat) (h : k < L.length) (d : Value) : L.take (k + 1) = L.take k ++ [L.getD k d] := by
  rw [List.take_succ_eq_append_getElem h]; simp [List.getD, h]

set_option maxHeartbeats 1600000 in
theorem all_any (b : Nat) (pv : Value) (L : List Value) (most gone : Nat) (w : World) (h : Is w b pv L most gone) :
    Calls Try.prog 20 #[.pointer (some ⟨b, 0, none⟩)] w fun e w' => ∃ av, e = .returned av ∧ w'.ownsRow w.heap.size 3 1 av L.length L ∧ Below w.heap.size w w' := by
  obtain ⟨i0, hi, hz0, hz1, hz2⟩ := info_parts infoE
  obtain ⟨ps, first, hr, hL⟩ := h
  obtain ⟨hblk, hown, hel, hfit⟩ := hr
  have hm := hfit.m_le
  have hl := hfit.l_le
  have hnl := hfit.n_le
  have hf : first ≤ 1000 := by have := hfit.fm; omega
  obtain ⟨c0, c1, c2, c3, c4, f0, f1, f2, f3, f4, hb⟩ := ringCells hblk
  have HB := Lib.hid hblk; have HO := Lib.hid hown; have HE := Lib.hid hel; have HF := Lib.hid hfit; have HL := Lib.hid hL
  clear hblk hown hel hfit hL
  generalize hB : w.heap.size = B at *
  have HBB := Lib.hid hB; clear hB
  generalize hn : L.length = n at *
  have HN := Lib.hid hn; clear hn
  go_enter Try.func20, Try.ntmps20
  go_wp2_with fail
  go_loopg [3, 9] n (fun gg s3 s9 wr => ∃ k : Nat, s9 = .int .i64 k ∧ k ≤ n ∧ n - k ≤ gg ∧ wr.ownsRow B 3 1 s3 k (L.take k) ∧ Below B w wr)
  case atStart => exact ⟨0, rfl, Nat.zero_le _, by omega, World.ownsRow_nil _ _ _ _, Below.refl _ _⟩
  case round =>
    obtain ⟨k, rfl, hk, hgg, hrow, hbel⟩ := hrel
    by_cases hlt : k < n
    · have hblkr := (hbel.block b hb).trans HB.out
      have hownr := Kept.row (Kept.of_below (HBB.out ▸ hbel : Below w.heap.size w wr) (fun _ => False)) HO.out (fun _ _ h => h)
      have hszB : B ≤ wr.heap.size := by have := hbel.size; have := HBB.out; omega
      have hplt := HF.out.place_lt (i := k) (by omega)
      have hx : L.getD k (Value.int .i64 0) = ps.getD ((first + k) % most) (Value.int .i64 0) := by
        have := rg.things_getD (d := (Value.int .i64 0)) (ps := ps) (first := first) (most := most) hlt
        rwa [← HL.out] at this
      obtain ⟨y, hx2⟩ := HE.out _ (getD_mem (d := (Value.int .i64 0)) hplt)
      have hnx : L.take (k + 1) = L.take k ++ [(Value.int .i64 y)] := by rw [take_snoc L k (by rw [HN.out]; exact hlt) (Value.int .i64 0), hx, hx2]
      obtain ⟨g, cap, rfl, hbg, hgw, hnc, hcm⟩ := own_some hownr (by omega)
      obtain ⟨ao, ac, rfl⟩ := own_slice hrow
      have hkr : wr.cell? ⟨g, (first + k) % most, none⟩ = some (Value.int .i64 y) := by rw [← hx2]; exact own_cell hownr hplt
      have hpl := fun j => place_any b (.slice (some ⟨g, 0, none⟩) ps.length cap) first n most gone k (wr.drewN j) hblkr (by omega) hm hf (by omega)
      obtain ⟨d0, d1, d2, d3, d4, e0, e1, e2, e3, e4, hbr⟩ := ringCells hblkr
      generalize (first + k) % most = P at *
      have hPi : ((P : Int) < (ps.length : Int)) := by omega
      have h63 : k + 1 ≤ maxLen := by unfold maxLen; omega
      have h47 : (k + 1) * 8 ≤ 140737488355328 := by omega
      have hbase : ∀ j o, B ≤ ((wr.drewN j).alloc o).heap.size := fun j o => by simp; have := HBB.out; omega
      have hone : ∀ u ∈ [((Value.int .i64 y) : Value)], u.oneCell' = true := by intro u hu; simp at hu; subst hu; rfl
      have hrl := hrow.lt
      have HP := Lib.hid hpl; have HR := Lib.hid (own_new hrow); have HNX := Lib.hid hnx; have HBS := Lib.hid hbase; have HON := Lib.hid hone; have HRL := Lib.hid hrl
      clear hx hx2 hnx hpl hblkr hownr hrow c0 c1 c2 c3 c4 f0 f1 f2 f3 f4 hbase hone hrl
      go_wp2_with fail
      go_region_law (first | (refine step_append_moved rfl (.tmp 12) (.tmp 22) 26 rfl B 3 i0 (Value.int .i64 0) 1 8 Try.underlying26 hi hz0 hz1 hz2 rfl (by decide) _ _ _ rfl (HR.out _ _) ⟨wr.heap.size, 0, none⟩ 1 1 [(Value.int .i64 y)] rfl rfl (news_new wr _ _ _) HON.out h63 h47 (HBS.out _ _) ?_; intro v' w1 hown1 hgrow1 hmov1; obtain ⟨ao', cap', rfl⟩ := own_slice hown1) | (go_simp; go_at_call 36; refine (HP.out _).mono ?_; rintro e w' ⟨rfl, nq2, rfl⟩))
      all_goals
        have hbel1 := below_grow hbel hgrow1 (by omega) (fun j hj => (HRL.out j hj).1)
        have hown2 : w1.ownsRow B 3 1 (.slice ao' (k + 1) cap') (k + 1) (L.take (k + 1)) := by rw [HNX.out]; exact hown1
        have HO2 := Lib.hid hown2
        clear hown2 hown1 hgrow1 hmov1 d0 d1 d2 d3 d4 e0 e1 e2 e3 e4 hkr
        go_wp2_with fail
        go_roundg (n - (k + 1))
        case measure => omega
        case rel => exact ⟨k + 1, by go_num, by omega, Nat.le_refl _, HO2.out, hbel1⟩
    · obtain rfl : k = n := by omega
      have e : L.take k = L := List.take_of_length_le (by rw [HN.out]; exact Nat.le_refl _)
      have HR := Lib.hid (show wr.ownsRow B 3 1 _ k L by rw [← e]; exact hrow)
      clear hrow e
      go_wp2_with fail
      go_ret
      exact ⟨_, rfl, HR.out, hbel⟩
end rI
end Go.Proofs.Ytaklkhjgdopbgaa
