/- What the parts want, and what they leave; how long a total has to be at least. -/
import Derived.Test.YteilaoiimlpbkaaSolOne
import Derived.Test.YteilaoiimlpbkaaSolPre
namespace Go.Proofs.Yteilaoiimlpbkaa
open Go.RowKit
attribute [local go_sem ↓ 10000] run_mn run_mx

set_option maxHeartbeats 1600000 in
theorem wanted_any (t : Int) (o : Option Addr) (n cap : Nat) (L : List sl.Sz) (w : World) (hs : SzIn w o n cap L) (hg : ∀ s ∈ L, sl.good s = true) (hn : n ≤ 16) (h0 : 0 ≤ t) (h1 : t ≤ 200) :
    Calls Try.prog 17 #[.int .i64 t, .slice o n cap] w fun e w' => ∃ V, e = .returned (.tuple #[V, .int .i64 (sl.left t L)]) ∧ w'.ownsRow w.heap.size 3 1 V n ((sl.wants t L).map (Value.int .i64)) ∧ Below w.heap.size w w' := by
  have hm : cap ≤ 9223372036854775807 := hs.max
  have hle := hs.le
  have HS := Lib.hid hs
  have HGD := Lib.hid hg
  have HR := Lib.hid (fun k n W hg => want_any t k n W hg h0 h1)
  clear hs hg
  obtain ⟨i0, hi, hz0, hz1, hz2⟩ := info_parts infoE
  have HI := Lib.hid hi; have HZ0 := Lib.hid hz0; have HZ1 := Lib.hid hz1; have HZ2 := Lib.hid hz2
  clear hi hz0 hz1 hz2
  go_enter Try.func17, Try.ntmps17
  go_wp2_with fail
  go_loopg [6, 7, 14] n (fun gg s6 s7 s14 wr => ∃ (k : Nat) (x : Int), s14 = .int .i64 k ∧ s7 = .int .i64 x ∧ k ≤ n ∧ n - k ≤ gg ∧ t - 200 * k ≤ x ∧ x ≤ t - k ∧ Hid (x = sl.left t (L.take k) ∧ wr.ownsRow w.heap.size 3 1 s6 k ((sl.wants t (L.take k)).map (Value.int .i64)) ∧ Below w.heap.size w wr))
  case atStart => exact ⟨0, t, rfl, rfl, Nat.zero_le _, by omega, by omega, by omega, Lib.hid ⟨by simp [sl.left, sl.wants], (World.ownsRow_nil w w.heap.size 3 1 : w.ownsRow w.heap.size 3 1 (.slice none 0 0) 0 []), Below.refl _ _⟩⟩
  case round =>
    obtain ⟨k, x, rfl, rfl, hk, hgg, hx1, hx2, HA⟩ := hrel
    obtain ⟨ao, ac, rfl⟩ := own_slice HA.out.2.1
    by_cases hlt : k < n
    · obtain ⟨b, off, rfl, hb, k0, k1⟩ := (HS.out.below HA.out.2.2).cell hlt
      have hkl : k < L.length := by rw [HS.out.len]; exact hlt
      have hst := sl.wants_snoc t L k hkl
      have hls := sl.left_snoc t L k hkl
      have hgk := sl.good_at L HGD.out k hkl
      have hw1 := sl.want_pos (t := t) hgk
      have hw2 := sl.want_le hgk h1
      generalize L.getD k sl.z0 = s at *
      obtain ⟨sk, sn⟩ := s
      have HW := Lib.hid (fun W => HR.out sk sn W hgk)
      rw [← HA.out.1] at hls
      generalize sl.want t ⟨sk, sn⟩ = y at *
      have HST := Lib.hid hst
      have HLS := Lib.hid hls
      clear hst hkl hls hgk
      have hki : (k : Int) < (n : Int) := by omega
      dsimp only at k0 k1
      go_wp2_with fail
      refine (HW.out _).mono ?_
      rintro e w2 ⟨rfl, hb2⟩
      have HB2 := Lib.hid (HA.out.2.2.trans ((((Below.refl _ wr).alloc (Nat.le_refl _) _).trans (hb2.mono (by simp))).mono HA.out.2.2.size))
      have HO2 := Lib.hid (row_below HA.out.2.1 (((Below.refl _ wr).alloc (Nat.le_refl _) _).trans (hb2.mono (by simp))))
      clear hb2
      go_wp2_with (at_builtin; refine wpList_append_ints rfl _ _ 24 rfl w.heap.size 3 i0 (Value.int .i64 0) Try.underlying24 HI.out HZ0.out HZ1.out HZ2.out rfl (.slice ao k ac) k (sl.wants t (L.take k)) rfl ?c1 (some ⟨w2.heap.size, 0, none⟩) 1 1 [y] rfl ?c2 ?c3 ?c4 ?_)
      case c1 => exact HO2.out.alloc _
      case c2 => exact Ints.new w2 _ [y] (by simp)
      case c3 => omega
      case c4 => have := HB2.out.size; simp; omega
      intro v' w3 hr hg
      obtain ⟨ao3, ac3, rfl⟩ := own_slice hr
      have HB3 := Lib.hid ((HB2.out.alloc HB2.out.size _).grown hg (by have := HB2.out.size; simp; omega) (fun q hq => (HO2.out.lt q hq).1))
      have HR3 := Lib.hid hr
      clear hr hg
      go_wp2_with fail
      go_roundg (n - (k + 1))
      case measure => omega
      case rel =>
        refine ⟨k + 1, x - y, by go_num, rfl, by omega, Nat.le_refl _, by omega, by omega, Lib.hid ⟨HLS.out.symm, ?_, HB3.out⟩⟩
        rw [HST.out]
        have := HR3.out
        simpa using this
    · obtain rfl : k = n := by omega
      have HF : Hid (L.take k = L) := Lib.hid (by rw [List.take_of_length_le (by rw [HS.out.len]; exact Nat.le_refl _)])
      go_wp2_with fail
      go_ret2
      obtain ⟨hx, hr, hb⟩ := HA.out
      rw [HF.out] at hx hr
      subst hx
      exact ⟨_, rfl, hr, hb⟩
set_option maxRecDepth 100000 in
/-- a beginning of the sizes -/
theorem run_sz_hi (o : Option Addr) (n cap : Nat) (l : Nat) (hl : l ≤ n) (hle : n ≤ cap) (x : Int) (hx : x = (l : Int)) (k : IntKind) (wx : World) : (Instr.slice 22 (.slice o n cap) none (some (.int k x)) none).run Try.prog wx = .ok (.slice o l cap) wx := by
  subst hx
  rw [run_slice_h wx 22 o n cap Try.underlying22 k l (by omega) (by omega)]
  have hz : (sizeOf (Try.prog.elem 22)).run Try.prog wx = .ok 2 wx := by kernel_rfl
  rw [hz]
  have e : (fun x : Addr => x.add 0) = id := funext addr_add0
  simp [Result.andThen, sliced, e]
theorem cell_fresh (w : World) (cs : Array Value) (T : TypeId) (j : Nat) : (w.alloc (.cells cs T)).cell? ⟨w.heap.size, j, none⟩ = cs[j]? := by
  have he : (w.alloc (.cells cs T)).heap[w.heap.size]? = some (.cells cs T) := by
    show (w.heap.push _)[w.heap.size]? = _
    simp
  show (match (w.alloc (.cells cs T)).heap[w.heap.size]? with
    | some (.cells c _ _) => c[j]?
    | _ => none) = _
  rw [he]
theorem least_eq (L : List sl.Sz) : sl.least L = sl.leastN (L.take 16) (L.take 16).length := by
  unfold sl.least sl.leastN
  rw [List.take_of_length_le (Nat.le_refl _)]
set_option maxHeartbeats 1600000 in
theorem least_any (o : Option Addr) (n cap : Nat) (L : List sl.Sz) (w : World) (hs : SzIn w o n cap L) :
    Calls Try.prog 11 #[.slice o n cap] w fun e w' => e = .returned (.int .i64 (sl.least L)) ∧ Below w.heap.size w w' := by
  have hm : cap ≤ 9223372036854775807 := hs.max
  have hle := hs.le
  have hmq : mn (n : Int) 16 = ((min n 16 : Nat) : Int) := mn_nat n 16
  have HS := Lib.hid (hs.take (min n 16) (Nat.min_le_left _ _))
  have HT : Hid (sl.least L = sl.leastN (L.take (min n 16)) (min n 16)) := Lib.hid (by
    rw [least_eq]
    have e : L.take 16 = L.take (min n 16) := by
      rcases Nat.le_total n 16 with h | h
      · rw [Nat.min_eq_left h, List.take_of_length_le (by rw [hs.len]; exact h), List.take_of_length_le (by rw [hs.len]; exact Nat.le_refl _)]
      · rw [Nat.min_eq_right h]
    rw [e, List.length_take, hs.len]
    simp [Nat.min_comm])
  have HR := Lib.hid (fun k n W => check_any k n W)
  have hm16 : min n 16 ≤ 16 := Nat.min_le_right _ _
  have hmn : min n 16 ≤ n := Nat.min_le_left _ _
  clear hs
  generalize L.take (min n 16) = L' at *
  generalize sl.least L = R at *
  generalize min n 16 = m at *
  go_enter Try.func11, Try.ntmps11
  go_wp2_with fail
  clear hmq
  go_loopg [3, 12] m (fun gg s3 s12 wr => ∃ (k : Nat) (x : Int), s12 = .int .i64 k ∧ s3 = .int .i64 x ∧ k ≤ m ∧ m - k ≤ gg ∧ 0 ≤ x ∧ x ≤ 200 * k ∧ Hid (x = sl.leastN L' k ∧ Below w.heap.size w wr))
  case atStart => exact ⟨0, 0, rfl, rfl, Nat.zero_le _, by omega, by omega, by omega, Lib.hid ⟨rfl, Below.refl _ _⟩⟩
  case round =>
    obtain ⟨k, x, rfl, rfl, hk, hgg, hx1, hx2, HA⟩ := hrel
    by_cases hlt : k < m
    · obtain ⟨b, off, rfl, hb, k0, k1⟩ := (HS.out.below HA.out.2).cell hlt
      have hkl : k < L'.length := by rw [HS.out.len]; exact hlt
      have hst := sl.leastN_snoc L' k hkl
      have hl1 := sl.least1_good (s := L'.getD k sl.z0)
      rw [← HA.out.1] at hst
      generalize L'.getD k sl.z0 = s at *
      obtain ⟨sk, sn⟩ := s
      have HD : Hid (sl.least1 ⟨sk, sn⟩ = if sk = 1 ∧ sl.good ⟨sk, sn⟩ = true then sn else 1) := Lib.hid rfl
      have HE : Hid (sl.errOf ⟨sk, sn⟩ = if sl.good ⟨sk, sn⟩ then 0 else 1) := Lib.hid rfl
      have HW := Lib.hid (fun W => HR.out sk sn W)
      generalize sl.least1 ⟨sk, sn⟩ = y at *
      generalize sl.errOf ⟨sk, sn⟩ = E at *
      generalize sl.good ⟨sk, sn⟩ = G at *
      have HST := Lib.hid hst
      clear hst hkl
      have hki : (k : Int) < (m : Int) := by omega
      dsimp only at k0 k1
      by_cases h1 : sk = 1
      · subst h1
        cases G
        · obtain rfl : E = 1 := HE.out
          have hy : y = 1 := by rw [HD.out]; simp
          subst hy
          go_wp2_with fail
          refine (HW.out _).mono ?_
          rintro e w2 ⟨rfl, hb2⟩
          have HB2 := Lib.hid (HA.out.2.trans ((((Below.refl _ wr).alloc (Nat.le_refl _) _).trans (hb2.mono (by simp))).mono HA.out.2.size))
          clear hb2
          go_wp2_with fail
          go_roundg (m - (k + 1))
          case measure => omega
          case rel => exact ⟨k + 1, x + 1, by go_num, rfl, by omega, Nat.le_refl _, by omega, by omega, Lib.hid ⟨HST.out.symm, HB2.out⟩⟩
        · obtain rfl : E = 0 := HE.out
          have hy : y = sn := by rw [HD.out]; simp
          subst hy
          have hb2c := fun w2 (hb2 : Below (wr.alloc (.cells #[.int .i64 1, .int .i64 y] 33)).heap.size (wr.alloc (.cells #[.int .i64 1, .int .i64 y] 33)) w2) => (hb2.cell (p := ⟨wr.heap.size, 1, none⟩) (by simp)).trans (show (wr.alloc (.cells #[.int .i64 1, .int .i64 y] 33)).cell? ⟨wr.heap.size, 1, none⟩ = some (.int .i64 y) from cell_fresh _ _ _ _)
          have HBC := Lib.hid hb2c
          clear hb2c
          go_wp2_with fail
          refine (HW.out _).mono ?_
          rintro e w2 ⟨rfl, hb2⟩
          have HB2 := Lib.hid (HA.out.2.trans ((((Below.refl _ wr).alloc (Nat.le_refl _) _).trans (hb2.mono (by simp))).mono HA.out.2.size))
          have c2 := HBC.out w2 hb2
          clear hb2
          go_wp2_with fail
          go_roundg (m - (k + 1))
          case measure => omega
          case rel => exact ⟨k + 1, x + y, by go_num, rfl, by omega, Nat.le_refl _, by omega, by omega, Lib.hid ⟨HST.out.symm, HB2.out⟩⟩
      · have e1 : (sk == 1) = false := by simpa using h1
        have hy : y = 1 := by rw [HD.out]; simp [h1]
        subst hy
        have HB2 := Lib.hid (HA.out.2.alloc HA.out.2.size (.cells #[.int .i64 sk, .int .i64 sn] 33))
        go_wp2_with fail
        go_roundg (m - (k + 1))
        case measure => omega
        case rel => exact ⟨k + 1, x + 1, by go_num, rfl, by omega, Nat.le_refl _, by omega, by omega, Lib.hid ⟨HST.out.symm, HB2.out⟩⟩
    · obtain rfl : k = m := by omega
      go_wp2_with fail
      go_ret
      exact ⟨ret_int (by rw [HT.out, HA.out.1]), HA.out.2⟩
end Go.Proofs.Yteilaoiimlpbkaa
