/- CapsKeeps: the walk. -/
import Derived.Test.YtbmcmcdgdhabaaaDoorCpAlive
import Derived.Test.YtbmcmcdgdhabaaaDoorCpKeepsM
namespace Go.Proofs.YtbmcmcdgdhabaaaDoor
open Go.RowKit
set_option maxRecDepth 100000 in
set_option maxHeartbeats 6400000 in
theorem keeps_any (have_ more n : Int) (VA : Value) (a : List Int) (VO : Value) (o : List Int) (VM : Value) (mem : List UInt8) (w : World) (hv : VT w) (ha : NsIn w (fun k => k < w.heap.size) VA a) (ho : NsIn w (fun k => k < w.heap.size) VO o) (hm : BsIn w (fun k => k < w.heap.size) VM mem) :
    Calls Tryd.prog 3 #[.int .i64 have_, .int .i64 more, .int .i64 n, VA, VO, VM] w fun e w' => e = .returned (.bool true) ∧ Below w.heap.size w w' := by
  obtain ⟨oa, ca, rfl, hla, hma, -⟩ := id ha
  obtain ⟨oo, co, rfl, hlo, hmo, -⟩ := id ho
  obtain ⟨om, cm, rfl, hlm, hmm, -⟩ := id hm
  have HV := Lib.hid (fun (W : World) (hb : Below w.heap.size w W) => hv.below hb)
  have HAS := Lib.hid (fun (h : Int) (W : World) (hb : Below w.heap.size w W) => ask_any _ _ _ _ h n a mem W (hv.below hb).ht (hv.below hb).nt (RowIn.below ha hb) (RowIn.below hm hb))
  have HAO := Lib.hid (fun (W : World) (hb : Below w.heap.size w W) => ask_any _ _ _ _ have_ n o [] W (hv.below hb).ht (hv.below hb).nt (RowIn.below ho hb) (RowIn.nil W (fun _ => True) 1))
  have HK1 := Lib.hid (fun h0 h1 => cp.ask_no (have_ := have_) (n := n) h0 h1 a mem)
  have HK2 := Lib.hid (fun h0 h1 hl => cp.ask_len (have_ := have_) (n := n) h0 h1 a o mem [] hl)
  have HK3 := Lib.hid (fun h => cp.ask_more (have_ := have_) (more := more) (n := n) h a mem)
  have HAL := Lib.hid (alive_any w hv)
  have HNE := Lib.hid (fun (W : World) (hb : Below w.heap.size w W) => needs_any n W (hv.below hb).nt)
  obtain ⟨R1, hR1⟩ : ∃ R1, cp.ask have_ n a mem = R1 := ⟨_, rfl⟩
  obtain ⟨R3, hR3⟩ : ∃ R3, cp.ask have_ n o [] = R3 := ⟨_, rfl⟩
  have HA1 := Lib.hid (HAS.out have_)
  rw [hR1] at HK1 HK2 HK3 HA1
  rw [hR3] at HK2 HAO
  obtain ⟨R2, hR2⟩ : ∃ R2, cp.ask (cp.grant have_ more) n a mem = R2 := ⟨_, rfl⟩
  have HA2 := Lib.hid (HAS.out (cp.grant have_ more))
  rw [hR2] at HA2 HK3
  obtain ⟨nd, hnd⟩ : ∃ nd, cp.needs n = nd := ⟨_, rfl⟩
  rw [hnd] at HNE HK1 HK2 HK3
  have HGR := Lib.hid (fun W => grant_any have_ more W)
  obtain ⟨G, hG⟩ : ∃ G, cp.grant have_ more = G := ⟨_, rfl⟩
  rw [hG] at HGR HA2
  clear hR1 hR2 hR3 hnd hG ha ho hm hv HAS
  obtain ⟨⟨p0, p1, p2, p3, p4, p5, p6, p7, p8⟩, b1, e1⟩ := R1
  obtain ⟨⟨s0, s1, s2, s3, s4, s5, s6, s7, s8⟩, b2, e2⟩ := R2
  obtain ⟨c3, b3, e3⟩ := R3
  go_enter Tryd.func3, Tryd.ntmps3
  go_wp2_with fail
  refine HAL.out.mono ?_
  rintro e w1 ⟨rfl, hb1⟩
  have HB1 := Lib.hid hb1
  have HC1 := Lib.hid (HA1.out w1 hb1)
  clear hb1 HAL HA1
  go_wp2_with fail
  refine HC1.out.mono ?_
  rintro e w2 ⟨VB1, rfl, hr1, hb2⟩
  replace hr1 : BR w2 w1.heap.size VB1 b1 := hr1
  obtain ⟨o1, c1, rfl⟩ := own_slice hr1
  have hb3 := below_one w2 (callO ⟨p0, p1, p2, p3, p4, p5, p6, p7, p8⟩ (.slice o1 b1.length c1))
  have hb23 := hb2.trans (hb3.mono hb2.size)
  have HB3 := Lib.hid (HB1.out.trans (hb23.mono HB1.out.size))
  have HN3 := Lib.hid (heap_alloc_new w2 (callO ⟨p0, p1, p2, p3, p4, p5, p6, p7, p8⟩ (.slice o1 b1.length c1)))
  have HR3 := Lib.hid (RowIn.below (show BsIn w2 (fun _ => True) (.slice o1 b1.length c1) b1 from RowIn.of_own hr1 (by rw [byC_len, Nat.mul_one]) _ (fun _ _ => trivial)) hb3)
  clear hr1 hb2 hb3 hb23 HC1 HB1
  dsimp only
  go_upto_region 4 with fail
  generalize w2.alloc (callO ⟨p0, p1, p2, p3, p4, p5, p6, p7, p8⟩ (.slice o1 b1.length c1)) = w3 at *
  generalize w2.heap.size = q1 at *
  have HG3 := Lib.hid (HGR.out w3)
  have HC3 := Lib.hid (HA2.out w3 HB3.out)
  clear HGR HA2
  go_wp2_with fail
  refine HG3.out.mono ?_
  rintro e w' ⟨rfl, hw⟩
  replace hw := hw.symm
  subst hw
  go_wp2_with fail
  refine HC3.out.mono ?_
  rintro e w4 ⟨VB2, rfl, hr2, hb4⟩
  replace hr2 : BR w4 w3.heap.size VB2 b2 := hr2
  obtain ⟨o2, c2, rfl⟩ := own_slice hr2
  have hb5 := below_one w4 (callO ⟨s0, s1, s2, s3, s4, s5, s6, s7, s8⟩ (.slice o2 b2.length c2))
  have hb45 := hb4.trans (hb5.mono hb4.size)
  have HB5 := Lib.hid (HB3.out.trans (hb45.mono HB3.out.size))
  have HN5 := Lib.hid (And.intro ((hb45.block _ (heap_lt HN3.out)).trans HN3.out) (heap_alloc_new w4 (callO ⟨s0, s1, s2, s3, s4, s5, s6, s7, s8⟩ (.slice o2 b2.length c2))))
  have HR5 := Lib.hid (And.intro (RowIn.below HR3.out hb45) (RowIn.below (show BsIn w4 (fun _ => True) (.slice o2 b2.length c2) b2 from RowIn.of_own hr2 (by rw [byC_len, Nat.mul_one]) _ (fun _ _ => trivial)) hb5))
  clear hr2 hb4 hb5 hb45 HC3 HG3 HB3 HN3 HR3
  dsimp only
  go_upto_region 5 with fail
  generalize w4.alloc (callO ⟨s0, s1, s2, s3, s4, s5, s6, s7, s8⟩ (.slice o2 b2.length c2)) = w5 at *
  generalize w4.heap.size = q2 at *
  have HN := Lib.hid (HNE.out w5 HB5.out)
  clear HNE
  go_wp2_with fail
  refine HN.out.mono ?_
  rintro e w' ⟨rfl, hw⟩
  replace hw := hw.symm
  subst hw
  clear HN
  have x0 : w5.cell? ⟨q1, 0, none⟩ = some (.int .i64 p0) := (cell_of_heap HN5.out.1).trans rfl
  have x9 : w5.cell? ⟨q1, 9, none⟩ = some (.slice o1 b1.length c1) := (cell_of_heap HN5.out.1).trans rfl
  have hl1 := heap_lt HN5.out.1
  have hl2 := heap_lt HN5.out.2
  by_cases hno : nd ≠ 0 ∧ bits .and .i64 have_ nd = 0
  case pos =>
    have n0 : (nd != 0) = true := by simpa using hno.1
    have n1 : (bits .and .i64 have_ nd == 0) = true := by simpa using hno.2
    have hk1 := HK1.out hno.1 hno.2
    have HK2' := Lib.hid (HK2.out hno.1 hno.2)
    clear HK1 HK2 HK3 hno
    rcases hk1 with hk1 | hk1
    all_goals
      injection hk1 with g1 g2
      injection g2 with g2 g3
      injection g1 with h0 h1 h2 h3 h4 h5 h6 h7 h8
      subst h0 h1 h2 h3 h4 h5 h6 h7 h8 g2 g3
      have HCO := Lib.hid (HAO.out w5 HB5.out)
      clear HAO
      by_cases hlo2 : o.length = a.length
      · have hli : ((o.length : Int) == (a.length : Int)) = true := by simp; omega
        have hk2 := HK2'.out hlo2
        injection hk2 with g4 g5
        injection g5 with g5 g6
        subst g4 g5 g6
        clear HK2' hlo2
        go_wp2_with fail
        refine HCO.out.mono ?_
        rintro e w6 ⟨VB3, rfl, hr6, hb6⟩
        obtain ⟨o6, c6, rfl⟩ : ∃ o c, VB3 = .slice o 0 c := own_slice hr6
        have hb7 := below_one w6 (callO ⟨0, 0, 0, 0, 0, 0, 0, 0, 0⟩ (.slice o6 0 c6))
        have HB7 := Lib.hid (HB5.out.trans ((hb6.trans (hb7.mono hb6.size)).mono HB5.out.size))
        clear hr6 hb6 hb7 HCO
        dsimp only
        go_upto_region 11 with fail
        generalize w6.alloc (callO ⟨0, 0, 0, 0, 0, 0, 0, 0, 0⟩ (.slice o6 0 c6)) = w7 at *
        clear x0 x9 hl1 hl2
        go_wp2_with fail
        go_ret
        exact ⟨rfl, HB7.out⟩
      · have hli : ((o.length : Int) == (a.length : Int)) = false := by simp; omega
        clear HK2' HCO
        go_wp2_with fail
        go_ret
        exact ⟨rfl, HB5.out⟩
  case neg =>
    obtain ⟨hk3, hk4⟩ := HK3.out hno
    have hk4' : e1 ≠ -2 := hk4
    have n2 : (e1 == -2) = false := by simpa using hk4'
    injection hk3 with g1 g2
    injection g1 with h0 h1 h2 h3 h4 h5 h6 h7 h8
    injection g2 with g2 g3
    subst h0 h1 h2 h3 h4 h5 h6 h7 h8 g2 g3
    have HSB := Lib.hid (sameBytes_any _ _ _ _ b2 b2 w5 HR5.out.1 HR5.out.2)
    rw [decide_eq_true rfl] at HSB
    clear HK1 HK2 HK3 HAO hk4 hk4'
    have x1 : w5.cell? ⟨q1, 1, none⟩ = some (.int .i64 s1) := (cell_of_heap HN5.out.1).trans rfl
    have x2 : w5.cell? ⟨q1, 2, none⟩ = some (.int .i64 s2) := (cell_of_heap HN5.out.1).trans rfl
    have x3 : w5.cell? ⟨q1, 3, none⟩ = some (.int .i64 s3) := (cell_of_heap HN5.out.1).trans rfl
    have x4 : w5.cell? ⟨q1, 4, none⟩ = some (.int .i64 s4) := (cell_of_heap HN5.out.1).trans rfl
    have x5 : w5.cell? ⟨q1, 5, none⟩ = some (.int .i32 s5) := (cell_of_heap HN5.out.1).trans rfl
    have x6 : w5.cell? ⟨q1, 6, none⟩ = some (.int .i64 s6) := (cell_of_heap HN5.out.1).trans rfl
    have x7 : w5.cell? ⟨q1, 7, none⟩ = some (.int .i64 s7) := (cell_of_heap HN5.out.1).trans rfl
    have x8 : w5.cell? ⟨q1, 8, none⟩ = some (.int .i64 s8) := (cell_of_heap HN5.out.1).trans rfl
    have y0 : w5.cell? ⟨q2, 0, none⟩ = some (.int .i64 s0) := (cell_of_heap HN5.out.2).trans rfl
    have y1 : w5.cell? ⟨q2, 1, none⟩ = some (.int .i64 s1) := (cell_of_heap HN5.out.2).trans rfl
    have y2 : w5.cell? ⟨q2, 2, none⟩ = some (.int .i64 s2) := (cell_of_heap HN5.out.2).trans rfl
    have y3 : w5.cell? ⟨q2, 3, none⟩ = some (.int .i64 s3) := (cell_of_heap HN5.out.2).trans rfl
    have y4 : w5.cell? ⟨q2, 4, none⟩ = some (.int .i64 s4) := (cell_of_heap HN5.out.2).trans rfl
    have y5 : w5.cell? ⟨q2, 5, none⟩ = some (.int .i32 s5) := (cell_of_heap HN5.out.2).trans rfl
    have y6 : w5.cell? ⟨q2, 6, none⟩ = some (.int .i64 s6) := (cell_of_heap HN5.out.2).trans rfl
    have y7 : w5.cell? ⟨q2, 7, none⟩ = some (.int .i64 s7) := (cell_of_heap HN5.out.2).trans rfl
    have y8 : w5.cell? ⟨q2, 8, none⟩ = some (.int .i64 s8) := (cell_of_heap HN5.out.2).trans rfl
    have y9 : w5.cell? ⟨q2, 9, none⟩ = some (.slice o2 b2.length c2) := (cell_of_heap HN5.out.2).trans rfl
    have hcase : ((nd != 0) = false) ∨ ((nd != 0) = true ∧ (bits .and .i64 have_ nd == 0) = false) := by
      by_cases h0 : nd = 0
      · left; simp [h0]
      · right
        refine ⟨by simpa using h0, ?_⟩
        have : ¬ bits .and .i64 have_ nd = 0 := fun e => hno ⟨h0, e⟩
        simpa using this
    clear hno
    rcases hcase with n0 | ⟨n0, n1⟩
    all_goals
      go_wp2_with fail
      refine HSB.out.mono ?_
      rintro e w6 ⟨rfl, hb6⟩
      have HB6 := Lib.hid (HB5.out.trans (hb6.mono HB5.out.size))
      clear hb6 HSB
      go_wp2_with fail
      go_ret
      exact ⟨rfl, HB6.out⟩
end Go.Proofs.YtbmcmcdgdhabaaaDoor
