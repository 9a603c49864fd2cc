/- RectParts returns true for every rectangle, every list of sizes, each way and every two numbers, in every memory, and leaves everything that was there as it was. No condition. -/
import Derived.Test.YtpmggljdcbbdfaaCutv
import Derived.Test.YtpmggljdcbbdfaaMath6
import Derived.Test.YtpmggljdcbbdfaaHold
namespace Go.Proofs.Ytpmggljdcbbdfaa
open Go.ChangeShapes Go.WideShapes Go.ChangeAt Go.RowKit rm
attribute [local go_sem ↓] Go.wp_at_zero Go.wp_at_succ
attribute [local go_sem ↓ 10000] run_mn run_mx

theorem holdP {w w1 w2 : World} {b b' o : Nat} {x y ww h x' y' ww' h' : Int} (hb : Below w1.heap.size w1 w2)
    (hS : Below w.heap.size w w1 ∧ b < w1.heap.size ∧ b' < w1.heap.size ∧ w1.cell? ⟨b, 0, none⟩ = some (.int .i64 x) ∧ w1.cell? ⟨b, 1, none⟩ = some (.int .i64 y) ∧ w1.cell? ⟨b, 2, none⟩ = some (.int .i64 ww) ∧ w1.cell? ⟨b, 3, none⟩ = some (.int .i64 h) ∧ w1.cell? ⟨b', o, none⟩ = some (.int .i64 x') ∧ w1.cell? ⟨b', o + 1, none⟩ = some (.int .i64 y') ∧ w1.cell? ⟨b', o + 2, none⟩ = some (.int .i64 ww') ∧ w1.cell? ⟨b', o + 3, none⟩ = some (.int .i64 h')) :
    Below w.heap.size w w2 ∧ b < w2.heap.size ∧ b' < w2.heap.size ∧ w2.cell? ⟨b, 0, none⟩ = some (.int .i64 x) ∧ w2.cell? ⟨b, 1, none⟩ = some (.int .i64 y) ∧ w2.cell? ⟨b, 2, none⟩ = some (.int .i64 ww) ∧ w2.cell? ⟨b, 3, none⟩ = some (.int .i64 h) ∧ w2.cell? ⟨b', o, none⟩ = some (.int .i64 x') ∧ w2.cell? ⟨b', o + 1, none⟩ = some (.int .i64 y') ∧ w2.cell? ⟨b', o + 2, none⟩ = some (.int .i64 ww') ∧ w2.cell? ⟨b', o + 3, none⟩ = some (.int .i64 h') := by
  obtain ⟨h1, h2, h3, a0, a1, a2, a3, b0, b1, b2, b3⟩ := hS
  have hc : ∀ i, w2.cell? ⟨b, i, none⟩ = w1.cell? ⟨b, i, none⟩ := fun i => hb.cell (p := ⟨b, i, none⟩) h2
  have hd : ∀ i, w2.cell? ⟨b', i, none⟩ = w1.cell? ⟨b', i, none⟩ := fun i => hb.cell (p := ⟨b', i, none⟩) h3
  exact ⟨h1.trans (hb.mono h1.size), Nat.lt_of_lt_of_le h2 hb.size, Nat.lt_of_lt_of_le h3 hb.size, (hc 0).trans a0, (hc 1).trans a1, (hc 2).trans a2, (hc 3).trans a3, (hd _).trans b0, (hd _).trans b1, (hd _).trans b2, (hd _).trans b3⟩

/-- what the law's walk needs of the parts -/
structure PartsOk (x y ww h : Int) (L : List RR) (m : Nat) (px py : Int) : Prop where
  len : L.length = m
  inn : ∀ (k : Nat) (r : RR), L[k]? = some r → inV r.x r.y r.w r.h x y ww h = true
  no : ∀ (j k : Nat) (p q : RR), j < k → L[j]? = some q → L[k]? = some p → noV (meetV p.x p.y p.w p.h q.x q.y q.w q.h).x (meetV p.x p.y p.w p.h q.x q.y q.w q.h).y (meetV p.x p.y p.w p.h q.x q.y q.w q.h).w (meetV p.x p.y p.w p.h q.x q.y q.w q.h).h = true
  has : ∀ (k : Nat) (r : RR), L[k]? = some r → hasV r.x r.y r.w r.h px py = cell r px py
  area : ∀ (k : Nat) (r : RR), L[k]? = some r → arV r.x r.y r.w r.h = ar r
  bd : ∀ k : Nat, 0 ≤ arS (L.take k) ∧ arS (L.take k) ≤ 40000 * k ∧ 0 ≤ cnt px py (L.take k) ∧ cnt px py (L.take k) ≤ k
  fin : arS L ≤ arV x y ww h ∧ cnt px py L ≤ 1 ∧ (arS L = arV x y ww h → decide (cnt px py L = 1) = hasV x y ww h px py)
theorem parts_ok (x y ww h : Int) (zs : List Int) (ac : Bool) (n : Nat) (hn : zs.length = n) (px py : Int) : PartsOk x y ww h (partsV x y ww h zs ac) (min n 16) px py := by
  have hA := ok_clean ⟨x, y, ww, h⟩
  have hin := cut_in ac (zs.take 16) _ hA
  have hap := cut_apart ac (zs.take 16) _ hA
  have hmem : ∀ (k : Nat) (r : RR), (partsV x y ww h zs ac)[k]? = some r → Ok r ∧ Lies r (clean ⟨x, y, ww, h⟩) := fun k r hr => hin r (List.mem_of_getElem? hr)
  refine ⟨partsV_length hn ac, fun k r hr => ?_, fun j k p q hjk hq hp => ?_, fun k r hr => ?_, fun k r hr => ?_, fun k => ?_, cut_end ac px py (zs.take 16) _ hA⟩
  · obtain ⟨h1, h2⟩ := hmem k r hr
    show decide (meet (clean r) (clean ⟨x, y, ww, h⟩) = clean r) = true
    rw [clean_ok h1, meet_of_in h1 hA h2]
    exact decide_eq_true rfl
  · obtain ⟨h1, _⟩ := hmem k p hp
    obtain ⟨h2, _⟩ := hmem j q hq
    show decide (clean (meet (clean p) (clean q)) = zero) = true
    rw [clean_ok h1, clean_ok h2, clean_ok (ok_meet _ _), apart_meet h1 h2]
    · exact decide_eq_true rfl
    · refine apart_symm ?_
      have hl1 := (List.getElem?_eq_some_iff.1 hq)
      have hl2 := (List.getElem?_eq_some_iff.1 hp)
      obtain ⟨l1, e1⟩ := hl1
      obtain ⟨l2, e2⟩ := hl2
      rw [← e1, ← e2]
      exact List.pairwise_iff_getElem.1 hap j k l1 l2 hjk
  · show cell (clean r) px py = cell r px py
    rw [clean_ok (hmem k r hr).1]
  · show (clean r).w * (clean r).h = ar r
    rw [clean_ok (hmem k r hr).1]
    rfl
  · have h1 := arS_bd ((partsV x y ww h zs ac).take k) (fun p hp => (hin p (List.mem_of_mem_take hp)).1)
    have h2 := cnt_bd px py ((partsV x y ww h zs ac).take k)
    have h3 : ((partsV x y ww h zs ac).take k).length ≤ k := by rw [List.length_take]; omega
    omega

set_option maxRecDepth 100000 in
set_option maxHeartbeats 1600000 in
theorem parts_walk (x y ww h : Int) (o : Option Addr) (n cap : Nat) (zs : List Int) (ac : Bool) (px py : Int) (_ : I64 x) (_ : I64 y) (_ : I64 ww) (_ : I64 h) (_ : I64 px) (_ : I64 py) (w : World) (sz : SliceZ w o n cap zs) :
    Calls Try.prog 7 #[(.agg #[.int .i64 x, .int .i64 y, .int .i64 ww, .int .i64 h]), .slice o n cap, .bool ac, .int .i64 px, .int .i64 py] w fun e w' => e = .returned (.bool true) ∧ Below w.heap.size w w' := by
  have z1 := eqg23
  have z2 := run_eq_rr
  have z3 := run_ne_rr
  have z4 := eq4_self
  go_enter Try.func7, Try.ntmps7
  go_wp2_with fail
  have r0 := RectAt.new w x y ww h 23
  have hB := (Below.refl w.heap.size w).alloc (Nat.le_refl _) (rc x y ww h)
  generalize (w.alloc (rc x y ww h)) = W at *
  refine (alive_any _).mono ?_
  rintro e w1 ⟨rfl, hb1⟩
  have s0 : (Below w.heap.size w w1 ∧ w.heap.size < w1.heap.size ∧ w1.cell? ⟨w.heap.size, 0, none⟩ = some (.int .i64 (x)) ∧ w1.cell? ⟨w.heap.size, 1, none⟩ = some (.int .i64 (y)) ∧ w1.cell? ⟨w.heap.size, 2, none⟩ = some (.int .i64 (ww)) ∧ w1.cell? ⟨w.heap.size, 3, none⟩ = some (.int .i64 (h))) := hold1 hb1 ⟨hB, r0.lt, r0.k0, r0.k1, r0.k2, r0.k3⟩
  clear hb1 r0 hB
  have SZ := Lib.hid (sz.below s0.1 (Nat.le_refl _))
  have hzl := Lib.hid sz.len
  have hnm := Lib.hid sz.max
  clear sz
  obtain ⟨t1, t2, k0, k1, k2, k3⟩ := (id s0 : _ ∧ _)
  go_wp2_with fail
  refine (cut_v _ _ _ _ _ _ _ zs _ _ SZ.out).mono ?_
  rintro e w2 ⟨o', cap', rfl, hrow, hb2⟩
  replace s0 := hold1 hb2 s0
  clear t1 t2 k0 k1 k2 k3 hb2 SZ
  have hok := parts_ok x y ww h zs ac n hzl.out px py
  generalize partsV x y ww h zs ac = L at *
  have hmn : mn (n : Int) 16 = ((min n 16 : Nat) : Int) := by unfold mn; omega
  have hm : min n 16 ≤ 16 := by omega
  generalize min n 16 = m at *
  have HM := Lib.hid hmn; clear hmn
  have HOK := Lib.hid hok; clear hok
  have HROW := Lib.hid hrow; clear hrow
  have HS := Lib.hid s0; clear s0
  go_wp2_with fail
  go_loopg [12, 13, 26] m (fun gg s12 s13 i wr => ∃ (k : Nat) (c a : Int), k ≤ m ∧ m - k ≤ gg ∧ i = .int .i64 k ∧ s12 = .int .i64 c ∧ s13 = .int .i64 a ∧ Hid (cnt px py (L.take k) = c ∧ arS (L.take k) = a) ∧ Below w2.heap.size w2 wr)
  case atStart => exact ⟨0, 0, 0, Nat.zero_le _, by omega, rfl, rfl, rfl, Lib.hid ⟨rfl, rfl⟩, Below.refl _ _⟩
  case round =>
    obtain ⟨k, c, a, hk, hgg, rfl, rfl, rfl, hcov, hbel⟩ := hrel
    have hbd := HOK.out.bd k
    rw [hcov.out.1, hcov.out.2] at hbd
    by_cases hlt : k < m
    · obtain ⟨r, hr⟩ : ∃ r, L[k]? = some r := ⟨_, List.getElem?_eq_getElem (by rw [HOK.out.len]; exact hlt)⟩
      have HR := Lib.hid hr; clear hr
      obtain ⟨g, rfl, hg, hD⟩ : ∃ g, o' = some ⟨g, 0, none⟩ ∧ g < w2.heap.size ∧ RowL w2 g L := by
        rcases HROW.out with h0 | h0
        · exfalso
          have := HOK.out.len
          rw [h0] at this
          simp at this
          omega
        · exact h0
      have hq := (hD k r HR.out).keep (hbel.block g hg)
      have HD := Lib.hid (hD.below hbel hg); clear hD
      have s0 := hold1 hbel HS.out
      have hgr : g < wr.heap.size := Nat.lt_of_lt_of_le hg hbel.size
      have hin := HOK.out.inn k r HR.out
      have hhas := HOK.out.has k r HR.out
      have hara := HOK.out.area k r HR.out
      obtain ⟨rx, ry, rw', rh⟩ := r
      dsimp only at hin hhas hara
      have HIN := Lib.hid hin; clear hin
      have HHAS := Lib.hid hhas; clear hhas
      have HARA := Lib.hid hara; clear hara
      obtain ⟨k0, k1, k2, k3, f0, f1, f2, f3⟩ := hq
      dsimp only at k0 k1 k2 k3
      go_wp2_with fail
      have s1 : (Below w.heap.size w (wr.alloc (rc rx ry rw' rh)) ∧ w.heap.size < (wr.alloc (rc rx ry rw' rh)).heap.size ∧ wr.heap.size < (wr.alloc (rc rx ry rw' rh)).heap.size ∧ (wr.alloc (rc rx ry rw' rh)).cell? ⟨w.heap.size, 0, none⟩ = some (.int .i64 (x)) ∧ (wr.alloc (rc rx ry rw' rh)).cell? ⟨w.heap.size, 1, none⟩ = some (.int .i64 (y)) ∧ (wr.alloc (rc rx ry rw' rh)).cell? ⟨w.heap.size, 2, none⟩ = some (.int .i64 (ww)) ∧ (wr.alloc (rc rx ry rw' rh)).cell? ⟨w.heap.size, 3, none⟩ = some (.int .i64 (h)) ∧ (wr.alloc (rc rx ry rw' rh)).cell? ⟨wr.heap.size, 0, none⟩ = some (.int .i64 ((⟨rx, ry, rw', rh⟩ : RR)).x) ∧ (wr.alloc (rc rx ry rw' rh)).cell? ⟨wr.heap.size, 1, none⟩ = some (.int .i64 ((⟨rx, ry, rw', rh⟩ : RR)).y) ∧ (wr.alloc (rc rx ry rw' rh)).cell? ⟨wr.heap.size, 2, none⟩ = some (.int .i64 ((⟨rx, ry, rw', rh⟩ : RR)).w) ∧ (wr.alloc (rc rx ry rw' rh)).cell? ⟨wr.heap.size, 3, none⟩ = some (.int .i64 ((⟨rx, ry, rw', rh⟩ : RR)).h)) := by
        obtain ⟨u1, u2, u3, u4, u5, u6⟩ := hold1 ((Below.refl wr.heap.size wr).alloc (Nat.le_refl _) (rc rx ry rw' rh)) s0
        obtain ⟨v0, v1, v2, v3, v4, _, _, _, _⟩ := RectAt.new wr rx ry rw' rh 23
        exact ⟨u1, u2, v0, u3, u4, u5, u6, v1, v2, v3, v4⟩
      have hbelA := hbel.alloc hbel.size (rc rx ry rw' rh)
      have HDA := Lib.hid (HD.out.below ((Below.refl wr.heap.size wr).alloc (Nat.le_refl _) (rc rx ry rw' rh)) hgr)
      have hgA : g < (wr.alloc (rc rx ry rw' rh)).heap.size := by simp; omega
      clear s0 k0 k1 k2 k3 f0 f1 f2 f3 hbel HD hgr
      generalize (wr.alloc (rc rx ry rw' rh)) = W3 at *
      generalize wr.heap.size = B3 at *
      refine (within_v _ _ _ _ _ _ _ _ _).mono ?_
      rw [HIN.out]
      rintro e w4 ⟨rfl, hb4⟩
      replace s1 := hold2 hb4 s1
      have hbel4 := hbelA.trans (hb4.mono hbelA.size)
      have HD4 := Lib.hid (HDA.out.below hb4 hgA)
      have hg4 : g < w4.heap.size := Nat.lt_of_lt_of_le hgA hb4.size
      clear hbelA HDA hgA hb4 HIN
      go_wp2_with fail
      go_loopg [36] k (fun gh j wi => ∃ jj : Nat, jj ≤ k ∧ k - jj ≤ gh ∧ j = .int .i64 jj ∧ Below w4.heap.size w4 wi)
      case atStart => exact ⟨0, Nat.zero_le _, by omega, rfl, Below.refl _ _⟩
      case round =>
        obtain ⟨jj, hjj, hgh, rfl, hbelJ⟩ := hrel
        by_cases hjk : jj < k
        · obtain ⟨q, hq⟩ : ∃ q, L[jj]? = some q := ⟨_, List.getElem?_eq_getElem (by rw [HOK.out.len]; omega)⟩
          have HQ := Lib.hid hq; clear hq
          have hjm : jj < m := by omega
          have hno := HOK.out.no jj k _ q hjk HQ.out HR.out
          have hqd := (HD4.out jj q HQ.out).keep (hbelJ.block g hg4)
          have s2 := hold2 hbelJ s1
          have hgj : g < wr.heap.size := Nat.lt_of_lt_of_le hg4 hbelJ.size
          obtain ⟨qx, qy, qw, qh⟩ := q
          dsimp only at hno
          obtain ⟨l0, l1, l2, l3, _, _, _, _⟩ := hqd
          dsimp only at l0 l1 l2 l3
          have sP : (Below w.heap.size w wr ∧ B3 < wr.heap.size ∧ g < wr.heap.size ∧ wr.cell? ⟨B3, 0, none⟩ = some (.int .i64 (rx)) ∧ wr.cell? ⟨B3, 1, none⟩ = some (.int .i64 (ry)) ∧ wr.cell? ⟨B3, 2, none⟩ = some (.int .i64 (rw')) ∧ wr.cell? ⟨B3, 3, none⟩ = some (.int .i64 (rh)) ∧ wr.cell? ⟨g, (jj * 4), none⟩ = some (.int .i64 ((⟨qx, qy, qw, qh⟩ : RR)).x) ∧ wr.cell? ⟨g, (jj * 4) + 1, none⟩ = some (.int .i64 ((⟨qx, qy, qw, qh⟩ : RR)).y) ∧ wr.cell? ⟨g, (jj * 4) + 2, none⟩ = some (.int .i64 ((⟨qx, qy, qw, qh⟩ : RR)).w) ∧ wr.cell? ⟨g, (jj * 4) + 3, none⟩ = some (.int .i64 ((⟨qx, qy, qw, qh⟩ : RR)).h)) := ⟨s2.1, s2.2.2.1, hgj, s2.2.2.2.2.2.2.2.1, s2.2.2.2.2.2.2.2.2.1, s2.2.2.2.2.2.2.2.2.2.1, s2.2.2.2.2.2.2.2.2.2.2, l0, l1, l2, l3⟩
          replace sP := holdP (Below.refl _ _).drew sP
          have hbelD := hbelJ.drew
          clear s1 s2 l0 l1 l2 l3 hgj hbelJ
          obtain ⟨t0, t1, t2, k0, k1, k2, k3, l0, l1, l2, l3⟩ := (id sP : _ ∧ _)
          go_wp2_with fail
          go_region_held3 (fun w' => (Below w.heap.size w w' ∧ B3 < w'.heap.size ∧ g < w'.heap.size ∧ w'.cell? ⟨B3, 0, none⟩ = some (.int .i64 (rx)) ∧ w'.cell? ⟨B3, 1, none⟩ = some (.int .i64 (ry)) ∧ w'.cell? ⟨B3, 2, none⟩ = some (.int .i64 (rw')) ∧ w'.cell? ⟨B3, 3, none⟩ = some (.int .i64 (rh)) ∧ w'.cell? ⟨g, (jj * 4), none⟩ = some (.int .i64 ((⟨qx, qy, qw, qh⟩ : RR)).x) ∧ w'.cell? ⟨g, (jj * 4) + 1, none⟩ = some (.int .i64 ((⟨qx, qy, qw, qh⟩ : RR)).y) ∧ w'.cell? ⟨g, (jj * 4) + 2, none⟩ = some (.int .i64 ((⟨qx, qy, qw, qh⟩ : RR)).w) ∧ w'.cell? ⟨g, (jj * 4) + 3, none⟩ = some (.int .i64 ((⟨qx, qy, qw, qh⟩ : RR)).h)) ∧ Below w4.heap.size w4 w') (first | exact ⟨sP, hbelD⟩ | assumption | exact ⟨holdP (by assumption) (And.left (by assumption)), Below.trans (And.right (by assumption)) (Below.mono (by assumption) (Below.size (And.right (by assumption))))⟩)
            (first
              | (go_at_call 32; refine (meet_v _ _ _ _ _ _ _ _ _).mono ?_; rintro e wn ⟨rfl, hbn⟩)
              | (go_at_call 18; refine (empty_v _ _ _ _ _).mono ?_; rintro e wn ⟨rfl, hbn⟩))
          have hS3 : (Below w.heap.size w wn ∧ B3 < wn.heap.size ∧ g < wn.heap.size ∧ wn.cell? ⟨B3, 0, none⟩ = some (.int .i64 (rx)) ∧ wn.cell? ⟨B3, 1, none⟩ = some (.int .i64 (ry)) ∧ wn.cell? ⟨B3, 2, none⟩ = some (.int .i64 (rw')) ∧ wn.cell? ⟨B3, 3, none⟩ = some (.int .i64 (rh)) ∧ wn.cell? ⟨g, (jj * 4), none⟩ = some (.int .i64 ((⟨qx, qy, qw, qh⟩ : RR)).x) ∧ wn.cell? ⟨g, (jj * 4) + 1, none⟩ = some (.int .i64 ((⟨qx, qy, qw, qh⟩ : RR)).y) ∧ wn.cell? ⟨g, (jj * 4) + 2, none⟩ = some (.int .i64 ((⟨qx, qy, qw, qh⟩ : RR)).w) ∧ wn.cell? ⟨g, (jj * 4) + 3, none⟩ = some (.int .i64 ((⟨qx, qy, qw, qh⟩ : RR)).h)) ∧ Below w4.heap.size w4 wn := by assumption
          have hbelN := hS3.2
          clear hS3 sP hbelD t0 t1 t2 k0 k1 k2 k3 l0 l1 l2 l3 hbn
          go_wp2_with fail
          go_roundg (k - (jj + 1))
          case measure => omega
          case rel => exact ⟨jj + 1, by omega, Nat.le_refl _, by go_num, hbelN⟩
        · obtain rfl : jj = k := by omega
          have s2 := hold2 hbelJ s1
          have hbel5 := hbel4.trans (hbelJ.mono hbel4.size)
          clear s1 hbelJ hbel4 HD4 hjk hgh
          obtain ⟨t0, t1, t2, k0, k1, k2, k3, l0, l1, l2, l3⟩ := (id s2 : _ ∧ _)
          go_wp2_with fail
          refine (has_v _ _ _ _ _ _ _).mono ?_
          rw [HHAS.out]
          rintro e w6 ⟨rfl, hb6⟩
          have s4 := hold2 hb6 s2
          have hbel6 := hbel5.trans (hb6.mono hbel5.size)
          have hts : L.take (jj + 1) = L.take jj ++ [⟨rx, ry, rw', rh⟩] := by
            obtain ⟨h1, h2⟩ := List.getElem?_eq_some_iff.1 HR.out
            rw [List.take_succ_eq_append_getElem h1, h2]
          have hbd' := HOK.out.bd (jj + 1)
          have hcov' : cnt px py (L.take (jj + 1)) = c + b01 (cell ⟨rx, ry, rw', rh⟩ px py) ∧ arS (L.take (jj + 1)) = a + ar ⟨rx, ry, rw', rh⟩ := by
            rw [hts, arS_snoc, cnt_snoc, hcov.out.1, hcov.out.2]
            exact ⟨rfl, rfl⟩
          rw [hcov'.1, hcov'.2] at hbd'
          have hra := HARA.out
          generalize cell ⟨rx, ry, rw', rh⟩ px py = bz at *
          generalize ar ⟨rx, ry, rw', rh⟩ = ra at *
          have HC := Lib.hid hcov'
          have HRA := Lib.hid hra
          clear hcov' hts hcov hra s2 hbel5 hb6 HHAS HARA t0 t1 t2 k0 k1 k2 k3
          obtain ⟨t0, t1, t2, k0, k1, k2, k3, l0, l1, l2, l3⟩ := (id s4 : _ ∧ _)
          cases bz
          all_goals
            simp only [b01, if_true, if_false, Bool.false_eq_true, Int.add_zero] at hbd'
            go_wp2_with fail
            refine (area_v _ _ _ _ _).mono ?_
            rw [HRA.out]
            rintro e w7 ⟨rfl, hb7⟩
            have hbel7 := hbel6.trans (hb7.mono hbel6.size)
            clear t0 t1 t2 k0 k1 k2 k3 l0 l1 l2 l3 s4 hbel6 hb7
            go_wp2_with fail
            go_roundg (m - (jj + 1))
            case measure => omega
            case rel => exact ⟨jj + 1, c + b01 _, a + ra, by omega, Nat.le_refl _, by go_num, by first | (show _ = Value.int .i64 (c + 1); go_num) | (show _ = Value.int .i64 (c + 0); rw [Int.add_zero]), by go_num, Lib.hid HC.out, hbel7⟩
    · obtain rfl : k = m := by omega
      have s0 := hold1 hbel HS.out
      have hc := hcov.out
      rw [List.take_of_length_le (by rw [HOK.out.len]; exact Nat.le_refl _)] at hc
      obtain ⟨f1, f2, f3⟩ := HOK.out.fin
      rw [hc.2] at f1
      rw [hc.1] at f2
      rw [hc.1, hc.2] at f3
      clear hcov hbel hc HS
      have f1' : decide (a ≤ arV x y ww h) = true := decide_eq_true f1
      have f2' : decide (c ≤ 1) = true := decide_eq_true f2
      have hmn := HM.out
      have hkk : ((k : Int) == (k : Int)) = true := by simp
      clear f1 f2 hbd hgg hlt hk hm hnm HROW
      obtain ⟨t0, t1, k0, k1, k2, k3⟩ := (id s0 : _ ∧ _)
      by_cases g1 : a = arV x y ww h
      · have f4 := f3 g1
        have g1' : (a == arV x y ww h) = true := by simp [g1]
        have G1 := Lib.hid g1
        clear f3 g1
        have f5 : (c == 1) = hasV x y ww h px py := by rw [← f4]; rfl
        clear f4
        generalize hV : hasV x y ww h px py = bh at *
        have HV := Lib.hid hV; clear hV
        go_wp2_with (first
          | (go_at_call 19; refine (area_v _ _ _ _ _).mono ?_; rintro e wa ⟨rfl, hba⟩; have sa := hold1 hba s0; clear s0; have s0 := sa; clear sa)
          | (go_at_call 20; refine (has_v _ _ _ _ _ _ _).mono ?_; rw [HV.out]; rintro e wb ⟨rfl, hbb⟩))
        go_ret
        exact ⟨rfl, s0.1.trans (hbb.mono s0.1.size)⟩
      · have g1' : (a == arV x y ww h) = false := by simp [g1]
        go_wp2_with (first
          | (go_at_call 19; refine (area_v _ _ _ _ _).mono ?_; rintro e wa ⟨rfl, hba⟩; have sa := hold1 hba s0; clear s0; have s0 := sa; clear sa))
        go_ret
        exact ⟨rfl, s0.1⟩

set_option maxRecDepth 100000 in
theorem rectParts_lifted (os : Os) (started : os.Started) (H : Type) (enc : TypeId × Value → H) :
    ReturnsInHanded {} Try.checked os 7 .any (Rows.rectPartsSpec.pre6 enc Try.prog Try.f7 Rows.rectPartsRow.domain false) (Rows.rectPartsSpec.post enc Try.prog Try.f7 false true false false) := by
  refine returnsInHanded_of_change (C := Try.checked) own started (by kernel_rfl) Try.func7
    (ChangeSpec.witness6 (enc := enc) (C := Try.checked) false ⟨#[], #[(.agg #[.int .i64 0, .int .i64 0, .int .i64 0, .int .i64 0]), .slice none 0 0, .bool false, .int .i64 0, .int .i64 0], []⟩ 8 (by kernel_rfl) (by kernel_rfl) (by kernel_rfl) (by kernel_rfl)) ?_
  intro W base args ds gs before hval0 hW hcnd _
  have hval : ∀ (j : Nat) t v, Try.f7.params[j]? = some t → args[j]? = some v → Value.okWide Try.prog W .any base t v := hval0
  have hW' := hW
  obtain ⟨p, q, hA0, hV, rfl, hfz, hnd⟩ := hW
  have hA : DataW.TrodAll enc Try.prog W 0 (fun _ => true) true Try.f7.params.toList args.toList ds p := hA0
  obtain ⟨rfl, rfl⟩ := trodVars_none hV
  simp only [List.append_nil] at hW'
  have hlt : ∀ x ∈ p, x.block < W.heap.size := fun x hx => by simpa using hW'.lt x hx
  rw [Try.params7] at hA hval
  have hargs := fun W' (hb : Below W.heap.size W W') => args_below (enc := enc) hb _ _ _ _ (show TsOk [23, 32, 4, 3, 3] from ⟨okRect, ⟨okInts, ⟨okBool, ⟨okInt, ⟨okInt, trivial⟩⟩⟩⟩⟩) hlt hA
  obtain ⟨v0, vs0, d0, ds0, p0, q0, hargs0, rfl, rfl, h0, r0⟩ := trodAll_cons hA
  obtain ⟨v1, vs1, d1, ds1, p1, q1, rfl, rfl, rfl, h1, r1⟩ := trodAll_cons r0
  obtain ⟨v2, vs2, d2, ds2, p2, q2, rfl, rfl, rfl, h2, r2⟩ := trodAll_cons r1
  obtain ⟨v3, vs3, d3, ds3, p3, q3, rfl, rfl, rfl, h3, r3⟩ := trodAll_cons r2
  obtain ⟨v4, vs4, d4, ds4, p4, q4, rfl, rfl, rfl, h4, r4⟩ := trodAll_cons r3
  obtain ⟨rfl, rfl, rfl⟩ := trodAll_nil r4
  obtain rfl : args = #[v0, v1, v2, v3, v4] := by cases args; simp_all
  obtain ⟨x0, y0, ww0, hh0, rfl, fx0, fy0, fw0, fh0⟩ := open_rect (hval 0 23 v0 rfl rfl) h0
  obtain ⟨o1, n1, cap1, zs1, rfl, sz1⟩ := open_sliceZ (hval 1 32 v1 rfl rfl) h1
  obtain ⟨a2, rfl, rfl, rfl⟩ := open_bool Try.underlying4 (hval 2 4 v2 rfl rfl) h2
  obtain ⟨a3, rfl, rfl, rfl, w3⟩ := open_int Try.underlying3 (hval 3 3 v3 rfl rfl) h3
  obtain ⟨a4, rfl, rfl, rfl, w4⟩ := open_int Try.underlying3 (hval 4 3 v4 rfl rfl) h4
  clear hA0 hval0
  refine (parts_walk x0 y0 ww0 hh0 o1 n1 cap1 zs1 a2 a3 a4 fx0 fy0 fw0 fh0 (i64_of_wf w3) (i64_of_wf w4) W sz1).mono fun e W' ⟨he, hb⟩ => ?_
  subst he
  exact ⟨_, rfl, _, _, _, [], _, [], hW', trodAll_mk1 (shut_bool Try.underlying4 _), hargs W' hb, rfl, hb.frame _, fun h => by cases h⟩

theorem rectParts_holds : Rows.RectPartsSaid :=
  OpenClaim.holds_of_wide 7 Try.f7 rfl rfl rfl rfl rfl rfl rfl ⟨rfl, rfl, rfl, rfl, rfl⟩ rfl rfl rfl rfl rfl (by kernel_rfl) Try.func7 (by kernel_rfl)
    (of_decide_eq_true (by kernel_rfl)) (by unfold Func.isWrapper; first | (rw [if_pos (by decide +kernel)]; kernel_rfl) | (rw [if_neg (by decide +kernel)]; exact ⟨rfl, rfl⟩))
    (fun os started H enc _ => rectParts_lifted os started H enc)

end Go.Proofs.Ytpmggljdcbbdfaa
