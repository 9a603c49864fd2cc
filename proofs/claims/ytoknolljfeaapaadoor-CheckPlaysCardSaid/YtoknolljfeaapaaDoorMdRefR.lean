/- The document's Right. -/
import Derived.Test.YtoknolljfeaapaaDoorMdRefH
namespace Go.Proofs.YtoknolljfeaapaaDoor
open Go.RowKit
theorem all_snoc {α : Type} (p : α → Bool) (L : List α) (k : Nat) (h : k < L.length) (h1 : (L.take k).all p = true) (h2 : p L[k] = true) : (L.take (k + 1)).all p = true := by
  rw [List.take_add_one, List.getElem?_eq_getElem h, Option.toList_some, List.all_append, h1]
  simp [h2]
theorem all_not {α : Type} (p : α → Bool) (L : List α) (k : Nat) (h : k < L.length) (h2 : p L[k] = false) : L.all p = false := by
  cases hr : L.all p with
  | false => rfl
  | true =>
    have := List.all_eq_true.1 hr L[k] (List.getElem_mem h)
    rw [h2] at this
    cases this
theorem md.right_no {mem : Int} {d : List UInt8} {fs : List md.Fn} (h : ¬ (0 ≤ mem ∧ mem ≤ 1024 ∧ (d.length : Int) ≤ mem ∧ 1 ≤ fs.length ∧ fs.length ≤ 16 ∧ fs.all md.rightFn = true)) : md.right ⟨mem, d, fs⟩ = false := by
  cases hr : md.right ⟨mem, d, fs⟩ with
  | false => rfl
  | true =>
    exfalso
    apply h
    unfold md.right at hr
    simp only [Bool.and_eq_true, decide_eq_true_eq] at hr
    obtain ⟨⟨⟨⟨a, b⟩, c⟩, d, e⟩, f⟩ := hr
    exact ⟨a, b, c, d, e, f⟩
theorem md.right_yes {mem : Int} {d : List UInt8} {fs : List md.Fn} (h : 0 ≤ mem ∧ mem ≤ 1024 ∧ (d.length : Int) ≤ mem ∧ 1 ≤ fs.length ∧ fs.length ≤ 16) (hf : fs.all md.rightFn = true) : md.right ⟨mem, d, fs⟩ = true := by
  obtain ⟨a, b, c, d, e⟩ := h
  unfold md.right
  simp only [Bool.and_eq_true, decide_eq_true_eq]
  exact ⟨⟨⟨⟨a, b⟩, c⟩, d, e⟩, hf⟩
theorem md.fn_no {p r l : Int} {c : List md.Ins} (h : ¬ (0 ≤ p ∧ p ≤ 8 ∧ 0 ≤ r ∧ r ≤ 1 ∧ 0 ≤ l ∧ p + l ≤ 16 ∧ 1 ≤ c.length ∧ c.length ≤ 400 ∧ c.all md.rightIns = true)) : md.rightFn ⟨p, r, l, c⟩ = false := by
  cases hr : md.rightFn ⟨p, r, l, c⟩ with
  | false => rfl
  | true =>
    exfalso
    apply h
    unfold md.rightFn at hr
    simp only [Bool.and_eq_true, decide_eq_true_eq] at hr
    obtain ⟨⟨⟨⟨⟨a, b⟩, c, d⟩, e, f⟩, g, i⟩, j⟩ := hr
    exact ⟨a, b, c, d, e, by omega, g, i, j⟩
theorem md.fn_yes {p r l : Int} {c : List md.Ins} (h : 0 ≤ p ∧ p ≤ 8 ∧ 0 ≤ r ∧ r ≤ 1 ∧ 0 ≤ l ∧ p + l ≤ 16 ∧ 1 ≤ c.length ∧ c.length ≤ 400) (hf : c.all md.rightIns = true) : md.rightFn ⟨p, r, l, c⟩ = true := by
  obtain ⟨a, b, c, d, e, f, g, i⟩ := h
  unfold md.rightFn
  simp only [Bool.and_eq_true, decide_eq_true_eq]
  exact ⟨⟨⟨⟨⟨a, b⟩, c, d⟩, e, by omega⟩, g, i⟩, hf⟩
set_option maxRecDepth 100000 in
set_option maxHeartbeats 3200000 in
theorem rright_any (D : Nat → Prop) (m : md.Mod) (VD VF : Value) (w : World) (hs : ModIn w D VD VF m) : Calls Tryd.prog 53 #[modV m VD VF] w fun e w' => e = .returned (.bool (md.right m)) ∧ Below w.heap.size w w' := by
  obtain ⟨od, cd, of, cf, rfl, rfl, hd1, hd2, hf1, hf2⟩ := hs.slices
  obtain ⟨mem, d, fs⟩ := m
  have HNO : Hid (¬ (0 ≤ mem ∧ mem ≤ 1024 ∧ (d.length : Int) ≤ mem ∧ 1 ≤ fs.length ∧ fs.length ≤ 16) → false = md.right ⟨mem, d, fs⟩) := Lib.hid (fun h => (md.right_no (fun ⟨a, b, c, d, e, _⟩ => h ⟨a, b, c, d, e⟩)).symm)
  have HYES : Hid ((0 ≤ mem ∧ mem ≤ 1024 ∧ (d.length : Int) ≤ mem ∧ 1 ≤ fs.length ∧ fs.length ≤ 16) → fs.all md.rightFn = true → true = md.right ⟨mem, d, fs⟩) := Lib.hid (fun h h2 => (md.right_yes h h2).symm)
  have HBAD : Hid (∀ k (h : k < fs.length), md.rightFn fs[k] = false → false = md.right ⟨mem, d, fs⟩) := Lib.hid (fun k h h2 => (md.right_no (fun ⟨_, _, _, _, _, h3⟩ => by rw [all_not _ _ k h h2] at h3; cases h3)).symm)
  dsimp only at hd1 hf1
  obtain ⟨n, hn⟩ : ∃ n, fs.length = n := ⟨_, rfl⟩
  obtain ⟨nd, hnd⟩ : ∃ n, d.length = n := ⟨_, rfl⟩
  have HN := Lib.hid hn
  have HFS := Lib.hid hs.fns
  dsimp only
  rw [hn] at hf1 HNO HYES
  rw [hnd] at hd1 HNO HYES
  rw [hn, hnd]
  have HX := Lib.hid (And.intro (heap_alloc_new w (.cells #[.int .i64 mem, .slice od nd cd, .slice of n cf] 25)) (below_one w (.cells #[.int .i64 mem, .slice od nd cd, .slice of n cf] 25)))
  clear hs hn hnd
  generalize md.right ⟨mem, d, fs⟩ = R at *
  go_enter Tryd.func53, Tryd.ntmps53
  go_upto_region 1 with fail
  generalize w.alloc (.cells #[.int .i64 mem, .slice od nd cd, .slice of n cf] 25) = w1 at *
  have x0 : w1.cell? ⟨w.heap.size, 0, none⟩ = some (.int .i64 mem) := (cell_of_heap HX.out.1).trans rfl
  have x1 : w1.cell? ⟨w.heap.size, 1, none⟩ = some (.slice od nd cd) := (cell_of_heap HX.out.1).trans rfl
  have x2 : w1.cell? ⟨w.heap.size, 2, none⟩ = some (.slice of n cf) := (cell_of_heap HX.out.1).trans rfl
  have hlx := heap_lt HX.out.1
  by_cases h1 : mem < 0
  case pos =>
    have HZ := Lib.hid (HNO.out (by omega))
    have HB := Lib.hid HX.out.2
    clear HNO HYES HBAD HFS HX HN
    go_wp2_with fail
    go_ret
    exact ⟨ret_bool HZ.out, HB.out⟩
  by_cases h2 : 1024 < mem
  case pos =>
    have HZ := Lib.hid (HNO.out (by omega))
    have HB := Lib.hid HX.out.2
    clear HNO HYES HBAD HFS HX HN
    go_wp2_with fail
    go_ret
    exact ⟨ret_bool HZ.out, HB.out⟩
  by_cases h3 : mem < (nd : Int)
  case pos =>
    have HZ := Lib.hid (HNO.out (by omega))
    have HB := Lib.hid HX.out.2
    clear HNO HYES HBAD HFS HX HN
    go_wp2_with fail
    go_ret
    exact ⟨ret_bool HZ.out, HB.out⟩
  by_cases h4 : n = 0
  case pos =>
    have HZ := Lib.hid (HNO.out (by omega))
    have HB := Lib.hid HX.out.2
    clear HNO HYES HBAD HFS HX HN
    have e0 : ((n : Int) == 0) = true := by simp; omega
    go_wp2_with fail
    go_ret
    exact ⟨ret_bool HZ.out, HB.out⟩
  have e0 : ((n : Int) == 0) = false := by simp; omega
  by_cases h5 : 16 < n
  case pos =>
    have HZ := Lib.hid (HNO.out (by omega))
    have HB := Lib.hid HX.out.2
    clear HNO HYES HBAD HFS HX HN
    have h5i : (16 : Int) < (n : Int) := by omega
    go_wp2_with fail
    go_ret
    exact ⟨ret_bool HZ.out, HB.out⟩
  case neg =>
    have h5i : (n : Int) ≤ 16 := by omega
    have HALL := Lib.hid (HYES.out (by omega))
    clear HNO HYES
    go_upto_region 4 with fail
    clear x0 x1 x2 hlx e0
    go_loopg [3] n (fun gg s3 wr => ∃ k : Nat, s3 = .int .i64 k ∧ k ≤ n ∧ n - k ≤ gg ∧ Hid ((fs.take k).all md.rightFn = true ∧ wr.heap[w.heap.size]? = some (.cells #[.int .i64 mem, .slice od nd cd, .slice of n cf] 25) ∧ Below w.heap.size w wr))
    case atStart => exact ⟨0, rfl, Nat.zero_le _, by omega, Lib.hid ⟨rfl, HX.out.1, HX.out.2⟩⟩
    case round =>
      clear HX
      obtain ⟨k, rfl, hk, hgg, HA⟩ := hrel
      have x2 : wr.cell? ⟨w.heap.size, 2, none⟩ = some (.slice of n cf) := (cell_of_heap HA.out.2.1).trans rfl
      have hlx := heap_lt HA.out.2.1
      by_cases hlt : k < n
      case neg =>
        obtain rfl : k = n := by omega
        have HZ := Lib.hid (And.intro (HALL.out (by have := HA.out.1; rwa [List.take_of_length_le (by rw [HN.out]; exact Nat.le_refl _)] at this)) HA.out.2.2)
        clear HA
        go_wp2_with fail
        go_ret
        exact ⟨ret_bool HZ.out.1, HZ.out.2⟩
      case pos =>
        have hki : (k : Int) < (n : Int) := by omega
        have hkx : k < fs.length := by rw [HN.out]; exact hlt
        obtain ⟨b, off, oc, cc, rfl, -, hb, k0, k1, k2, k3, hi⟩ := FnsIn.cell (HFS.out.below HA.out.2.2) k hkx
        have hst := all_snoc md.rightFn fs k hkx HA.out.1
        have hbd := HBAD.out k hkx
        generalize fs[k] = f at *
        obtain ⟨p, r, l, c⟩ := f
        dsimp only at k0 k1 k2 k3 hi
        have hcc := (RowIn.lens hi).2
        have HNF : Hid (¬ (0 ≤ p ∧ p ≤ 8 ∧ 0 ≤ r ∧ r ≤ 1 ∧ 0 ≤ l ∧ p + l ≤ 16 ∧ 1 ≤ c.length ∧ c.length ≤ 400) → false = R) := Lib.hid (fun h => hbd (md.fn_no (fun ⟨a1, a2, a3, a4, a5, a6, a7, a8, _⟩ => h ⟨a1, a2, a3, a4, a5, a6, a7, a8⟩)))
        have HNI : Hid (∀ j (h : j < c.length), md.rightIns c[j] = false → false = R) := Lib.hid (fun j h h2 => hbd (md.fn_no (fun ⟨_, _, _, _, _, _, _, _, h3⟩ => by rw [all_not _ _ j h h2] at h3; cases h3)))
        have HYF : Hid ((0 ≤ p ∧ p ≤ 8 ∧ 0 ≤ r ∧ r ≤ 1 ∧ 0 ≤ l ∧ p + l ≤ 16 ∧ 1 ≤ c.length ∧ c.length ≤ 400) → c.all md.rightIns = true → (fs.take (k + 1)).all md.rightFn = true) := Lib.hid (fun h h2 => hst (md.fn_yes h h2))
        obtain ⟨nc, hnc⟩ : ∃ nc, c.length = nc := ⟨_, rfl⟩
        have HNC := Lib.hid hnc
        rw [hnc] at k3 hcc HNF HYF
        have HF := Lib.hid (And.intro (heap_alloc_new wr (.cells #[.int .i64 p, .int .i64 r, .int .i64 l, .slice oc nc cc] 72)) (below_one wr (.cells #[.int .i64 p, .int .i64 r, .int .i64 l, .slice oc nc cc] 72)))
        have HIN := Lib.hid hi
        clear hst hbd hi hnc
        go_upto_region 7 with fail
        have H7 := Lib.hid (And.intro HF.out.1 (And.intro ((HF.out.2.block _ hlx).trans HA.out.2.1) (And.intro (RowIn.below HIN.out HF.out.2) (HA.out.2.2.trans (HF.out.2.mono HA.out.2.2.size)))))
        clear HF HIN HA x2 k0 k1 k2 k3
        generalize wr.alloc (.cells #[.int .i64 p, .int .i64 r, .int .i64 l, .slice oc nc cc] 72) = w7 at *
        generalize wr.heap.size = g7 at *
        have y0 : w7.cell? ⟨g7, 0, none⟩ = some (.int .i64 p) := (cell_of_heap H7.out.1).trans rfl
        have y1 : w7.cell? ⟨g7, 1, none⟩ = some (.int .i64 r) := (cell_of_heap H7.out.1).trans rfl
        have y2 : w7.cell? ⟨g7, 2, none⟩ = some (.int .i64 l) := (cell_of_heap H7.out.1).trans rfl
        have y3 : w7.cell? ⟨g7, 3, none⟩ = some (.slice oc nc cc) := (cell_of_heap H7.out.1).trans rfl
        have hly := heap_lt H7.out.1
        by_cases f1 : p < 0
        case pos =>
          have HZ := Lib.hid (And.intro (HNF.out (by omega)) H7.out.2.2.2)
          clear HNF HNI HYF H7 HBAD HALL HNC HN HFS
          go_wp2_with fail
          go_ret
          exact ⟨ret_bool HZ.out.1, HZ.out.2⟩
        by_cases f2 : 8 < p
        case pos =>
          have HZ := Lib.hid (And.intro (HNF.out (by omega)) H7.out.2.2.2)
          clear HNF HNI HYF H7 HBAD HALL HNC HN HFS
          go_wp2_with fail
          go_ret
          exact ⟨ret_bool HZ.out.1, HZ.out.2⟩
        by_cases f3 : r < 0
        case pos =>
          have HZ := Lib.hid (And.intro (HNF.out (by omega)) H7.out.2.2.2)
          clear HNF HNI HYF H7 HBAD HALL HNC HN HFS
          go_wp2_with fail
          go_ret
          exact ⟨ret_bool HZ.out.1, HZ.out.2⟩
        by_cases f4 : 1 < r
        case pos =>
          have HZ := Lib.hid (And.intro (HNF.out (by omega)) H7.out.2.2.2)
          clear HNF HNI HYF H7 HBAD HALL HNC HN HFS
          go_wp2_with fail
          go_ret
          exact ⟨ret_bool HZ.out.1, HZ.out.2⟩
        by_cases f5 : l < 0
        case pos =>
          have HZ := Lib.hid (And.intro (HNF.out (by omega)) H7.out.2.2.2)
          clear HNF HNI HYF H7 HBAD HALL HNC HN HFS
          go_wp2_with fail
          go_ret
          exact ⟨ret_bool HZ.out.1, HZ.out.2⟩
        by_cases f6 : 16 < l
        case pos =>
          have HZ := Lib.hid (And.intro (HNF.out (by omega)) H7.out.2.2.2)
          clear HNF HNI HYF H7 HBAD HALL HNC HN HFS
          go_wp2_with fail
          go_ret
          exact ⟨ret_bool HZ.out.1, HZ.out.2⟩
        by_cases f7 : 16 < p + l
        case pos =>
          have HZ := Lib.hid (And.intro (HNF.out (by omega)) H7.out.2.2.2)
          clear HNF HNI HYF H7 HBAD HALL HNC HN HFS
          go_wp2_with fail
          go_ret
          exact ⟨ret_bool HZ.out.1, HZ.out.2⟩
        by_cases f8 : nc = 0
        case pos =>
          have HZ := Lib.hid (And.intro (HNF.out (by omega)) H7.out.2.2.2)
          clear HNF HNI HYF H7 HBAD HALL HNC HN HFS
          have e0 : ((nc : Int) == 0) = true := by simp; omega
          go_wp2_with fail
          go_ret
          exact ⟨ret_bool HZ.out.1, HZ.out.2⟩
        have e0 : ((nc : Int) == 0) = false := by simp; omega
        by_cases f9 : 400 < nc
        case pos =>
          have HZ := Lib.hid (And.intro (HNF.out (by omega)) H7.out.2.2.2)
          clear HNF HNI HYF H7 HBAD HALL HNC HN HFS
          have h9i : (400 : Int) < (nc : Int) := by omega
          go_wp2_with fail
          go_ret
          exact ⟨ret_bool HZ.out.1, HZ.out.2⟩
        case neg =>
          have h9i : (nc : Int) ≤ 400 := by omega
          have HYY := Lib.hid (HYF.out (by omega))
          clear HNF HYF
          go_upto_region 10 with fail
          clear y0 y1 y2 y3 hly e0 hlx
          go_loopg [5] nc (fun gg s5 wr => ∃ j : Nat, s5 = .int .i64 j ∧ j ≤ nc ∧ nc - j ≤ gg ∧ Hid ((c.take j).all md.rightIns = true ∧ wr.heap[g7]? = some (.cells #[.int .i64 p, .int .i64 r, .int .i64 l, .slice oc nc cc] 72) ∧ wr.heap[w.heap.size]? = some (.cells #[.int .i64 mem, .slice od nd cd, .slice (some ⟨b, off, none⟩) n cf] 25) ∧ InsIn wr D (.slice oc c.length cc) c ∧ Below w.heap.size w wr))
          case atStart => exact ⟨0, rfl, Nat.zero_le _, by omega, Lib.hid ⟨rfl, H7.out.1, H7.out.2.1, by have := H7.out.2.2.1; exact this, H7.out.2.2.2⟩⟩
          case round =>
            clear H7
            obtain ⟨j, rfl, hj, hgj, HB⟩ := hrel
            have y3 : wr.cell? ⟨g7, 3, none⟩ = some (.slice oc nc cc) := (cell_of_heap HB.out.2.1).trans rfl
            have hly := heap_lt HB.out.2.1
            by_cases hjlt : j < nc
            case neg =>
              obtain rfl : j = nc := by omega
              have HZ := Lib.hid (And.intro (HYY.out (by have := HB.out.1; rwa [List.take_of_length_le (by rw [HNC.out]; exact Nat.le_refl _)] at this)) HB.out.2.2)
              clear HB
              go_wp2_with fail
              go_roundg (n - (k + 1))
              case measure => omega
              case rel => exact ⟨k + 1, by go_num, by omega, Nat.le_refl _, Lib.hid ⟨HZ.out.1, HZ.out.2.1, HZ.out.2.2.2⟩⟩
            case pos =>
              have hji : (j : Int) < (nc : Int) := by omega
              have hjx : j < c.length := by rw [HNC.out]; exact hjlt
              obtain ⟨b2, off2, rfl, -, hb2, q0, q1⟩ := InsIn.cell HB.out.2.2.2.1 j hjx
              have hst := all_snoc md.rightIns c j hjx HB.out.1
              have hbd := HNI.out j hjx
              generalize c[j] = i at *
              obtain ⟨op, nn⟩ := i
              dsimp only at q0 q1
              have HST := Lib.hid hst
              have HBD := Lib.hid hbd
              have HRI : Hid (md.rightIns ⟨op, nn⟩ = (decide (0 ≤ op ∧ op ≤ 29) && (decide (nn = 0) || md.has op))) := Lib.hid rfl
              have HH := Lib.hid (fun W => rhas_any op W)
              have HF := Lib.hid (And.intro (heap_alloc_new wr (.cells #[.int .i64 op, .int .i64 nn] 59)) (below_one wr (.cells #[.int .i64 op, .int .i64 nn] 59)))
              clear hst hbd
              go_upto_region 13 with fail
              have H8 := Lib.hid (And.intro HF.out.1 (And.intro ((HF.out.2.block _ hly).trans HB.out.2.1) (And.intro ((HF.out.2.block _ (heap_lt HB.out.2.2.1)).trans HB.out.2.2.1) (And.intro (RowIn.below HB.out.2.2.2.1 HF.out.2) (HB.out.2.2.2.2.trans (HF.out.2.mono HB.out.2.2.2.2.size))))))
              clear HF HB q0 q1 y3 hly
              generalize wr.alloc (.cells #[.int .i64 op, .int .i64 nn] 59) = w8 at *
              generalize wr.heap.size = g8 at *
              have z0 : w8.cell? ⟨g8, 0, none⟩ = some (.int .i64 op) := (cell_of_heap H8.out.1).trans rfl
              have z1 : w8.cell? ⟨g8, 1, none⟩ = some (.int .i64 nn) := (cell_of_heap H8.out.1).trans rfl
              have hlz := heap_lt H8.out.1
              generalize md.rightIns ⟨op, nn⟩ = ri at *
              generalize md.has op = hh at *
              have hci : (op < 0 ∨ (0 ≤ op ∧ 29 < op)) ∨ (0 ≤ op ∧ op ≤ 29) := by omega
              rcases hci with hbad | ⟨o1, o2⟩
              · have HZ := Lib.hid (And.intro (HBD.out (by rw [HRI.out, decide_eq_false (by omega)]; rfl)) H8.out.2.2.2.2)
                clear HBD HST HRI HH H8 HYY HNI HBAD HALL
                rcases hbad with o1 | ⟨o1, o2⟩
                all_goals
                  go_wp2_with fail
                  go_ret
                  exact ⟨ret_bool HZ.out.1, HZ.out.2⟩
              · rw [decide_eq_true (And.intro o1 o2)] at HRI
                cases hh with
                | true =>
                  have HF := Lib.hid (And.intro (HST.out (by rw [HRI.out]; simp)) H8.out.2)
                  clear HBD HST HRI H8
                  go_wp2_with fail
                  refine (HH.out _).mono ?_
                  rintro e w' ⟨rfl, hw⟩
                  replace hw := hw.symm
                  subst hw
                  go_wp2_with fail
                  go_roundg (nc - (j + 1))
                  case measure => omega
                  case rel => exact ⟨j + 1, by go_num, by omega, Nat.le_refl _, HF⟩
                | false =>
                  by_cases h0 : nn = 0
                  · have HF := Lib.hid (And.intro (HST.out (by rw [HRI.out, decide_eq_true h0]; rfl)) H8.out.2)
                    subst h0
                    clear HBD HST HRI H8
                    go_wp2_with fail
                    refine (HH.out _).mono ?_
                    rintro e w' ⟨rfl, hw⟩
                    replace hw := hw.symm
                    subst hw
                    go_wp2_with fail
                    go_roundg (nc - (j + 1))
                    case measure => omega
                    case rel => exact ⟨j + 1, by go_num, by omega, Nat.le_refl _, HF⟩
                  · have HZ := Lib.hid (And.intro (HBD.out (by rw [HRI.out, decide_eq_false h0]; rfl)) H8.out.2.2.2.2)
                    have e1 : (nn != 0) = true := by simpa using h0
                    clear HBD HST HRI H8 h0
                    go_wp2_with fail
                    refine (HH.out _).mono ?_
                    rintro e w' ⟨rfl, hw⟩
                    replace hw := hw.symm
                    subst hw
                    go_wp2_with fail
                    go_ret
                    exact ⟨ret_bool HZ.out.1, HZ.out.2⟩
end Go.Proofs.YtoknolljfeaapaaDoor
