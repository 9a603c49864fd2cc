/- The document's Same: of bytes, of modules. -/
import Derived.Test.YtibpbnffennmeaaMdMem
import Derived.Laws.StructEq
namespace Go.Proofs.Ytibpbnffennmeaa
open Go.RowKit
theorem take_step {α : Type} {xs ys : List α} {k : Nat} (h : xs.take k = ys.take k) (hx : k < xs.length) (hy : k < ys.length) (e : xs[k] = ys[k]) : xs.take (k + 1) = ys.take (k + 1) := by
  rw [List.take_add_one, List.take_add_one, h, List.getElem?_eq_getElem hx, List.getElem?_eq_getElem hy, e]
theorem take_all {α : Type} {xs ys : List α} {n : Nat} (hx : xs.length = n) (hy : ys.length = n) (h : xs.take n = ys.take n) : xs = ys := by
  rwa [List.take_of_length_le (by omega), List.take_of_length_le (by omega)] at h
set_option maxRecDepth 100000 in
set_option maxHeartbeats 1600000 in
theorem sameBytes_any (D D' : Nat → Prop) (V V' : Value) (xs ys : List UInt8) (w : World) (hx : BsIn w D V xs) (hy : BsIn w D' V' ys) :
    Calls Try.prog 14 #[V, V'] w fun e w' => e = .returned (.bool (decide (xs = ys))) ∧ Below w.heap.size w w' := by
  obtain ⟨o, cap, rfl, hle, hm, -⟩ := id hx
  obtain ⟨o', cap', rfl, hle', hm', -⟩ := id hy
  have HX := Lib.hid hx
  have HY := Lib.hid hy
  by_cases hn : xs.length = ys.length
  · clear hx hy
    rw [← hn] at hle'
    obtain ⟨n, hn0⟩ : ∃ n, xs.length = n := ⟨_, rfl⟩
    have HNX := Lib.hid hn0
    have HNY := Lib.hid (hn.symm.trans hn0)
    rw [← hn, hn0]
    rw [hn0] at hle hle'
    clear hn hn0
    go_enter Try.func14, Try.ntmps14
    go_wp2_with fail
    go_loopg [5] n (fun gg s5 wr => ∃ k : Nat, s5 = .int .i64 k ∧ k ≤ n ∧ n - k ≤ gg ∧ Hid (xs.take k = ys.take k ∧ Below w.heap.size w wr))
    case atStart => exact ⟨0, rfl, Nat.zero_le _, by omega, Lib.hid ⟨rfl, Below.refl _ _⟩⟩
    case round =>
      obtain ⟨k, rfl, hk, hgg, HA⟩ := hrel
      by_cases hlt : k < n
      · have hkx : k < xs.length := by rw [HNX.out]; exact hlt
        have hky : k < ys.length := by rw [HNY.out]; exact hlt
        obtain ⟨b, off, rfl, hb, k0⟩ := BsIn.cell (RowIn.below HX.out HA.out.2) k hkx
        obtain ⟨b', off', rfl, hb', k0'⟩ := BsIn.cell (RowIn.below HY.out HA.out.2) k hky
        have hst := fun h => take_step (k := k) HA.out.1 hkx hky h
        have hne : xs[k] ≠ ys[k] → decide (xs = ys) = false := fun h => decide_eq_false (fun e => h (by simp only [e]))
        generalize xs[k] = x at *
        generalize ys[k] = y at *
        have HS := Lib.hid hst
        have HN := Lib.hid hne
        clear hst hne
        have hki : (k : Int) < (n : Int) := by omega
        by_cases e : x = y
        · have HSS := Lib.hid (And.intro (HS.out e) HA.out.2)
          have e2 : ((x.toNat : Int) != (y.toNat : Int)) = false := by rw [e]; simp
          have e1 : ((x.toNat : Int) == (y.toNat : Int)) = true := by rw [e]; simp
          clear e
          go_wp2_with fail
          go_quiet (fail)
          go_wp2_with fail
          go_roundg (n - (k + 1))
          case measure => omega
          case rel => exact ⟨k + 1, by go_num, by omega, Nat.le_refl _, Lib.hid ⟨HSS.out.1, below_dN HSS.out.2 _⟩⟩
        · have HNN := Lib.hid (HN.out e)
          have hxy : x.toNat ≠ y.toNat := fun h => e (UInt8.toNat_inj.1 h)
          have e2 : ((x.toNat : Int) != (y.toNat : Int)) = true := by simp; omega
          have e1 : ((x.toNat : Int) == (y.toNat : Int)) = false := by simp; omega
          clear e hxy
          go_wp2_with fail
          go_quiet (fail)
          go_wp2_with fail
          go_ret
          exact ⟨ret_bool HNN.out.symm, below_dN HA.out.2 _⟩
      · obtain rfl : k = n := by omega
        have HD := Lib.hid (show decide (xs = ys) = true from decide_eq_true (take_all HNX.out HNY.out HA.out.1))
        go_wp2_with fail
        go_ret
        exact ⟨ret_bool HD.out.symm, HA.out.2⟩
  · have HD := Lib.hid (show decide (xs = ys) = false from decide_eq_false (fun e => hn (by rw [e])))
    have hi : ((xs.length : Int) != (ys.length : Int)) = true := by simp; omega
    have hi2 : ((xs.length : Int) == (ys.length : Int)) = false := by simp; omega
    clear hx hy
    generalize xs.length = n at *
    generalize ys.length = m at *
    go_enter Try.func14, Try.ntmps14
    go_wp2_with fail
    go_ret
    exact ⟨ret_bool HD.out.symm, Below.refl _ _⟩
abbrev modO' (m : md.Mod) (VD VF : Value) : Obj := .cells #[.int .i64 m.mem, VD, VF] 26
abbrev fnO' (f : md.Fn) (VC : Value) : Obj := .cells #[.int .i64 f.params, .int .i64 f.results, .int .i64 f.locals, VC] 40
theorem hSIns : Try.prog.underlying 37 = some (.struct (Try.prog.fieldsOf 37)) := by kernel_rfl
theorem hpIns : Try.prog.stoodInHeld 37 = false := by kernel_rfl
theorem run_ne_ins (op n op' n' : Int) (b : Bool) (hb : b = !decide (op = op' ∧ n = n')) (w : World) :
    (binOp .neq 37 (.agg #[.int .i64 op, .int .i64 n]) (.agg #[.int .i64 op', .int .i64 n'])).run Try.prog w = .ok (.bool b) w := by
  subst hb
  have u3 := Try.underlying3
  have a3 := Try.isAgg3
  have z3 := Try.sizeOf3
  have u4 := Try.underlying2
  have a4 := Try.isAgg2
  have z4 := Try.sizeOf2
  rw [run_neq_struct, show (10000 : Nat) = 9999 + 1 from rfl, run_equalIn_agg w 9999 37 _ _ hSIns hpIns]
  simp only [Program.fieldsOf, Try.underlying37]
  go_simp
  by_cases h1 : op = op' <;> by_cases h2 : n = n' <;> simp [h1, h2]
/-- two functions' boxes, side by side -/
structure TwoF (w : World) (D D' : Nat → Prop) (gx gy : Nat) (f g : md.Fn) (oc : Option Addr) (cc : Nat) (od : Option Addr) (cd : Nat) : Prop where
  x : w.heap[gx]? = some (fnO' f (.slice oc f.code.length cc))
  y : w.heap[gy]? = some (fnO' g (.slice od g.code.length cd))
  cx : InsIn w D (.slice oc f.code.length cc) f.code
  cy : InsIn w D' (.slice od g.code.length cd) g.code
theorem TwoF.below {w w' : World} {D D' : Nat → Prop} {gx gy : Nat} {f g : md.Fn} {oc : Option Addr} {cc : Nat} {od : Option Addr} {cd : Nat} (h : TwoF w D D' gx gy f g oc cc od cd) (hb : Below w.heap.size w w') : TwoF w' D D' gx gy f g oc cc od cd :=
  ⟨(hb.block _ (heap_lt h.x)).trans h.x, (hb.block _ (heap_lt h.y)).trans h.y, RowIn.below h.cx hb, RowIn.below h.cy hb⟩
theorem two_new (w : World) (a b : Obj) : ((w.alloc a).alloc b).heap[w.heap.size]? = some a ∧ ((w.alloc a).alloc b).heap[w.heap.size + 1]? = some b ∧ Below w.heap.size w ((w.alloc a).alloc b) := by
  have hb1 := below_one w a
  have hb2 := below_one (w.alloc a) b
  have hn := heap_alloc_new (w.alloc a) b
  rw [World.size_alloc] at hn
  exact ⟨(hb2.block _ (by simp)).trans (heap_alloc_new w _), hn, hb1.trans (hb2.mono (by simp))⟩
theorem below_drew {B : Nat} {a w : World} (h : Below B a w) : Below B a w.drew := ⟨h.os, h.tape, h.output, h.size, h.block⟩
/-- what Same answers -/
def SameAns (w w' : World) (m m' : md.Mod) (e : Ending) : Prop := (∃ r, e = .returned (.bool r) ∧ (r = true ↔ m = m')) ∧ Below w.heap.size w w'
set_option maxRecDepth 100000 in
set_option maxHeartbeats 6400000 in
theorem same_any (D D' : Nat → Prop) (m m' : md.Mod) (VD VF VD' VF' : Value) (w : World) (h : ModIn w D VD VF m) (h' : ModIn w D' VD' VF' m') :
    Calls Try.prog 7 #[modV m VD VF, modV m' VD' VF'] w fun e w' => SameAns w w' m m' e := by
  obtain ⟨od, cd, of, cf, rfl, rfl, hd1, hd2, hf1, hf2⟩ := h.slices
  obtain ⟨od', cd', of', cf', rfl, rfl, hd1', hd2', hf1', hf2'⟩ := h'.slices
  obtain ⟨mem, d, fs⟩ := m
  obtain ⟨mem', d', fs'⟩ := m'
  have hx := two_new w (modO' ⟨mem, d, fs⟩ (.slice od d.length cd) (.slice of fs.length cf)) (modO' ⟨mem', d', fs'⟩ (.slice od' d'.length cd') (.slice of' fs'.length cf'))
  have HM := Lib.hid (And.intro (h.below hx.2.2) (h'.below hx.2.2))
  have HX := Lib.hid hx
  have HS := Lib.hid (sameBytes_any D D' _ _ d d' _ HM.out.1.data HM.out.2.data)
  have HNO : Hid (∀ r : Bool, r = false → mem ≠ mem' ∨ d ≠ d' ∨ fs ≠ fs' → (r = true ↔ (⟨mem, d, fs⟩ : md.Mod) = ⟨mem', d', fs'⟩)) := Lib.hid (fun r hr ho => by
    subst hr
    constructor
    · intro h; cases h
    · intro h
      injection h with h1 h2 h3
      rcases ho with ho | ho | ho
      · exact absurd h1 ho
      · exact absurd h2 ho
      · exact absurd h3 ho)
  clear h h' hx
  dsimp only at hd1 hf1 hd1' hf1'
  go_enter Try.func7, Try.ntmps7
  go_upto_region 1 with fail
  generalize (w.alloc (.cells #[.int .i64 mem, .slice od d.length cd, .slice of fs.length cf] 26)).alloc (.cells #[.int .i64 mem', .slice od' d'.length cd', .slice of' fs'.length cf'] 26) = w2 at *
  have x0 : w2.cell? ⟨w.heap.size, 0, none⟩ = some (.int .i64 mem) := (cell_of_heap HX.out.1).trans rfl
  have x1 : w2.cell? ⟨w.heap.size, 1, none⟩ = some (.slice od d.length cd) := (cell_of_heap HX.out.1).trans rfl
  have y0 : w2.cell? ⟨w.heap.size + 1, 0, none⟩ = some (.int .i64 mem') := (cell_of_heap HX.out.2.1).trans rfl
  have y1 : w2.cell? ⟨w.heap.size + 1, 1, none⟩ = some (.slice od' d'.length cd') := (cell_of_heap HX.out.2.1).trans rfl
  have hlx := heap_lt HX.out.1
  have hly := heap_lt HX.out.2.1
  by_cases hmem : mem = mem'
  case neg =>
    have e1 : (mem != mem') = true := by simpa using hmem
    have HZ := Lib.hid (HNO.out false rfl (.inl hmem))
    clear hmem HNO
    go_wp2_with fail
    go_ret
    exact ⟨⟨false, rfl, HZ.out⟩, HX.out.2.2⟩
  subst hmem
  by_cases hdd : d = d'
  case neg =>
    rw [decide_eq_false hdd] at HS
    have HZ := Lib.hid (HNO.out false rfl (.inr (.inl hdd)))
    clear hdd HNO
    go_wp2_with fail
    refine HS.out.mono ?_
    rintro e w3 ⟨rfl, hb3⟩
    have HB := Lib.hid (HX.out.2.2.trans (hb3.mono HX.out.2.2.size))
    clear hb3
    go_wp2_with fail
    go_ret
    exact ⟨⟨false, rfl, HZ.out⟩, HB.out⟩
  rw [decide_eq_true hdd] at HS
  have HDD := Lib.hid hdd
  clear hdd
  go_wp2_with fail
  refine HS.out.mono ?_
  rintro e w3 ⟨rfl, hb3⟩
  have H3 := Lib.hid (And.intro ((hb3.block _ hlx).trans HX.out.1) (And.intro ((hb3.block _ hly).trans HX.out.2.1) (And.intro (HM.out.1.fns.below hb3) (And.intro (HM.out.2.fns.below hb3) (HX.out.2.2.trans (hb3.mono HX.out.2.2.size))))))
  clear hb3 HS HM HX x0 x1 y0 y1 hlx hly
  have x2 : w3.cell? ⟨w.heap.size, 2, none⟩ = some (.slice of fs.length cf) := (cell_of_heap H3.out.1).trans rfl
  have y2 : w3.cell? ⟨w.heap.size + 1, 2, none⟩ = some (.slice of' fs'.length cf') := (cell_of_heap H3.out.2.1).trans rfl
  have hlx := heap_lt H3.out.1
  have hly := heap_lt H3.out.2.1
  by_cases hn : fs.length = fs'.length
  case neg =>
    have e1 : ((fs.length : Int) != (fs'.length : Int)) = true := by simp; omega
    have HZ := Lib.hid (HNO.out false rfl (.inr (.inr fun e => hn (by rw [e]))))
    clear HNO
    generalize fs.length = n at *
    generalize fs'.length = n' at *
    go_wp2_with fail
    go_ret
    exact ⟨⟨false, rfl, HZ.out⟩, H3.out.2.2.2.2⟩
  obtain ⟨n, hn0⟩ : ∃ n, fs.length = n := ⟨_, rfl⟩
  have HNX := Lib.hid hn0
  have HNY := Lib.hid (hn.symm.trans hn0)
  rw [← hn] at y2 hf1'
  rw [hn0] at x2 y2 hf1 hf1'
  rw [← hn, hn0]
  clear hn hn0
  go_upto_region 4 with fail
  clear x2 y2 hlx hly
  go_loopg [5] n (fun gg s5 wr => ∃ k : Nat, s5 = .int .i64 k ∧ k ≤ n ∧ n - k ≤ gg ∧ Hid (fs.take k = fs'.take k ∧ wr.heap[w.heap.size]? = some (modO' ⟨mem, d, fs⟩ (.slice od d.length cd) (.slice of n cf)) ∧ wr.heap[w.heap.size + 1]? = some (modO' ⟨mem, d', fs'⟩ (.slice od' d'.length cd') (.slice of' n cf')) ∧ FnsIn wr D (.slice of fs.length cf) fs ∧ FnsIn wr D' (.slice of' fs'.length cf') fs' ∧ Below w.heap.size w wr))
  case atStart => exact ⟨0, rfl, Nat.zero_le _, by omega, Lib.hid ⟨rfl, by rw [← HNX.out]; exact H3.out.1, by rw [← HNY.out]; exact H3.out.2.1, H3.out.2.2.1, H3.out.2.2.2.1, H3.out.2.2.2.2⟩⟩
  case round =>
    clear H3
    obtain ⟨k, rfl, hk, hgg, HA⟩ := hrel
    have x2 : wr.cell? ⟨w.heap.size, 2, none⟩ = some (.slice of n cf) := (cell_of_heap HA.out.2.1).trans rfl
    have y2 : wr.cell? ⟨w.heap.size + 1, 2, none⟩ = some (.slice of' n cf') := (cell_of_heap HA.out.2.2.1).trans rfl
    have hlx := heap_lt HA.out.2.1
    have hly := heap_lt HA.out.2.2.1
    by_cases hlt : k < n
    case neg =>
      obtain rfl : k = n := by omega
      have HZ : Hid ((⟨mem, d, fs⟩ : md.Mod) = ⟨mem, d', fs'⟩) := Lib.hid (by rw [HDD.out, take_all HNX.out HNY.out HA.out.1])
      go_wp2_with fail
      go_ret
      exact ⟨⟨true, rfl, fun _ => HZ.out, fun _ => rfl⟩, HA.out.2.2.2.2.2⟩
    case pos =>
      have hki : (k : Int) < (n : Int) := by omega
      have hkx : k < fs.length := by rw [HNX.out]; exact hlt
      have hky : k < fs'.length := by rw [HNY.out]; exact hlt
      obtain ⟨b, off, oc, cc, rfl, -, hb, k0, k1, k2, k3, hi⟩ := FnsIn.cell HA.out.2.2.2.1 k hkx
      obtain ⟨b', off', oc', cc', rfl, -, hb', k0', k1', k2', k3', hi'⟩ := FnsIn.cell HA.out.2.2.2.2.1 k hky
      have hst := fun h => take_step (k := k) HA.out.1 hkx hky h
      have hne : fs[k] ≠ fs'[k] → (false = true ↔ (⟨mem, d, fs⟩ : md.Mod) = ⟨mem, d', fs'⟩) := fun h => ⟨fun e => Bool.noConfusion e, fun e => by injection e with _ _ e3; exact absurd (by simp only [e3]) h⟩
      generalize fs[k] = f at *
      generalize fs'[k] = g at *
      have HST := Lib.hid hst
      have HNE := Lib.hid hne
      have HC0 := Lib.hid (And.intro hi hi')
      obtain ⟨p, r, l, c⟩ := f
      obtain ⟨p', r', l', c'⟩ := g
      dsimp only at k0 k1 k2 k3 k0' k1' k2' k3'
      have hcc := (RowIn.lens hi).2
      have hcc' := (RowIn.lens hi').2
      dsimp only at hcc hcc'
      clear hst hne hi hi'
      go_wp2_with fail
      go_cut [6, 7] from 38 to 47 (fun s6 s7 wx => ∃ gx gy : Nat, s6 = .pointer (some ⟨gx, 0, none⟩) ∧ s7 = .pointer (some ⟨gy, 0, none⟩) ∧ Hid (TwoF wx D D' gx gy ⟨p, r, l, c⟩ ⟨p', r', l', c'⟩ oc cc oc' cc' ∧ wx.heap[w.heap.size]? = some (modO' ⟨mem, d, fs⟩ (.slice od d.length cd) (.slice (some ⟨b, off, none⟩) n cf)) ∧ wx.heap[w.heap.size + 1]? = some (modO' ⟨mem, d', fs'⟩ (.slice od' d'.length cd') (.slice (some ⟨b', off', none⟩) n cf')) ∧ FnsIn wx D (.slice (some ⟨b, off, none⟩) fs.length cf) fs ∧ FnsIn wx D' (.slice (some ⟨b', off', none⟩) fs'.length cf') fs' ∧ Below w.heap.size w wx))
      case first =>
        go_region
        · have hf := two_new wr (fnO' ⟨p, r, l, c⟩ (.slice oc c.length cc)) (fnO' ⟨p', r', l', c'⟩ (.slice oc' c'.length cc'))
          have HF := Lib.hid (And.intro (TwoF.mk hf.1 hf.2.1 (RowIn.below HC0.out.1 hf.2.2) (RowIn.below HC0.out.2 hf.2.2)) (And.intro ((hf.2.2.block _ hlx).trans HA.out.2.1) (And.intro ((hf.2.2.block _ hly).trans HA.out.2.2.1) (And.intro (HA.out.2.2.2.1.below hf.2.2) (And.intro (HA.out.2.2.2.2.1.below hf.2.2) (HA.out.2.2.2.2.2.trans (hf.2.2.mono HA.out.2.2.2.2.2.size)))))))
          clear hf
          go_wp2_with fail
          go_meet
          exact ⟨_, _, rfl, rfl, Lib.hid ⟨HF.out.1.below (below_drew (Below.refl _ _)), HF.out.2.1, HF.out.2.2.1, HF.out.2.2.2.1.below (below_drew (Below.refl _ _)), HF.out.2.2.2.2.1.below (below_drew (Below.refl _ _)), below_drew HF.out.2.2.2.2.2⟩⟩
        · have hf := two_new wr (fnO' ⟨p', r', l', c'⟩ (.slice oc' c'.length cc')) (fnO' ⟨p, r, l, c⟩ (.slice oc c.length cc))
          have HF := Lib.hid (And.intro (TwoF.mk hf.2.1 hf.1 (RowIn.below HC0.out.1 hf.2.2) (RowIn.below HC0.out.2 hf.2.2)) (And.intro ((hf.2.2.block _ hlx).trans HA.out.2.1) (And.intro ((hf.2.2.block _ hly).trans HA.out.2.2.1) (And.intro (HA.out.2.2.2.1.below hf.2.2) (And.intro (HA.out.2.2.2.2.1.below hf.2.2) (HA.out.2.2.2.2.2.trans (hf.2.2.mono HA.out.2.2.2.2.2.size)))))))
          clear hf
          go_wp2_with fail
          go_meet
          exact ⟨_, _, rfl, rfl, Lib.hid ⟨HF.out.1.below (below_drew (Below.refl _ _)), HF.out.2.1, HF.out.2.2.1, HF.out.2.2.2.1.below (below_drew (Below.refl _ _)), HF.out.2.2.2.2.1.below (below_drew (Below.refl _ _)), below_drew HF.out.2.2.2.2.2⟩⟩
      case rest =>
      obtain ⟨gx, gy, rfl, rfl, HT⟩ := hcut
      clear k0 k1 k2 k3 k0' k1' k2' k3' HC0 x2 y2 hlx hly hb hb'
      have u0 : wc.cell? ⟨gx, 0, none⟩ = some (.int .i64 p) := (cell_of_heap HT.out.1.x).trans rfl
      have u1 : wc.cell? ⟨gx, 1, none⟩ = some (.int .i64 r) := (cell_of_heap HT.out.1.x).trans rfl
      have u2 : wc.cell? ⟨gx, 2, none⟩ = some (.int .i64 l) := (cell_of_heap HT.out.1.x).trans rfl
      have u3 : wc.cell? ⟨gx, 3, none⟩ = some (.slice oc c.length cc) := (cell_of_heap HT.out.1.x).trans rfl
      have v0 : wc.cell? ⟨gy, 0, none⟩ = some (.int .i64 p') := (cell_of_heap HT.out.1.y).trans rfl
      have v1 : wc.cell? ⟨gy, 1, none⟩ = some (.int .i64 r') := (cell_of_heap HT.out.1.y).trans rfl
      have v2 : wc.cell? ⟨gy, 2, none⟩ = some (.int .i64 l') := (cell_of_heap HT.out.1.y).trans rfl
      have v3 : wc.cell? ⟨gy, 3, none⟩ = some (.slice oc' c'.length cc') := (cell_of_heap HT.out.1.y).trans rfl
      have hgx := heap_lt HT.out.1.x
      have hgy := heap_lt HT.out.1.y
      by_cases hp : p = p'
      case neg =>
        have e1 : (p != p') = true := by simpa using hp
        have HZ := Lib.hid (HNE.out (fun e => hp (by injection e)))
        clear hp HNE HST
        go_wp2_with fail
        go_ret
        exact ⟨⟨false, rfl, HZ.out⟩, HT.out.2.2.2.2.2⟩
      subst hp
      by_cases hr : r = r'
      case neg =>
        have e1 : (r != r') = true := by simpa using hr
        have HZ := Lib.hid (HNE.out (fun e => hr (by injection e)))
        clear hr HNE HST
        go_wp2_with fail
        go_ret
        exact ⟨⟨false, rfl, HZ.out⟩, HT.out.2.2.2.2.2⟩
      subst hr
      by_cases hl : l = l'
      case neg =>
        have e1 : (l != l') = true := by simpa using hl
        have HZ := Lib.hid (HNE.out (fun e => hl (by injection e)))
        clear hl HNE HST
        go_wp2_with fail
        go_ret
        exact ⟨⟨false, rfl, HZ.out⟩, HT.out.2.2.2.2.2⟩
      subst hl
      by_cases hc : c.length = c'.length
      case neg =>
        have e1 : ((c.length : Int) != (c'.length : Int)) = true := by simp; omega
        have HZ := Lib.hid (HNE.out (fun e => hc (by injection e with _ _ _ e4; rw [e4])))
        clear HNE HST
        generalize c.length = nc at *
        generalize c'.length = nc' at *
        go_wp2_with fail
        go_ret
        exact ⟨⟨false, rfl, HZ.out⟩, HT.out.2.2.2.2.2⟩
      obtain ⟨nc, hnc⟩ : ∃ nc, c.length = nc := ⟨_, rfl⟩
      have HCX := Lib.hid hnc
      have HCY := Lib.hid (hc.symm.trans hnc)
      rw [← hc, hnc] at v3
      rw [hnc] at u3
      have HQX : Hid (fnO' ⟨p, r, l, c⟩ (.slice oc c.length cc) = fnO' ⟨p, r, l, c⟩ (.slice oc nc cc) ∧ fnO' ⟨p, r, l, c'⟩ (.slice oc' c'.length cc') = fnO' ⟨p, r, l, c'⟩ (.slice oc' nc cc')) := Lib.hid ⟨by rw [hnc], by rw [← hc, hnc]⟩
      rw [hnc] at hcc
      rw [← hc, hnc] at hcc'
      clear hc hnc
      go_upto_region 10 with fail
      clear u0 u1 u2 u3 v0 v1 v2 v3 hgx hgy
      generalize wr = wo at *
      go_loopg [8] nc (fun gg s8 wr => ∃ j : Nat, s8 = .int .i64 j ∧ j ≤ nc ∧ nc - j ≤ gg ∧ Hid (c.take j = c'.take j ∧ TwoF wr D D' gx gy ⟨p, r, l, c⟩ ⟨p, r, l, c'⟩ oc cc oc' cc' ∧ wr.heap[w.heap.size]? = some (modO' ⟨mem, d, fs⟩ (.slice od d.length cd) (.slice (some ⟨b, off, none⟩) n cf)) ∧ wr.heap[w.heap.size + 1]? = some (modO' ⟨mem, d', fs'⟩ (.slice od' d'.length cd') (.slice (some ⟨b', off', none⟩) n cf')) ∧ FnsIn wr D (.slice (some ⟨b, off, none⟩) fs.length cf) fs ∧ FnsIn wr D' (.slice (some ⟨b', off', none⟩) fs'.length cf') fs' ∧ Below w.heap.size w wr))
      case atStart => exact ⟨0, rfl, Nat.zero_le _, by omega, Lib.hid ⟨rfl, HT.out⟩⟩
      case round =>
        clear HT
        obtain ⟨j, rfl, hj, hgj, HB⟩ := hrel
        have u3 : wr.cell? ⟨gx, 3, none⟩ = some (.slice oc nc cc) := (cell_of_heap (HB.out.2.1.x.trans (congrArg some HQX.out.1))).trans rfl
        have v3 : wr.cell? ⟨gy, 3, none⟩ = some (.slice oc' nc cc') := (cell_of_heap (HB.out.2.1.y.trans (congrArg some HQX.out.2))).trans rfl
        have hgx := heap_lt HB.out.2.1.x
        have hgy := heap_lt HB.out.2.1.y
        by_cases hjlt : j < nc
        case neg =>
          obtain rfl : j = nc := by omega
          have HF := Lib.hid (HST.out (by rw [take_all HCX.out HCY.out HB.out.1]))
          have HZ := Lib.hid HB.out.2.2
          clear HB v3 hgy
          go_wp2_with fail
          go_roundg (n - (k + 1))
          case measure => omega
          case rel => exact ⟨k + 1, by go_num, by omega, Nat.le_refl _, Lib.hid ⟨HF.out, HZ.out⟩⟩
        case pos =>
          have hji : (j : Int) < (nc : Int) := by omega
          have hjx : j < c.length := by rw [HCX.out]; exact hjlt
          have hjy : j < c'.length := by rw [HCY.out]; exact hjlt
          obtain ⟨b2, off2, rfl, -, hb2, q0, q1⟩ := InsIn.cell HB.out.2.1.cx j hjx
          obtain ⟨b3, off3, rfl, -, hb3, t0, t1⟩ := InsIn.cell HB.out.2.1.cy j hjy
          have hst := fun h => take_step (k := j) HB.out.1 hjx hjy h
          have hne : c[j] ≠ c'[j] → (false = true ↔ (⟨mem, d, fs⟩ : md.Mod) = ⟨mem, d', fs'⟩) := fun h => HNE.out (fun e => by injection e with _ _ _ e4; exact absurd (by simp only [e4]) h)
          dsimp only at q0 q1 t0 t1
          generalize c[j] = i at *
          generalize c'[j] = i' at *
          obtain ⟨op, nn⟩ := i
          obtain ⟨op', nn'⟩ := i'
          dsimp only at q0 q1 t0 t1
          have HS2 := Lib.hid hst
          have HN2 := Lib.hid hne
          clear hst hne
          by_cases he : op = op' ∧ nn = nn'
          · have e1 := fun wx => run_ne_ins op nn op' nn' false (by rw [decide_eq_true he]; rfl) wx
            obtain ⟨rfl, rfl⟩ := he
            have HF := Lib.hid (And.intro (HS2.out rfl) HB.out.2)
            clear HN2 HS2 HB
            go_wp2_with fail
            go_quiet (fail)
            go_wp2_with fail
            go_roundg (nc - (j + 1))
            case measure => omega
            case rel => exact ⟨j + 1, by go_num, by omega, Nat.le_refl _, Lib.hid ⟨HF.out.1, HF.out.2.1.below (below_dN (Below.refl _ _) _), HF.out.2.2.1, HF.out.2.2.2.1, HF.out.2.2.2.2.1.below (below_dN (Below.refl _ _) _), HF.out.2.2.2.2.2.1.below (below_dN (Below.refl _ _) _), below_dN HF.out.2.2.2.2.2.2 _⟩⟩
          · have e1 := fun wx => run_ne_ins op nn op' nn' true (by rw [decide_eq_false he]; rfl) wx
            have HZ := Lib.hid (HN2.out (fun e => he (by injection e with e2 e3; exact ⟨e2, e3⟩)))
            have HW := Lib.hid HB.out.2.2.2.2.2.2
            clear he HN2 HS2 HB
            go_wp2_with fail
            go_quiet (fail)
            go_wp2_with fail
            go_ret
            exact ⟨⟨false, rfl, HZ.out⟩, below_dN HW.out _⟩
end Go.Proofs.Ytibpbnffennmeaa
