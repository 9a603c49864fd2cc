/- gather; ContainsFunc over placed nodes; wrong (made by tools/mkwrong.py). -/
import Derived.Test.YthmiaamjbokljaaGreatDoorKdAdd
namespace Go.Proofs.YthmiaamjbokljaaGreatDoor
open Go.RowKit
theorem add_all : ∀ f, AddC f
  | 0 => by intro o n cap ns depth B ba bf all V w _ _ _ h1 h2 _; omega
  | f + 1 => add_ct f (add_all f)
set_option maxRecDepth 100000 in
set_option maxHeartbeats 1600000 in
theorem gather_any (o : Option Addr) (n cap : Nat) (ns : List kd.Node) (D : Nat → Prop) (w : World) (h : NodesIn w D (.slice o n cap) ns) :
    Calls Tryz.prog 14 #[.slice o n cap] w fun ev w' => ∃ V cs, ev = .returned V ∧ w'.ownsRow w.heap.size 68 5 V (kd.gather 14 ns 0 []).length cs ∧ PlC w' (· < w.heap.size) (kd.gather 14 ns 0 []) cs ∧ Below w.heap.size w w' := by
  have hb1 := below_one w (.cells #[nilV] 49)
  have hb2 := below_one (w.alloc (.cells #[nilV] 49)) (.cells #[addV w.heap.size (w.heap.size + 1)] 70)
  have hb := hb1.trans (hb2.mono (by simp))
  have hn2 := h.keep (w' := (w.alloc (.cells #[nilV] 49)).alloc (.cells #[addV w.heap.size (w.heap.size + 1)] 70)) (D' := (· < w.heap.size)) (fun k _ hk => hb.block k hk) hb.size (fun _ _ hk => hk)
  have hga : GAt ((w.alloc (.cells #[nilV] 49)).alloc (.cells #[addV w.heap.size (w.heap.size + 1)] 70)) w.heap.size w.heap.size (w.heap.size + 1) [] nilV := ⟨(hb2.block _ (by simp)).trans (heap_alloc_new _ _), by
    have := heap_alloc_new (w.alloc (.cells #[nilV] 49)) (.cells #[addV w.heap.size (w.heap.size + 1)] 70)
    rwa [World.size_alloc] at this, ⟨[], World.ownsRow_nil _ _ _ _, rfl⟩, Nat.le_refl _, Nat.le_succ _⟩
  have HC := Lib.hid (add_all 14 o n cap ns 0 w.heap.size w.heap.size (w.heap.size + 1) [] nilV _ hn2 hga (by simp; omega) (Nat.zero_le _) (Nat.le_refl _) (Nat.zero_le _))
  rw [show ((0 : Nat) : Int) = 0 from rfl] at HC
  have HB := Lib.hid hb
  clear hb hb1 hb2 hn2 hga h
  go_enter Tryz.func14, Tryz.ntmps14
  go_wp2_with fail
  refine HC.out.mono ?_
  rintro ev w1 ⟨rfl, ⟨V, hg⟩, hb1⟩
  have hbox := hg.box
  have v0 : w1.cell? ⟨w.heap.size, 0, none⟩ = some V := (cell_of_heap hbox).trans rfl
  have HR := Lib.hid (And.intro hg.row (HB.out.trans hb1))
  clear hg hb1 hbox HC
  go_wp2_with fail
  go_ret
  obtain ⟨cs, h1, h2⟩ := HR.out.1
  exact ⟨V, cs, rfl, h1, h2, HR.out.2⟩
/-- bounds of a node that counts -/
def kd.Bd (n : kd.Node) : Prop := kd.NodeB1 n ∧ n.props.length ≤ 4611686018427387904
theorem kd.gather_bd : ∀ (f : Nat) (ns : List kd.Node) (depth : Nat) (all : List (kd.Node × Nat)), kd.NodesB f ns → (∀ p ∈ all, kd.Bd p.1) → ∀ p ∈ kd.gather f ns depth all, kd.Bd p.1
  | 0, _, _, _, _, h => h
  | f + 1, ns, depth, all, hb, h => by
    unfold kd.gather
    unfold kd.NodesB at hb
    replace hb := hb.2
    induction ns generalizing all with
    | nil => exact h
    | cons n r ih =>
      rw [List.foldl_cons]
      refine ih _ ?_ (fun m hm => hb m (List.mem_cons_of_mem _ hm))
      split
      · exact h
      · refine kd.gather_bd f _ _ _ (hb n List.mem_cons_self).2.2 (fun p hp => ?_)
        rcases List.mem_append.1 hp with hp | hp
        · exact h p hp
        · obtain rfl := List.mem_singleton.1 hp
          exact ⟨(hb n List.mem_cons_self).1, (hb n List.mem_cons_self).2.1⟩
/-- placed nodes in a slice -/
structure PlIn (w : World) (o : Option Addr) (n cap : Nat) (L : List (kd.Node × Nat)) : Prop where
  len : L.length = n
  le : n ≤ cap
  max : cap ≤ 9223372036854775807
  bd : ∀ p ∈ L, kd.Bd p.1
  at_ : n = 0 ∨ ∃ b off, o = some ⟨b, off, none⟩ ∧ b < w.heap.size ∧ ∀ k p, L[k]? = some p → ∃ x0 x1 x2 x3, Node4 w p.1 x0 x1 x2 x3 ∧ w.cell? ⟨b, off + k * 5, none⟩ = some x0 ∧ w.cell? ⟨b, off + k * 5 + 1, none⟩ = some x1 ∧ w.cell? ⟨b, off + k * 5 + 2, none⟩ = some x2 ∧ w.cell? ⟨b, off + k * 5 + 3, none⟩ = some x3 ∧ w.cell? ⟨b, off + k * 5 + 4, none⟩ = some (.int .i64 p.2)
theorem PlIn.below {w w' : World} {o : Option Addr} {n cap : Nat} {L : List (kd.Node × Nat)} (h : PlIn w o n cap L) (hb : Below w.heap.size w w') : PlIn w' o n cap L :=
  ⟨h.len, h.le, h.max, h.bd, h.at_.imp id fun ⟨b, off, e, hlt, hc⟩ => ⟨b, off, e, Nat.lt_of_lt_of_le hlt hb.size, fun k p hk => by
    obtain ⟨x0, x1, x2, x3, h4, d0, d1, d2, d3, d4⟩ := hc k p hk
    have hbb := hb.block b hlt
    exact ⟨x0, x1, x2, x3, h4.below hb, (cell_of_eq hbb _).trans d0, (cell_of_eq hbb _).trans d1, (cell_of_eq hbb _).trans d2, (cell_of_eq hbb _).trans d3, (cell_of_eq hbb _).trans d4⟩⟩⟩
theorem PlIn.row {w : World} {B : Nat} {D : Nat → Prop} {V : Value} {L : List (kd.Node × Nat)} {cs : List Value} (h : w.ownsRow B 68 5 V L.length cs) (hp : PlC w D L cs) (hb : ∀ p ∈ L, kd.Bd p.1) : ∃ o cap, V = .slice o L.length cap ∧ PlIn w o L.length cap L := by
  obtain ⟨o, cap, rfl, h1, h2, h3, h4⟩ := RowIn.of_own h (PlC.len L cs hp) (fun _ => True) (fun _ _ => trivial)
  refine ⟨o, cap, rfl, rfl, h1, h2, hb, h4.imp id ?_⟩
  rintro ⟨b, off, e1, -, hlt, hc⟩
  refine ⟨b, off, e1, hlt, fun k p hk => ?_⟩
  obtain ⟨x0, x1, x2, x3, hn, g0, g1, g2, g3, g4⟩ := PlC.get L cs hp k p hk
  exact ⟨x0, x1, x2, x3, hn.four' (hb p (List.mem_of_getElem? hk)).1, hc _ _ g0, hc _ _ g1, hc _ _ g2, hc _ _ g3, hc _ _ g4⟩
def kd.rep (p : kd.Node × Nat) : Bool := kd.again p.1.props []
theorem repeats_any2 (n : kd.Node) (d : Nat) (c0 c1 c2 c3 : Value) (w : World) (h : Node4 w n c0 c1 c2 c3) (hL : n.props.length ≤ 4611686018427387904) : Calls Tryz.prog 24 #[plV c0 c1 c2 c3 d] w fun ev w' => ev = .returned (.bool (kd.rep (n, d))) ∧ Below w.heap.size w w' := repeats_any n d c0 c1 c2 c3 w h hL
set_option maxRecDepth 100000 in
set_option maxHeartbeats 1600000 in
theorem deep_index (o : Option Addr) (n cap : Nat) (L : List (kd.Node × Nat)) (w : World) (hs : PlIn w o n cap L) :
    Calls Tryz.prog 39 #[.slice o n cap, .func (.func 22) #[] #[]] w fun e w' => (∃ r : Int, e = .returned (.int .i64 r) ∧ decide (0 ≤ r) = L.any kd.tooDeep) ∧ Below w.heap.size w w' := by
  have hm : cap ≤ 9223372036854775807 := hs.max
  have hle := hs.le
  have HS := Lib.hid hs
  clear hs
  go_enter Tryz.func39, Tryz.ntmps39
  go_wp2_with fail
  go_loopg [8] n (fun gg s8 wr => ∃ k : Nat, s8 = .int .i64 k ∧ k ≤ n ∧ n - k ≤ gg ∧ Hid ((L.take k).any kd.tooDeep = false ∧ Below w.heap.size w wr))
  case atStart => exact ⟨0, rfl, Nat.zero_le _, by omega, Lib.hid ⟨rfl, Below.refl _ _⟩⟩
  case round =>
    obtain ⟨k, rfl, hk, hgg, HA⟩ := hrel
    by_cases hlt : k < n
    · have hkl : k < L.length := by rw [HS.out.len]; exact hlt
      obtain ⟨b, off, x0, x1, x2, x3, rfl, hb, h4, c0, c1, c2, c3, c4⟩ : ∃ b off x0 x1 x2 x3, o = some ⟨b, off, none⟩ ∧ b < wr.heap.size ∧ Node4 wr L[k].1 x0 x1 x2 x3 ∧ wr.cell? ⟨b, off + k * 5, none⟩ = some x0 ∧ wr.cell? ⟨b, off + k * 5 + 1, none⟩ = some x1 ∧ wr.cell? ⟨b, off + k * 5 + 2, none⟩ = some x2 ∧ wr.cell? ⟨b, off + k * 5 + 3, none⟩ = some x3 ∧ wr.cell? ⟨b, off + k * 5 + 4, none⟩ = some (.int .i64 L[k].2) := by
        rcases (HS.out.below HA.out.2).at_ with h0 | ⟨b, off, e, hb, hc⟩
        · omega
        · obtain ⟨x0, x1, x2, x3, h4, hcs⟩ := hc k _ (List.getElem?_eq_getElem hkl)
          exact ⟨b, off, x0, x1, x2, x3, e, hb, h4, hcs⟩
      have hst := any_take_step L kd.tooDeep k hkl
      rw [HA.out.1, Bool.false_or] at hst
      have HT := Lib.hid (any_take_true L kd.tooDeep (k + 1))
      have hbd := HS.out.bd _ (List.getElem_mem hkl)
      obtain ⟨nd, hnd⟩ : ∃ nd, L[k].1 = nd := ⟨_, rfl⟩
      obtain ⟨dd, hdd⟩ : ∃ dd, L[k].2 = dd := ⟨_, rfl⟩
      have hv : L[k] = (nd, dd) := by rw [← hnd, ← hdd]
      rw [hnd] at h4 hbd
      rw [hdd] at c4
      rw [hv] at hst
      have HC := Lib.hid (tooDeep_any nd dd x0 x1 x2 x3 wr h4)
      have HST := Lib.hid hst
      obtain ⟨ok, ck, ek⟩ := h4.ks
      obtain ⟨oa, ca, ea, -⟩ := h4.av
      obtain ⟨op, cp, ep, -⟩ := h4.ps
      have en := h4.nm
      subst ek ea ep en
      clear h4 hbd hnd hdd hv
      have hki : (k : Int) < (n : Int) := by omega
      clear hst hkl
      go_wp2_with fail
      refine HC.out.mono ?_
      rintro ev w2 ⟨rfl, hb2⟩
      have HB2 := Lib.hid (HA.out.2.trans (hb2.mono HA.out.2.size))
      clear hb2
      cases hg : kd.tooDeep (nd, dd)
      · have HG := Lib.hid hg
        clear hg
        go_wp2_with fail
        go_roundg (n - (k + 1))
        case measure => omega
        case rel => exact ⟨k + 1, by go_num, by omega, Nat.le_refl _, Lib.hid ⟨by rw [HST.out]; exact HG.out, HB2.out⟩⟩
      · have HG := Lib.hid hg
        clear hg
        go_wp2_with fail
        go_ret
        exact ⟨⟨_, rfl, by rw [HT.out (by rw [HST.out]; exact HG.out)]; exact decide_eq_true (by omega)⟩, HB2.out⟩
    · obtain rfl : k = n := by omega
      have HF : Hid (L.any kd.tooDeep = false) := Lib.hid (by have := HA.out.1; rwa [List.take_of_length_le (by rw [HS.out.len]; exact Nat.le_refl _)] at this)
      go_wp2_with fail
      go_ret
      exact ⟨⟨_, rfl, by rw [HF.out]; rfl⟩, HA.out.2⟩
theorem deep_contains (o : Option Addr) (n cap : Nat) (L : List (kd.Node × Nat)) (w : World) (hs : PlIn w o n cap L) :
    Calls Tryz.prog 21 #[.slice o n cap, .func (.func 22) #[] #[]] w fun e w' => e = .returned (.bool (L.any kd.tooDeep)) ∧ Below w.heap.size w w' := by
  have HI := Lib.hid (deep_index o n cap L w hs)
  clear hs
  generalize L.any kd.tooDeep = B at *
  go_enter Tryz.func21, Tryz.ntmps21
  go_wp2_with fail
  refine HI.out.mono ?_
  rintro e w2 ⟨⟨r, rfl, hr⟩, hb⟩
  have HR := Lib.hid hr
  have HB := Lib.hid hb
  clear hr hb
  go_wp2_with fail
  go_ret
  exact ⟨ret_bool HR.out, HB.out⟩
set_option maxRecDepth 100000 in
set_option maxHeartbeats 1600000 in
theorem unwr_index (o : Option Addr) (n cap : Nat) (L : List (kd.Node × Nat)) (w : World) (hs : PlIn w o n cap L) :
    Calls Tryz.prog 39 #[.slice o n cap, .func (.func 23) #[] #[]] w fun e w' => (∃ r : Int, e = .returned (.int .i64 r) ∧ decide (0 ≤ r) = L.any kd.unwritable) ∧ Below w.heap.size w w' := by
  have hm : cap ≤ 9223372036854775807 := hs.max
  have hle := hs.le
  have HS := Lib.hid hs
  clear hs
  go_enter Tryz.func39, Tryz.ntmps39
  go_wp2_with fail
  go_loopg [8] n (fun gg s8 wr => ∃ k : Nat, s8 = .int .i64 k ∧ k ≤ n ∧ n - k ≤ gg ∧ Hid ((L.take k).any kd.unwritable = false ∧ Below w.heap.size w wr))
  case atStart => exact ⟨0, rfl, Nat.zero_le _, by omega, Lib.hid ⟨rfl, Below.refl _ _⟩⟩
  case round =>
    obtain ⟨k, rfl, hk, hgg, HA⟩ := hrel
    by_cases hlt : k < n
    · have hkl : k < L.length := by rw [HS.out.len]; exact hlt
      obtain ⟨b, off, x0, x1, x2, x3, rfl, hb, h4, c0, c1, c2, c3, c4⟩ : ∃ b off x0 x1 x2 x3, o = some ⟨b, off, none⟩ ∧ b < wr.heap.size ∧ Node4 wr L[k].1 x0 x1 x2 x3 ∧ wr.cell? ⟨b, off + k * 5, none⟩ = some x0 ∧ wr.cell? ⟨b, off + k * 5 + 1, none⟩ = some x1 ∧ wr.cell? ⟨b, off + k * 5 + 2, none⟩ = some x2 ∧ wr.cell? ⟨b, off + k * 5 + 3, none⟩ = some x3 ∧ wr.cell? ⟨b, off + k * 5 + 4, none⟩ = some (.int .i64 L[k].2) := by
        rcases (HS.out.below HA.out.2).at_ with h0 | ⟨b, off, e, hb, hc⟩
        · omega
        · obtain ⟨x0, x1, x2, x3, h4, hcs⟩ := hc k _ (List.getElem?_eq_getElem hkl)
          exact ⟨b, off, x0, x1, x2, x3, e, hb, h4, hcs⟩
      have hst := any_take_step L kd.unwritable k hkl
      rw [HA.out.1, Bool.false_or] at hst
      have HT := Lib.hid (any_take_true L kd.unwritable (k + 1))
      have hbd := HS.out.bd _ (List.getElem_mem hkl)
      obtain ⟨nd, hnd⟩ : ∃ nd, L[k].1 = nd := ⟨_, rfl⟩
      obtain ⟨dd, hdd⟩ : ∃ dd, L[k].2 = dd := ⟨_, rfl⟩
      have hv : L[k] = (nd, dd) := by rw [← hnd, ← hdd]
      rw [hnd] at h4 hbd
      rw [hdd] at c4
      rw [hv] at hst
      have HC := Lib.hid (unwritable_any nd dd x0 x1 x2 x3 wr h4 hbd.1)
      have HST := Lib.hid hst
      obtain ⟨ok, ck, ek⟩ := h4.ks
      obtain ⟨oa, ca, ea, -⟩ := h4.av
      obtain ⟨op, cp, ep, -⟩ := h4.ps
      have en := h4.nm
      subst ek ea ep en
      clear h4 hbd hnd hdd hv
      have hki : (k : Int) < (n : Int) := by omega
      clear hst hkl
      go_wp2_with fail
      refine HC.out.mono ?_
      rintro ev w2 ⟨rfl, hb2⟩
      have HB2 := Lib.hid (HA.out.2.trans (hb2.mono HA.out.2.size))
      clear hb2
      cases hg : kd.unwritable (nd, dd)
      · have HG := Lib.hid hg
        clear hg
        go_wp2_with fail
        go_roundg (n - (k + 1))
        case measure => omega
        case rel => exact ⟨k + 1, by go_num, by omega, Nat.le_refl _, Lib.hid ⟨by rw [HST.out]; exact HG.out, HB2.out⟩⟩
      · have HG := Lib.hid hg
        clear hg
        go_wp2_with fail
        go_ret
        exact ⟨⟨_, rfl, by rw [HT.out (by rw [HST.out]; exact HG.out)]; exact decide_eq_true (by omega)⟩, HB2.out⟩
    · obtain rfl : k = n := by omega
      have HF : Hid (L.any kd.unwritable = false) := Lib.hid (by have := HA.out.1; rwa [List.take_of_length_le (by rw [HS.out.len]; exact Nat.le_refl _)] at this)
      go_wp2_with fail
      go_ret
      exact ⟨⟨_, rfl, by rw [HF.out]; rfl⟩, HA.out.2⟩
theorem unwr_contains (o : Option Addr) (n cap : Nat) (L : List (kd.Node × Nat)) (w : World) (hs : PlIn w o n cap L) :
    Calls Tryz.prog 21 #[.slice o n cap, .func (.func 23) #[] #[]] w fun e w' => e = .returned (.bool (L.any kd.unwritable)) ∧ Below w.heap.size w w' := by
  have HI := Lib.hid (unwr_index o n cap L w hs)
  clear hs
  generalize L.any kd.unwritable = B at *
  go_enter Tryz.func21, Tryz.ntmps21
  go_wp2_with fail
  refine HI.out.mono ?_
  rintro e w2 ⟨⟨r, rfl, hr⟩, hb⟩
  have HR := Lib.hid hr
  have HB := Lib.hid hb
  clear hr hb
  go_wp2_with fail
  go_ret
  exact ⟨ret_bool HR.out, HB.out⟩
set_option maxRecDepth 100000 in
set_option maxHeartbeats 1600000 in
theorem rept_index (o : Option Addr) (n cap : Nat) (L : List (kd.Node × Nat)) (w : World) (hs : PlIn w o n cap L) :
    Calls Tryz.prog 39 #[.slice o n cap, .func (.func 24) #[] #[]] w fun e w' => (∃ r : Int, e = .returned (.int .i64 r) ∧ decide (0 ≤ r) = L.any kd.rep) ∧ Below w.heap.size w w' := by
  have hm : cap ≤ 9223372036854775807 := hs.max
  have hle := hs.le
  have HS := Lib.hid hs
  clear hs
  go_enter Tryz.func39, Tryz.ntmps39
  go_wp2_with fail
  go_loopg [8] n (fun gg s8 wr => ∃ k : Nat, s8 = .int .i64 k ∧ k ≤ n ∧ n - k ≤ gg ∧ Hid ((L.take k).any kd.rep = false ∧ Below w.heap.size w wr))
  case atStart => exact ⟨0, rfl, Nat.zero_le _, by omega, Lib.hid ⟨rfl, Below.refl _ _⟩⟩
  case round =>
    obtain ⟨k, rfl, hk, hgg, HA⟩ := hrel
    by_cases hlt : k < n
    · have hkl : k < L.length := by rw [HS.out.len]; exact hlt
      obtain ⟨b, off, x0, x1, x2, x3, rfl, hb, h4, c0, c1, c2, c3, c4⟩ : ∃ b off x0 x1 x2 x3, o = some ⟨b, off, none⟩ ∧ b < wr.heap.size ∧ Node4 wr L[k].1 x0 x1 x2 x3 ∧ wr.cell? ⟨b, off + k * 5, none⟩ = some x0 ∧ wr.cell? ⟨b, off + k * 5 + 1, none⟩ = some x1 ∧ wr.cell? ⟨b, off + k * 5 + 2, none⟩ = some x2 ∧ wr.cell? ⟨b, off + k * 5 + 3, none⟩ = some x3 ∧ wr.cell? ⟨b, off + k * 5 + 4, none⟩ = some (.int .i64 L[k].2) := by
        rcases (HS.out.below HA.out.2).at_ with h0 | ⟨b, off, e, hb, hc⟩
        · omega
        · obtain ⟨x0, x1, x2, x3, h4, hcs⟩ := hc k _ (List.getElem?_eq_getElem hkl)
          exact ⟨b, off, x0, x1, x2, x3, e, hb, h4, hcs⟩
      have hst := any_take_step L kd.rep k hkl
      rw [HA.out.1, Bool.false_or] at hst
      have HT := Lib.hid (any_take_true L kd.rep (k + 1))
      have hbd := HS.out.bd _ (List.getElem_mem hkl)
      obtain ⟨nd, hnd⟩ : ∃ nd, L[k].1 = nd := ⟨_, rfl⟩
      obtain ⟨dd, hdd⟩ : ∃ dd, L[k].2 = dd := ⟨_, rfl⟩
      have hv : L[k] = (nd, dd) := by rw [← hnd, ← hdd]
      rw [hnd] at h4 hbd
      rw [hdd] at c4
      rw [hv] at hst
      have HC := Lib.hid (repeats_any2 nd dd x0 x1 x2 x3 wr h4 hbd.2)
      have HST := Lib.hid hst
      obtain ⟨ok, ck, ek⟩ := h4.ks
      obtain ⟨oa, ca, ea, -⟩ := h4.av
      obtain ⟨op, cp, ep, -⟩ := h4.ps
      have en := h4.nm
      subst ek ea ep en
      clear h4 hbd hnd hdd hv
      have hki : (k : Int) < (n : Int) := by omega
      clear hst hkl
      go_wp2_with fail
      refine HC.out.mono ?_
      rintro ev w2 ⟨rfl, hb2⟩
      have HB2 := Lib.hid (HA.out.2.trans (hb2.mono HA.out.2.size))
      clear hb2
      cases hg : kd.rep (nd, dd)
      · have HG := Lib.hid hg
        clear hg
        go_wp2_with fail
        go_roundg (n - (k + 1))
        case measure => omega
        case rel => exact ⟨k + 1, by go_num, by omega, Nat.le_refl _, Lib.hid ⟨by rw [HST.out]; exact HG.out, HB2.out⟩⟩
      · have HG := Lib.hid hg
        clear hg
        go_wp2_with fail
        go_ret
        exact ⟨⟨_, rfl, by rw [HT.out (by rw [HST.out]; exact HG.out)]; exact decide_eq_true (by omega)⟩, HB2.out⟩
    · obtain rfl : k = n := by omega
      have HF : Hid (L.any kd.rep = false) := Lib.hid (by have := HA.out.1; rwa [List.take_of_length_le (by rw [HS.out.len]; exact Nat.le_refl _)] at this)
      go_wp2_with fail
      go_ret
      exact ⟨⟨_, rfl, by rw [HF.out]; rfl⟩, HA.out.2⟩
theorem rept_contains (o : Option Addr) (n cap : Nat) (L : List (kd.Node × Nat)) (w : World) (hs : PlIn w o n cap L) :
    Calls Tryz.prog 21 #[.slice o n cap, .func (.func 24) #[] #[]] w fun e w' => e = .returned (.bool (L.any kd.rep)) ∧ Below w.heap.size w w' := by
  have HI := Lib.hid (rept_index o n cap L w hs)
  clear hs
  generalize L.any kd.rep = B at *
  go_enter Tryz.func21, Tryz.ntmps21
  go_wp2_with fail
  refine HI.out.mono ?_
  rintro e w2 ⟨⟨r, rfl, hr⟩, hb⟩
  have HR := Lib.hid hr
  have HB := Lib.hid hb
  clear hr hb
  go_wp2_with fail
  go_ret
  exact ⟨ret_bool HR.out, HB.out⟩
set_option maxRecDepth 100000 in
set_option maxHeartbeats 1600000 in
theorem wrong_any (o : Option Addr) (n cap : Nat) (L : List (kd.Node × Nat)) (w : World) (h : PlIn w o n cap L) : Calls Tryz.prog 13 #[.slice o n cap] w fun ev w' => ev = .returned (.int .i64 (kd.wrong L)) ∧ Below w.heap.size w w' := by
  have H1 := Lib.hid (fun X (hX : Below w.heap.size w X) => deep_contains o n cap L X (h.below hX))
  have H2 := Lib.hid (fun X (hX : Below w.heap.size w X) => unwr_contains o n cap L X (h.below hX))
  have H3 := Lib.hid (fun X (hX : Below w.heap.size w X) => rept_contains o n cap L X (h.below hX))
  have HD : Hid (kd.wrong L = if 300 < n then 3 else if L.any kd.tooDeep then 4 else if L.any kd.unwritable then 1 else if L.any kd.rep then 81 else 0) := Lib.hid (by unfold kd.wrong; rw [h.len]; rfl)
  generalize kd.wrong L = R at *
  generalize L.any kd.tooDeep = A at *
  generalize L.any kd.unwritable = B at *
  generalize L.any kd.rep = C at *
  clear h
  by_cases h3 : 300 < n
  · have h3i : (300 : Int) < (n : Int) := by omega
    have HE : Hid (R = 3) := Lib.hid (by rw [HD.out, if_pos h3])
    go_enter Tryz.func13, Tryz.ntmps13
    go_wp2_with fail
    go_ret
    exact ⟨by rw [HE.out]; rfl, Below.refl _ _⟩
  have h3i : ¬ (300 : Int) < (n : Int) := by omega
  have hd2 := HD.out
  rw [if_neg h3] at hd2
  clear HD
  have HD := Lib.hid hd2
  have HC1 := Lib.hid (H1.out w (Below.refl _ _))
  clear hd2 h3
  go_enter Tryz.func13, Tryz.ntmps13
  go_wp2_with fail
  refine HC1.out.mono ?_
  rintro ev w1 ⟨rfl, hb1⟩
  have HB1 := Lib.hid hb1
  clear hb1
  cases A
  case true =>
    go_wp2_with fail
    go_ret
    exact ⟨by rw [HD.out]; rfl, HB1.out⟩
  have HC2 := Lib.hid (H2.out w1 HB1.out)
  go_wp2_with fail
  refine HC2.out.mono ?_
  rintro ev w2 ⟨rfl, hb2⟩
  have HB2 := Lib.hid (HB1.out.trans (hb2.mono HB1.out.size))
  clear hb2
  cases B
  case true =>
    go_wp2_with fail
    go_ret
    exact ⟨by rw [HD.out]; rfl, HB2.out⟩
  have HC3 := Lib.hid (H3.out w2 HB2.out)
  go_wp2_with fail
  refine HC3.out.mono ?_
  rintro ev w3 ⟨rfl, hb3⟩
  have HB3 := Lib.hid (HB2.out.trans (hb3.mono HB2.out.size))
  clear hb3
  cases C
  case true =>
    go_wp2_with fail
    go_ret
    exact ⟨by rw [HD.out]; rfl, HB3.out⟩
  go_wp2_with fail
  go_ret
  exact ⟨by rw [HD.out]; rfl, HB3.out⟩
end Go.Proofs.YthmiaamjbokljaaGreatDoor
