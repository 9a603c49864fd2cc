/- reach, reachAll. -/
import Derived.Test.YtoknolljfeaapaaDoorCkWalk
namespace Go.Proofs.YtoknolljfeaapaaDoor
open Go.RowKit
theorem inC_at {l : List Int} {k : Nat} (h : k < l.length) : (inC l)[k]? = some (.int .i64 (ck.hAt l k)) := by rw [ck.hAt_lt h]; simp [inC, h]
theorem inC_set (l : List Int) (k : Nat) (x : Int) : (inC l).toArray.setIfInBounds k (.int .i64 x) = (inC (l.set k x)).toArray := by simp [inC, List.map_set]
/-- the walk: its box, its two rows -/
structure WkAt (w : World) (B q gh n : Nat) (VT : Value) (s : ck.Wk) : Prop where
  node : w.heap[q]? = some (.cells #[.slice (some ⟨gh, 0, none⟩) n n, VT] 96 (0, 0))
  row : w.heap[gh]? = some (.cells (inC s.hs).toArray 3 (0, 0))
  len : s.hs.length = n
  todo : Todo w B VT s.todo
  apart : VT.ownBlock ≠ some gh
  hq : B ≤ q
  hg : B ≤ gh
theorem WkAt.q_gh {w : World} {B q gh n : Nat} {VT : Value} {s : ck.Wk} (h : WkAt w B q gh n VT s) : q ≠ gh := by
  rintro rfl
  have := h.node
  rw [h.row] at this
  injection this with this
  injection this with _ e
  exact absurd e (by decide)
theorem WkAt.q_todo {w : World} {B q gh n : Nat} {VT : Value} {s : ck.Wk} (h : WkAt w B q gh n VT s) : VT.ownBlock ≠ some q := fun e => by
  obtain ⟨ao, cap, rfl, -, -, h3⟩ := h.todo
  rcases h3 with ⟨rfl, -⟩ | ⟨g, off, cur, rfl, -, hg, -⟩
  · cases e
  · obtain rfl : g = q := Option.some.inj e
    rw [h.node] at hg
    injection hg with hg
    injection hg with _ e
    exact absurd e (by decide)
theorem WkAt.below {w w' : World} {B q gh n : Nat} {VT : Value} {s : ck.Wk} (h : WkAt w B q gh n VT s) (hb : Below w.heap.size w w') : WkAt w' B q gh n VT s :=
  ⟨(hb.block _ (heap_lt h.node)).trans h.node, (hb.block _ (heap_lt h.row)).trans h.row, h.len, h.todo.keep fun _ _ _ hg => hb.block _ (heap_lt hg), h.apart, h.hq, h.hg⟩
theorem WkAt.set {w : World} {B q gh n : Nat} {VT : Value} {s : ck.Wk} (h : WkAt w B q gh n VT s) (k : Nat) (x : Int) : WkAt (w.setCell ⟨gh, k, none⟩ (.int .i64 x)) B q gh n VT ⟨s.hs.set k x, s.todo⟩ := by
  have hset : ∀ y, y ≠ gh → (w.setCell ⟨gh, k, none⟩ (.int .i64 x)).heap[y]? = w.heap[y]? := fun y hy => Below.heap_setCell w ⟨gh, k, none⟩ _ y hy
  refine ⟨(hset _ h.q_gh).trans h.node, ?_, by simpa using h.len, h.todo.keep fun g cur e _ => hset g (fun e2 => h.apart (by rw [e, e2])), h.apart, h.hq, h.hg⟩
  have := heap_setCell_same w gh k _ _ (.int .i64 x) h.row
  rw [inC_set] at this
  exact this
/-- one place more -/
theorem WkAt.push {w w' : World} {B q gh n : Nat} {VT VT' : Value} {s : ck.Wk} {l : List Nat} (h : WkAt w B q gh n VT s) (ht : Todo w' B VT' l) (hf : Fr (fun y => VT.ownBlock = some y) w w') (ho : VT'.ownBlock = VT.ownBlock ∨ ∃ y, VT'.ownBlock = some y ∧ w.heap.size ≤ y) : WkAt (w'.setCell ⟨q, 1, none⟩ VT') B q gh n VT' ⟨s.hs, l⟩ := by
  have hset : ∀ y, y ≠ q → (w'.setCell ⟨q, 1, none⟩ VT').heap[y]? = w'.heap[y]? := fun y hy => Below.heap_setCell w' ⟨q, 1, none⟩ _ y hy
  have hqn := (hf.block _ (heap_lt h.node) h.q_todo).trans h.node
  refine ⟨heap_setCell_same w' q 1 _ _ VT' hqn, (hset _ (Ne.symm h.q_gh)).trans ((hf.block _ (heap_lt h.row) h.apart).trans h.row), h.len, ht.keep fun g cur e hg => hset g ?_, ?_, h.hq, h.hg⟩
  · rintro rfl
    rw [hqn] at hg
    injection hg with hg
    injection hg with _ e
    exact absurd e (by decide)
  · intro e
    rcases ho with ho | ⟨y, ho, hy⟩
    · exact h.apart (ho.symm.trans e)
    · have := heap_lt h.row
      rw [e] at ho
      have := Option.some.inj ho
      omega
/-- what reach and reachAll answer -/
def ReachAns (B q gh n : Nat) (VT : Value) (w w' : World) (e : Ending) (r : ck.Wk × Bool) : Prop :=
  e = .returned (.bool r.2) ∧ ∃ VT', WkAt w' B q gh n VT' r.1 ∧ Fr (fun y => y = q ∨ y = gh ∨ VT.ownBlock = some y) w w' ∧ (VT'.ownBlock = VT.ownBlock ∨ ∃ y, VT'.ownBlock = some y ∧ w.heap.size ≤ y)
theorem ReachAns.eq {B q gh n : Nat} {VT : Value} {w w' : World} {e : Ending} {r r' : ck.Wk × Bool} (h : ReachAns B q gh n VT w w' e r) (hr : r = r') : ReachAns B q gh n VT w w' e r' := hr ▸ h
set_option maxRecDepth 100000 in
set_option maxHeartbeats 1600000 in
theorem reach_any (B q gh n : Nat) (VT : Value) (s : ck.Wk) (k : Nat) (h : Int) (w : World) (hw : WkAt w B q gh n VT s) (hk : k ≤ n) (hl : s.todo.length ≤ 1000) :
    Calls Tryd.prog 56 #[.pointer (some ⟨q, 0, none⟩), .int .i64 k, .int .i64 h] w fun e w' => ReachAns B q gh n VT w w' e (ck.reach s k h) := by
  have HE : Hid (ck.reach s k h = if k = s.hs.length then (s, false) else if ck.hAt s.hs k = -1 then (⟨s.hs.set k h, s.todo ++ [k]⟩, true) else (s, decide (ck.hAt s.hs k = h))) := Lib.hid rfl
  generalize ck.reach s k h = R0 at *
  have HW := Lib.hid hw
  obtain ⟨ao, ac, rfl⟩ := hw.todo.form
  have k0 : w.cell? ⟨q, 0, none⟩ = some (.slice (some ⟨gh, 0, none⟩) n n) := (cell_of_heap hw.node).trans rfl
  have hlq := heap_lt hw.node
  have hlg := heap_lt hw.row
  have hlen := hw.len
  by_cases hkn : k = n
  · have HR : Hid (R0 = (s, false)) := Lib.hid (by rw [HE.out, if_pos (hkn.trans hlen.symm)])
    have e1 : ((k : Int) == (n : Int)) = true := by simp [hkn]
    clear HE hkn hlen hw
    go_enter Tryd.func56, Tryd.ntmps56
    go_wp2_with fail
    go_ret
    exact ReachAns.eq ⟨rfl, _, HW.out, Fr.refl _ _, .inl rfl⟩ HR.out.symm
  have e1 : ((k : Int) == (n : Int)) = false := by simp; omega
  have hklt : k < s.hs.length := by omega
  have hki : (k : Int) < (n : Int) := by omega
  have c0 : w.cell? ⟨gh, k, none⟩ = some (.int .i64 (ck.hAt s.hs k)) := by rw [cell_of_heap hw.row, List.getElem?_toArray]; exact inC_at hklt
  by_cases hu : ck.hAt s.hs k = -1
  · have HR : Hid (R0 = (⟨s.hs.set k h, s.todo ++ [k]⟩, true)) := Lib.hid (by rw [HE.out, if_neg (by omega), if_pos hu])
    rw [hu] at c0
    have f0 := thaw (k := k) hw.row
    have H1 := Lib.hid (hw.set k h)
    have hf1 : Hid (Fr (fun y => y = q ∨ y = gh ∨ (Value.slice ao s.todo.length ac).ownBlock = some y) w (w.setCell ⟨gh, k, none⟩ (.int .i64 h))) := Lib.hid ((Fr.refl _ w).setCell ⟨gh, k, none⟩ _ (.inr (.inr (.inl rfl))))
    clear HE hkn hlen hw hu hklt
    go_enter Tryd.func56, Tryd.ntmps56
    go_upto_region 5 with fail
    clear k0 c0 f0 hlq hlg
    have hws : (w.setCell ⟨gh, k, none⟩ (.int .i64 h)).heap.size = w.heap.size := by simp
    obtain ⟨w1, hw1⟩ : ∃ w1, w.setCell ⟨gh, k, none⟩ (.int .i64 h) = w1 := ⟨_, rfl⟩
    rw [hw1] at H1 hf1 hws ⊢
    have HS := Lib.hid hws
    clear hw1 hws
    have k0 : w1.cell? ⟨q, 0, none⟩ = some (.slice (some ⟨gh, 0, none⟩) n n) := (cell_of_heap H1.out.node).trans rfl
    have k1 : w1.cell? ⟨q, 1, none⟩ = some (.slice ao s.todo.length ac) := (cell_of_heap H1.out.node).trans rfl
    have hlq := heap_lt H1.out.node
    have HBS : Hid (B ≤ w1.heap.size) := Lib.hid (Nat.le_trans H1.out.hq (Nat.le_of_lt hlq))
    go_wp2_with (at_builtin; go_loud (refine wpList_todo w1 k rfl _ _ rfl B (.slice ao s.todo.length ac) s.todo rfl H1.out.todo w1.heap.size rfl rfl hl HBS.out ?_))
    intro VT' w2 r1 r2 r3
    have hpu := H1.out.push r1 r2 r3
    have hn2 := (r2.block _ (heap_lt H1.out.node) H1.out.q_todo).trans H1.out.node
    have x1 : w2.cell? ⟨q, 1, none⟩ = some (.slice ao s.todo.length ac) := (cell_of_heap hn2).trans rfl
    have g1 := thaw (k := 1) hn2
    have hl2 := heap_lt hn2
    obtain ⟨ao', ac', rfl⟩ := r1.form
    have HF := Lib.hid (show ReachAns B q gh n (.slice ao s.todo.length ac) w (w2.setCell ⟨q, 1, none⟩ (.slice ao' (s.todo ++ [k]).length ac')) (.returned (.bool true)) (⟨s.hs.set k h, s.todo ++ [k]⟩, true) from
      ⟨rfl, _, hpu, (hf1.out.trans r2 (fun y _ e => .inr (.inr e))).setCell _ _ (.inr (.inl rfl)), by rw [HS.out] at r3; exact r3⟩)
    have hlk : (s.todo ++ [k]).length = s.todo.length + 1 := by simp
    rw [hlk] at HF hpu
    have y0 : (w2.setCell ⟨q, 1, none⟩ (.slice ao' (s.todo.length + 1) ac')).cell? ⟨q, 0, none⟩ = some (.slice (some ⟨gh, 0, none⟩) n n) := (cell_of_heap hpu.node).trans rfl
    have y1 : (w2.setCell ⟨q, 1, none⟩ (.slice ao' (s.todo.length + 1) ac')).cell? ⟨gh, k, none⟩ = some (.int .i64 h) := by
      have hkl : k < (s.hs.set k h).length := by rw [hpu.len]; omega
      rw [cell_of_heap hpu.row, List.getElem?_toArray, inC_at hkl, ck.hAt_set (by simpa using hkl), if_pos rfl]
    have hlg := heap_lt hpu.row
    have HLG := Lib.hid hlg
    clear r1 r2 r3 hpu hn2 k0 k1 hlq H1 hf1 hlk hlg HBS HS
    go_upto_region 6 with fail
    generalize w2.setCell ⟨q, 1, none⟩ (.slice ao' (s.todo.length + 1) ac') = w3 at *
    have hlg := HLG.out
    have hlq3 := World.block_lt_of_cell? w3 _ y0
    dsimp only at hlq3
    clear HLG x1 g1 hl2
    go_wp2_with fail
    go_ret
    exact ReachAns.eq HF.out HR.out.symm
  · have HR : Hid (R0 = (s, decide (ck.hAt s.hs k = h))) := Lib.hid (by rw [HE.out, if_neg (by omega), if_neg hu])
    have e2 : (ck.hAt s.hs k == -1) = false := by simpa using hu
    have HD : Hid (decide (ck.hAt s.hs k = h) = (ck.hAt s.hs k == h)) := Lib.hid (by rw [Bool.eq_iff_iff]; simp)
    clear HE hkn hlen hw hu hklt
    generalize ck.hAt s.hs k = X at *
    go_enter Tryd.func56, Tryd.ntmps56
    go_wp2_with fail
    go_ret
    exact ReachAns.eq ⟨ret_bool HD.out.symm, _, HW.out, Fr.refl _ _, .inl rfl⟩ HR.out.symm
theorem reachAll_len : ∀ (l : List Nat) (s : ck.Wk) (h : Int), (ck.reachAll s l h).1.todo.length ≤ s.todo.length + l.length
  | [], s, h => Nat.le_refl _
  | k :: r, s, h => by
    have h1 : (ck.reach s k h).1.todo.length ≤ s.todo.length + 1 := by
      unfold ck.reach
      split
      · simp
      · split <;> simp
    unfold ck.reachAll
    split
    · have := reachAll_len r (ck.reach s k h).1 h
      rw [List.length_cons]
      omega
    · rw [List.length_cons]
      simp only
      omega
theorem reach_len (s : ck.Wk) (k : Nat) (h : Int) : (ck.reach s k h).1.todo.length ≤ s.todo.length + 1 := by
  unfold ck.reach
  split
  · simp
  · split <;> simp
set_option maxRecDepth 100000 in
set_option maxHeartbeats 1600000 in
theorem reachAll_any (B q gh n : Nat) (VT V : Value) (s : ck.Wk) (l : List Nat) (h : Int) (w : World) (hw : WkAt w B q gh n VT s) (hv : RowIn w (fun k => k ≠ q ∧ k ≠ gh ∧ VT.ownBlock ≠ some k) V 1 l.length (naC l)) (hk : ∀ k ∈ l, k ≤ n) (hl : s.todo.length + l.length ≤ 1000) :
    Calls Tryd.prog 58 #[.pointer (some ⟨q, 0, none⟩), V, .int .i64 h] w fun e w' => ReachAns B q gh n VT w w' e (ck.reachAll s l h) := by
  obtain ⟨R0, hR0⟩ : ∃ R0, ck.reachAll s l h = R0 := ⟨_, rfl⟩
  rw [hR0]
  have HR0 := Lib.hid hR0
  have HW := Lib.hid hw
  have HV := Lib.hid hv
  have HK := Lib.hid hk
  have HRE := Lib.hid (fun VT s k W h1 h2 h3 => reach_any B q gh n VT s k h W h1 h2 h3)
  obtain ⟨o, cap, rfl, hl1, hl2, -⟩ := id hv
  clear hR0 hw hv hk
  go_enter Tryd.func58, Tryd.ntmps58
  go_upto_region 2 with fail
  go_loopg [11] l.length (fun gg s11 wr => ∃ (j : Nat) (VT' : Value) (s' : ck.Wk), s11 = .int .i64 j ∧ j ≤ l.length ∧ l.length - j ≤ gg ∧ s'.todo.length ≤ s.todo.length + j ∧ Hid (ck.reachAll s' (l.drop j) h = R0 ∧ WkAt wr B q gh n VT' s' ∧ Fr (fun y => y = q ∨ y = gh ∨ VT.ownBlock = some y) w wr ∧ (VT'.ownBlock = VT.ownBlock ∨ ∃ y, VT'.ownBlock = some y ∧ w.heap.size ≤ y)))
  case atStart => exact ⟨0, VT, s, rfl, Nat.zero_le _, by omega, by omega, Lib.hid ⟨HR0.out, HW.out, Fr.refl _ _, .inl rfl⟩⟩
  case round =>
    clear HW HR0
    obtain ⟨j, VT', s', rfl, hj, hgg, htl, HA⟩ := hrel
    by_cases hlt : j < l.length
    case neg =>
      have HR : Hid (R0 = (s', true)) := Lib.hid (by
        have := HA.out.1
        rw [List.drop_eq_nil_of_le (by omega)] at this
        exact this.symm)
      have hji : ¬ (j : Int) < (l.length : Int) := by omega
      go_wp2_with fail
      go_ret
      exact ReachAns.eq ⟨rfl, _, HA.out.2⟩ HR.out.symm
    case pos =>
      have hji : (j : Int) < (l.length : Int) := by omega
      have hra := HA.out.1
      rw [List.drop_eq_getElem_cons hlt] at hra
      have hin : RowIn wr (fun k => k ≠ q ∧ k ≠ gh ∧ VT.ownBlock ≠ some k) (.slice o l.length cap) 1 l.length (naC l) := HV.out.fr HA.out.2.2.1 (fun k hd _ hs => by
        rcases hs with hs | hs | hs
        · exact hd.1 hs
        · exact hd.2.1 hs
        · exact hd.2.2 hs)
      obtain ⟨b, off, rfl, -, hlb, hc⟩ := RowIn.at_ hin j hlt
      have cj : wr.cell? ⟨b, off + j, none⟩ = some (.int .i64 (l[j] : Nat)) := hc j _ (naC_at hlt)
      have hkn := HK.out l[j] (List.getElem_mem hlt)
      have htl2 : s'.todo.length ≤ 1000 := by omega
      have htl3 := reach_len s' l[j] h
      have HC := Lib.hid (HRE.out VT' s' l[j] wr HA.out.2.1 hkn htl2)
      obtain ⟨rest, hrest⟩ : ∃ rest, l.drop (j + 1) = rest := ⟨_, rfl⟩
      rw [hrest] at hra
      have HRA := Lib.hid hra
      have HRS := Lib.hid hrest
      clear hra hrest hin hc hkn htl2
      generalize l[j] = x at *
      obtain ⟨X, hX⟩ : ∃ X, ck.reach s' x h = X := ⟨_, rfl⟩
      have hr2 : ck.reachAll s' (x :: rest) h = if X.2 = true then ck.reachAll X.1 rest h else (X.1, false) := by rw [← hX]; rfl
      rw [hX] at HC htl3
      have HR2 := Lib.hid (hr2.symm.trans HRA.out)
      clear hr2 hX HRA
      go_wp2_with fail
      refine HC.out.mono ?_
      rintro e w2 ⟨rfl, VT2, hw2, hf2, ho2⟩
      have H2 : Hid (WkAt w2 B q gh n VT2 X.1 ∧ Fr (fun y => y = q ∨ y = gh ∨ VT.ownBlock = some y) w w2 ∧ (VT2.ownBlock = VT.ownBlock ∨ ∃ y, VT2.ownBlock = some y ∧ w.heap.size ≤ y)) := Lib.hid (by
        obtain ⟨-, g2, g3, g4⟩ := HA.out
        refine ⟨hw2, g3.trans hf2 (fun k hk hs => ?_), ?_⟩
        · rcases hs with hs | hs | hs
          · exact .inl hs
          · exact .inr (.inl hs)
          · rcases g4 with g4 | ⟨y, g4, hy⟩
            · exact .inr (.inr (g4.symm.trans hs))
            · rw [g4] at hs
              have := Option.some.inj hs
              omega
        · rcases ho2 with ho2 | ⟨y, ho2, hy⟩
          · rw [ho2]; exact g4
          · exact .inr ⟨y, ho2, Nat.le_trans g3.size hy⟩)
      clear hw2 hf2 ho2 HC HA cj hlb
      obtain ⟨s2, ok⟩ := X
      dsimp only at H2 HR2 htl3 ⊢
      cases ok with
      | false =>
        have HR : Hid (R0 = (s2, false)) := Lib.hid (by have := HR2.out; rw [if_neg (by decide)] at this; exact this.symm)
        clear HR2
        go_wp2_with fail
        go_ret
        exact ReachAns.eq ⟨rfl, _, H2.out⟩ HR.out.symm
      | true =>
        have HR : Hid (ck.reachAll s2 (l.drop (j + 1)) h = R0) := Lib.hid (by have := HR2.out; rw [if_pos rfl] at this; rw [HRS.out]; exact this)
        clear HR2
        go_wp2_with fail
        go_roundg (l.length - (j + 1))
        case measure => omega
        case rel => exact ⟨j + 1, VT2, s2, by go_num, by omega, Nat.le_refl _, by omega, Lib.hid ⟨HR.out, H2.out⟩⟩
end Go.Proofs.YtoknolljfeaapaaDoor
