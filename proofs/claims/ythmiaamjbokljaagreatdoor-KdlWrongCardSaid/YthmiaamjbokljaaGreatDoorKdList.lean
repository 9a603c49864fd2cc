/- list: the nodes that stand in so many { . -/
import Derived.Test.YthmiaamjbokljaaGreatDoorKdListP
import Derived.Test.YthmiaamjbokljaaGreatDoorTkUnq
namespace Go.Proofs.YthmiaamjbokljaaGreatDoor
open Go.RowKit
theorem run_app_node (w : World) (B : Nat) (V : Value) (n : Nat) (hBw : B ≤ w.heap.size) (g0 : Nat) (c0 c1 c2 c3 : Value) (h1 : c0.oneCell' = true ∧ c1.oneCell' = true ∧ c2.oneCell' = true ∧ c3.oneCell' = true) (hg : w.heap[g0]? = some (nodeO c0 c1 c2 c3)) (hn : n ≤ 8192) (hsome : ∃ cs, w.ownsRow B 39 4 V n cs) (ty : TypeId) :
    ∃ g cap w', (Builtin.append_ #[22, 22] ty #[V, .slice (some ⟨g0, 0, none⟩) 1 1]).run Tryz.prog w = .ok (.slice (some ⟨g, 0, none⟩) (n + 1) cap) w' ∧ (∀ cs, w.ownsRow B 39 4 V n cs → w'.ownsRow B 39 4 (.slice (some ⟨g, 0, none⟩) (n + 1) cap) (n + 1) (cs ++ [c0, c1, c2, c3])) ∧ w.grownBy w' V.ownBlock ∧ (V.ownBlock = some g ∨ g = w.heap.size) := by
  obtain ⟨i0, hi, hz0, hz1, hz2⟩ := info_parts infoNode
  have hone : ∀ u ∈ [c0, c1, c2, c3], u.oneCell' = true := by
    intro u hu
    simp at hu
    rcases hu with rfl | rfl | rfl | rfl
    · exact h1.1
    · exact h1.2.1
    · exact h1.2.2.1
    · exact h1.2.2.2
  have hnews : ∀ j u, [c0, c1, c2, c3][j]? = some u → w.cell? ((⟨g0, 0, none⟩ : Addr).add j) = some u := fun j u hu => by rw [addr_b0, cell_of_heap hg]; simpa using hu
  obtain ⟨cs, hown⟩ := hsome
  obtain ⟨V', w', hrun, r1, r2, r3, r4⟩ := run_append_own_at (P := Tryz.prog) w B 22 ty 39 i0 _ 4 88 Tryz.underlying22 hi hz0 hz1 hz2 rfl (by omega) V n cs hown ⟨g0, 0, none⟩ 1 1 [c0, c1, c2, c3] rfl hnews hone (by unfold maxLen; omega) (by omega) hBw
  rcases r1.2 with ⟨_, h0⟩ | ⟨g, cap, cur, rfl, _⟩
  · omega
  refine ⟨g, cap, w', hrun, fun cs' hown' => ?_, r2, ?_⟩
  · obtain ⟨V2, w2, hrun2, q1, q2, q3, q4⟩ := run_append_own_at (P := Tryz.prog) w B 22 ty 39 i0 _ 4 88 Tryz.underlying22 hi hz0 hz1 hz2 rfl (by omega) V n cs' hown' ⟨g0, 0, none⟩ 1 1 [c0, c1, c2, c3] rfl hnews hone (by unfold maxLen; omega) (by omega) hBw
    rw [hrun] at hrun2
    injection hrun2 with e1 e2
    subst e1 e2
    exact q1
  · rcases r4 with r4 | r4
    · exact .inl r4.symm
    · exact .inr (Option.some.inj r4)
theorem wpList_app_node {w : World} {ops : Array Oper} {rest : List Oper} {o : Oper} {a : Act} {Q : Exit → Act → World → Prop} (hgd : o.guard = none) (s x : Operand)
    (ho : o.op = .call { callee := .builtin .append, args := #[s, x], argTypes := #[22, 22] }) (B : Nat) (V : Value) (n : Nat) (hs : a.eval s = V) (hBw : B ≤ w.heap.size)
    (g0 : Nat) (c0 c1 c2 c3 : Value) (hx : a.eval x = .slice (some ⟨g0, 0, none⟩) 1 1) (h1 : c0.oneCell' = true ∧ c1.oneCell' = true ∧ c2.oneCell' = true ∧ c3.oneCell' = true) (hg : w.heap[g0]? = some (nodeO c0 c1 c2 c3)) (hn : n ≤ 8192) (hsome : ∃ cs, w.ownsRow B 39 4 V n cs)
    (h : ∀ g cap w', (∀ cs, w.ownsRow B 39 4 V n cs → w'.ownsRow B 39 4 (.slice (some ⟨g, 0, none⟩) (n + 1) cap) (n + 1) (cs ++ [c0, c1, c2, c3])) → w.grownBy w' V.ownBlock → (V.ownBlock = some g ∨ g = w.heap.size) → wpList Tryz.prog ops Q rest (a.put o.dst (.slice (some ⟨g, 0, none⟩) (n + 1) cap)) w') :
    wpList Tryz.prog ops Q (o :: rest) a w := by
  refine wpList_plain hgd fun K hK => ?_
  obtain ⟨g, cap, w', hr, h2, h3, h4⟩ := run_app_node w B V n hBw g0 c0 c1 c2 c3 h1 hg hn hsome o.type
  unfold Oper.wp execOp
  simp only [ho, resolve, invoke, builtin, Sem.run_bind, Sem.run_pure, Result.andThen_ok, List.map_toArray, List.map_cons, List.map_nil, hs, hx, hr]
  exact hK _ _ (h g cap w' h2 h3 h4)
set_option maxRecDepth 100000 in
set_option maxHeartbeats 6400000 in
theorem list_ct (f : Nat) (hN : ∀ f', f' < f → NodeCt f') : ListC f := by
  intro p e d s o cap w h hlim hbeg hf hd
  have hpl := h.lt
  have hb0 := below_one w (.cells #[.int .i64 0, .int .i64 0] 30)
  have H0 : Hid (LA w (w.alloc (.cells #[.int .i64 0, .int .i64 0] 30)) p e nilV [] s o cap) := Lib.hid ⟨h.below hb0, heap_alloc_new _ _, ⟨[], fun _ => False, World.ownsRow_nil _ _ _ _, by unfold NodesC; rfl, fun _ h => h.elim⟩, Fr.of_below hb0 _, hpl⟩
  obtain ⟨R, hR⟩ : ∃ R, kd.list e f d s [] = R := ⟨_, rfl⟩
  rw [hR]
  have HR := Lib.hid hR
  have HLIM := Lib.hid hlim
  have HNC := Lib.hid hN
  clear hb0 hR h hlim hN
  go_enter Tryz.func19, Tryz.ntmps19
  go_wp2_with fail
  go_loopg [6] f (fun gg v6 wr => ∃ (s : kd.Ps) (ns : List kd.Node) (o : Option Addr) (cap : Nat) (oV : Option Addr) (cV : Nat) (g : Nat), v6 = .slice oV ns.length cV ∧ g ≤ gg ∧ Hid (LA w wr p e (.slice oV ns.length cV) ns s o cap ∧ kd.list e g d s ns = R ∧ 3 * s.toks.length + 3 ≤ g ∧ g ≤ f ∧ Lim s ns.length ∧ s.begun ≤ 300))
  case atStart => exact ⟨s, [], o, cap, none, 0, f, rfl, Nat.le_refl _, Lib.hid ⟨H0.out, HR.out, hf, Nat.le_refl _, HLIM.out, hbeg⟩⟩
  case round =>
    clear H0 HR HLIM hf hbeg
    obtain ⟨s, ns, o, cap, oV, cV, g, rfl, hgg, HA⟩ := hrel
    generalize wr = wo at *
    go_wp2_with fail
    go_loopg [] s.toks.length (fun g2 wr => ∃ (s2 : kd.Ps) (o2 : Option Addr) (cap2 : Nat), s2.toks.length ≤ g2 ∧ Hid (LA w wr p e (.slice oV ns.length cV) ns s2 o2 cap2 ∧ s2.toks <:+ s.toks ∧ s2.begun = s.begun ∧ kd.breaks s2 = kd.breaks s))
    case atStart => exact ⟨s, o, cap, Nat.le_refl _, Lib.hid ⟨HA.out.1, List.suffix_refl _, rfl, rfl⟩⟩
    case round =>
      obtain ⟨s2, o2, cap2, hg2, HB⟩ := hrel
      obtain ⟨t, ht⟩ : ∃ t, kd.peek e s2 = t := ⟨_, rfl⟩
      have HP := Lib.hid (peek_any p e s2 o2 cap2 wr HB.out.1.pr)
      rw [ht] at HP
      have HT := Lib.hid ht
      clear ht
      go_wp2_with fail
      refine HP.out.mono ?_
      rintro ev w1 ⟨rfl, hb1⟩
      have HA1 := Lib.hid (HB.out.1.below hb1)
      clear hb1 HP
      have hfl := fun wx => run_tok_field t wx
      by_cases h5 : t.kind = 5
      case pos =>
        have h5i : ((t.kind : Int) == 5) = true := by simp; omega
        obtain ⟨r, hr⟩ : ∃ r, s2.toks = t :: r := by
          obtain ⟨l, b⟩ := s2
          have h2 := HT.out
          cases l with
          | nil => rw [← h2] at h5; cases h5
          | cons a r => exact ⟨r, by rw [← h2]; rfl⟩
        have HBK : Hid (kd.breaks (kd.take s2) = kd.breaks s ∧ (kd.take s2).toks <:+ s.toks ∧ (kd.take s2).toks.length = r.length ∧ r.length + 1 ≤ s2.toks.length) := Lib.hid ⟨by
          rw [← HB.out.2.2.2]
          unfold kd.breaks kd.take
          dsimp only
          rw [hr, List.tail_cons, List.dropWhile_cons, if_pos (decide_eq_true h5)], (kd.take_suf s2).trans HB.out.2.1, by unfold kd.take; dsimp only; rw [hr]; rfl, by rw [hr]; exact Nat.le_refl _⟩
        have HK := Lib.hid (take_any p e s2 o2 cap2 w1 HA1.out.pr)
        rw [HT.out] at HK
        have hlr := HBK.out.2.2.2
        clear h5 hr
        go_wp2_with fail
        refine HK.out.mono ?_
        rintro ev w2 ⟨rfl, ⟨o3, cap3, hpr⟩, hfr⟩
        have HA2 := Lib.hid (HA1.out.taken hpr hfr)
        clear hpr hfr HK
        go_wp2_with fail
        go_roundg r.length
        case measure => omega
        case rel => exact ⟨kd.take s2, o3, cap3, by rw [HBK.out.2.2.1]; exact Nat.le_refl _, Lib.hid ⟨HA2.out, HBK.out.2.1, HB.out.2.2.1, HBK.out.1⟩⟩
      case neg =>
        have h5i : ((t.kind : Int) == 5) = false := by simp; omega
        have hbs : kd.breaks s = s2 := by
          rw [← HB.out.2.2.2]
          obtain ⟨l, b⟩ := s2
          unfold kd.breaks
          have h2 := HT.out
          cases l with
          | nil => rfl
          | cons a r =>
            have h3 : a.kind ≠ 5 := by rw [show a = t from h2]; exact h5
            dsimp only
            rw [List.dropWhile_cons, if_neg (by simpa using h3)]
        obtain ⟨g, rfl⟩ : ∃ g', g = g' + 1 := ⟨g - 1, by have := HA.out.2.2.1; omega⟩
        have hrun := HA.out.2.1
        unfold kd.list at hrun
        dsimp only at hrun
        rw [hbs] at hrun
        have HRUN := Lib.hid hrun
        have HLS : Hid (Lim s2 ns.length ∧ s2.begun ≤ 300 ∧ 3 * s2.toks.length + 2 ≤ g ∧ g < f) := Lib.hid ⟨HA.out.2.2.2.2.1.suf HB.out.2.1, by rw [HB.out.2.2.1]; exact HA.out.2.2.2.2.2, by have := HB.out.2.1.length_le; have := HA.out.2.2.1; omega, by have := HA.out.2.2.2.1; omega⟩
        clear hrun hbs h5 HA HB HT
        have HCL := Lib.hid (closes_any p e s2 o2 cap2 d w1 HA1.out.pr)
        go_wp2_with fail
        refine HCL.out.mono ?_
        rintro ev w2 ⟨rfl, hb2⟩
        have HA2 := Lib.hid (HA1.out.below hb2)
        clear hb2 HA1 HCL
        cases hcl : kd.closes e d s2
        case true =>
          have hrun := HRUN.out
          rw [if_pos hcl] at hrun
          have HE := Lib.hid hrun
          have HD := Lib.hid (HA2.out.done 0 0)
          obtain ⟨d0, d1, e0, e1, hfu⟩ := fault_cells HA2.out.fl
          clear hrun HRUN hcl
          go_wp2_with fail
          refine bodyPost_ret (results_tmp_row rfl _ _ w.heap.size 30 _ (0, 0) _ rfl HD.out.1 Tryz.underlying30 rfl (by kernel_rfl)) rfl ?_
          rw [← HE.out]
          exact ⟨_, rfl, HD.out.2.1, ⟨_, _, HD.out.2.2.1⟩, HD.out.2.2.2⟩
        case false =>
          have hrun := HRUN.out
          rw [if_neg (by rw [hcl]; decide)] at hrun
          obtain ⟨N, hNd⟩ : ∃ N, kd.node e g d s2 = N := ⟨_, rfl⟩
          have HND := Lib.hid (HNC.out g HLS.out.2.2.2 p e d s2 o2 cap2 w2 HA2.out.pr ⟨by have := HLS.out.1.few; omega, HLS.out.1.short⟩ HLS.out.2.1 HLS.out.2.2.1 hd)
          rw [hNd] at HND hrun
          have HNDE := Lib.hid hNd
          clear HRUN
          have HRUN := Lib.hid hrun
          clear hrun hcl hNd
          go_wp2_with fail
          refine HND.out.mono ?_
          intro ev w3 hev
          cases hNc : N with
          | bad c x y =>
            rw [hNc] at hev
            obtain ⟨rfl, hfr, hc⟩ := hev
            have hci : ((c : Int) == 0) = false := by simp; omega
            obtain ⟨hfl3, hfr3⟩ := HA2.out.failed hfr
            have HE : Hid (R = .bad c x y) := Lib.hid (by have := HRUN.out; rw [hNc] at this; exact this.symm)
            have HC := Lib.hid hc
            have hb5 := (below_one w3 (nodeO (str []) nilV nilV nilV)).trans ((below_one (w3.alloc (nodeO (str []) nilV nilV nilV)) (.cells #[.int .i64 c, .int .i64 x] 30)).mono (by simp))
            have hfl5 := (hb5.block _ (heap_lt hfl3)).trans hfl3
            have hT5 := heap_alloc_new (w3.alloc (nodeO (str []) nilV nilV nilV)) (.cells #[.int .i64 c, .int .i64 x] 30)
            rw [World.size_alloc] at hT5
            have HD := Lib.hid (And.intro (row_drew (setFault_at hfl5 c x)) (((hfr3.below hb5).setCell ⟨w.heap.size, 0, none⟩ (.int .i64 c) (.inl (Nat.le_refl _))).setCell ⟨w.heap.size, 1, none⟩ (.int .i64 x) (.inl (Nat.le_refl _))).drew)
            have hm3 : w.heap.size < w3.heap.size := heap_lt hfl3
            clear hb5 hfl3 hfr3 hfr hc hNc HA2 HND HNDE HRUN HLS HNC hd
            go_upto_region 7 with fail
            generalize (w3.alloc (nodeO (str []) nilV nilV nilV)).alloc (.cells #[.int .i64 c, .int .i64 x] 30) = w5 at *
            generalize w3.heap.size = g7 at *
            obtain ⟨q0, q1, _, _, hqu⟩ := fault_cells hT5
            obtain ⟨d0, d1, e0, e1, hfu⟩ := fault_cells hfl5
            clear hT5 hfl5
            go_wp2_with fail
            go_region
            all_goals go_wp2_with fail
            all_goals
              refine bodyPost_ret (results_tmp_row rfl _ _ w.heap.size 30 _ (0, 0) _ rfl HD.out.1 Tryz.underlying30 rfl (by kernel_rfl)) rfl ?_
              rw [HE.out]
              exact ⟨rfl, HD.out.2, HC.out⟩
          | ok n s3 =>
            rw [hNc] at hev
            obtain ⟨c0, c1, c2, c3, rfl, hfr, ⟨o3, cap3, hpr⟩, hn⟩ := hev
            obtain ⟨nm, a1, a2, a3, b1, b2, b3, q1, q2, q3, rfl, rfl, rfl, rfl⟩ := hn.shape
            have hb5 := (below_one w3 (nodeO (str nm) (.slice a1 a2 a3) (.slice b1 b2 b3) (.slice q1 q2 q3))).trans ((below_one (w3.alloc (nodeO (str nm) (.slice a1 a2 a3) (.slice b1 b2 b3) (.slice q1 q2 q3))) (.cells #[.int .i64 0, .int .i64 0] 30)).mono (by simp))
            have hT4 := heap_alloc2_old w3 (nodeO (str nm) (.slice a1 a2 a3) (.slice b1 b2 b3) (.slice q1 q2 q3)) (.cells #[.int .i64 0, .int .i64 0] 30)
            have hT5 := heap_alloc_new (w3.alloc (nodeO (str nm) (.slice a1 a2 a3) (.slice b1 b2 b3) (.slice q1 q2 q3))) (.cells #[.int .i64 0, .int .i64 0] 30)
            rw [World.size_alloc] at hT5
            have HA3 := Lib.hid (HA2.out.taken hpr hfr)
            have HB5 := Lib.hid hb5
            have HF3 := Lib.hid (And.intro hfr hn)
            have HE : Hid (kd.list e g d s3 (ns ++ [n]) = R) := Lib.hid (by have := HRUN.out; rw [hNc] at this; exact this)
            have hsf := (kd.all_suf e g).2.1 d s2 n s3 (hNc ▸ HNDE.out)
            have hbg := (kd.all_beg e g).2.1 d s2 n s3 (hNc ▸ HNDE.out)
            have HLS3 : Hid (Lim s3 (ns.length + 1) ∧ s3.begun ≤ 300 ∧ 3 * s3.toks.length + 3 ≤ g ∧ g ≤ f) := Lib.hid ⟨⟨by
              have h1 := hsf.1.length_le
              rw [List.length_tail] at h1
              have h2 : s2.toks.length ≠ 0 := fun h0 => hsf.2 (List.length_eq_zero_iff.1 h0)
              have := HLS.out.1.few
              omega, fun x hx => HLS.out.1.short x (List.mem_of_mem_tail (hsf.1.subset hx))⟩, hbg, by
              have h1 := hsf.1.length_le
              rw [List.length_tail] at h1
              have h2 : s2.toks.length ≠ 0 := fun h0 => hsf.2 (List.length_eq_zero_iff.1 h0)
              have := HLS.out.2.2.1
              omega, by have := HLS.out.2.2.2; omega⟩
            have hm3 : w.heap.size < w3.heap.size := heap_lt HA3.out.fl
            have hnl : ns.length ≤ 8192 := by have := HLS.out.1.few; omega
            have HA5 := Lib.hid (HA3.out.below hb5)
            clear hb5 hfr hn hpr hNc HND HNDE HRUN HLS HNC hd hsf hbg
            go_upto_region 7 with fail
            generalize (w3.alloc (nodeO (str nm) (.slice a1 a2 a3) (.slice b1 b2 b3) (.slice q1 q2 q3))).alloc (.cells #[.int .i64 0, .int .i64 0] 30) = w5 at *
            generalize hg7 : w3.heap.size = g7 at *
            have HG7 := Lib.hid hg7
            clear hg7
            obtain ⟨r0, r1, _, _, hru⟩ := fault_cells hT5
            obtain ⟨m0, m1, m2, m3, _, _, _, _, hmu⟩ := node_cells hT4
            clear hT5 hT4
            have hb6 := below_one w5 (nodeO (str nm) (.slice a1 a2 a3) (.slice b1 b2 b3) (.slice q1 q2 q3))
            have HA6 := Lib.hid (HA5.out.below hb6)
            have HT6 := Lib.hid (heap_alloc_new w5 (nodeO (str nm) (.slice a1 a2 a3) (.slice b1 b2 b3) (.slice q1 q2 q3)))
            have HB6 : Hid (Below w3.heap.size w3 (w5.alloc (nodeO (str nm) (.slice a1 a2 a3) (.slice b1 b2 b3) (.slice q1 q2 q3)))) := Lib.hid (by rw [HG7.out]; exact HB5.out.trans (hb6.mono (Nat.le_of_lt hmu)))
            have HSM : Hid (∃ cs, (w5.alloc (nodeO (str nm) (.slice a1 a2 a3) (.slice b1 b2 b3) (.slice q1 q2 q3))).ownsRow (w.heap.size + 1) 39 4 (.slice oV ns.length cV) ns.length cs) := Lib.hid (by obtain ⟨cs, D, h1, -⟩ := HA6.out.lr.row; exact ⟨cs, h1⟩)
            have hB6 : w.heap.size + 1 ≤ (w5.alloc (nodeO (str nm) (.slice a1 a2 a3) (.slice b1 b2 b3) (.slice q1 q2 q3))).heap.size := by simp; omega
            clear hb6
            go_wp2_with (at_builtin; refine wpList_app_node rfl _ _ rfl (w.heap.size + 1) (.slice oV ns.length cV) ns.length rfl hB6 w5.heap.size (str nm) (.slice a1 a2 a3) (.slice b1 b2 b3) (.slice q1 q2 q3) rfl ⟨rfl, rfl, rfl, rfl⟩ HT6.out hnl HSM.out ?_)
            intro gV capV w6 t1 t2 t3
            have HA7 := Lib.hid (HA6.out.grown t2 (HA2.out.lr.snoc (by omega) (heap_lt HA2.out.fl) HF3.out.1 HB6.out HF3.out.2 t1 t2 (t3.imp id (fun h => h.trans (by simp)))))
            clear t1 t2 t3 HA6 HB6 HF3 HA5 HA3 HSM hB6 HT6 m0 m1 m2 m3 r0 r1 HB5
            go_wp2_with fail
            go_roundg g
            case measure => omega
            case rel => exact ⟨s3, ns ++ [n], o3, cap3, some ⟨gV, 0, none⟩, capV, g, by rw [List.length_append, List.length_singleton], Nat.le_refl _, Lib.hid ⟨by rw [List.length_append, List.length_singleton]; exact HA7.out, HE.out, HLS3.out.2.2.1, HLS3.out.2.2.2, by rw [List.length_append, List.length_singleton]; exact HLS3.out.1, HLS3.out.2.1⟩⟩
end Go.Proofs.YthmiaamjbokljaaGreatDoor
