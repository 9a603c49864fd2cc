/- TimerPlays (made by tools/mktmplays.py out of XTmPlays.head). -/
import Derived.Test.YtfelmnhhldgobaaTmPM
import Derived.Deep.CutBlock
namespace Go.Proofs.Ytfelmnhhldgobaa
open Go.RowKit
abbrev opO (t : tm.T) : Obj := .cells #[.int .i64 t.id, .int .i64 t.owner, .int .i64 t.due, .int .i64 t.every] 30
def PH (B : Nat) (w0 w : World) (c : Nat) (V : Value) (s : tm.St) (mb : Nat) (now made : Int) (Vm : Value) (m : List tm.T) : Prop := Mine B w0 w c V s ∧ w.heap[mb]? = some (rcO now made Vm) ∧ RIn w (fun k => ¬ OwnC c V k ∧ k ≠ mb) Vm m ∧ ¬ OwnC c V mb ∧ B ≤ mb
section
variable {B : Nat} {w0 w w' : World} {c : Nat} {V : Value} {s : tm.St} {mb : Nat} {now made : Int} {Vm : Value} {m : List tm.T} {x : Nat} {O : Obj}
theorem PM.head (p : PM B w0 w c V s mb now made Vm m x O) : PH B w0 w c V s mb now made Vm m := ⟨p.my, p.box, p.row, p.mc, p.mB⟩
theorem PH.to (h : PH B w0 w c V s mb now made Vm m) (O : Obj) : PM B w0 (w.alloc O) c V s mb now made Vm m w.heap.size O :=
  have b := below_one w O
  ⟨h.1.below b, (b.block _ (heap_lt h.2.1)).trans h.2.1, RowIn.below h.2.2.1 b, h.2.2.2.1, h.2.2.2.2, heap_alloc_new w O, fun a => Nat.lt_irrefl _ (h.1.ck.own_lt a).2, fun e => by have := heap_lt h.2.1; omega⟩
theorem PH.below (h : PH B w0 w c V s mb now made Vm m) (b : Below w.heap.size w w') : PH B w0 w' c V s mb now made Vm m := ⟨h.1.below b, (b.block _ (heap_lt h.2.1)).trans h.2.1, RowIn.below h.2.2.1 b, h.2.2.2.1, h.2.2.2.2⟩
theorem RIn.slice {D : Nat → Prop} {V : Value} {l : List tm.T} (h : RIn w D V l) : ∃ o cap, V = .slice o l.length cap ∧ l.length ≤ cap ∧ cap ≤ 9223372036854775807 := by
  obtain ⟨o, cap, e, h1, h2, -⟩ := h
  exact ⟨o, cap, e, h1, h2⟩
end
set_option maxRecDepth 100000 in
set_option maxHeartbeats 6400000 in
theorem timerPlays_any (VO : Value) (ops : List tm.T) (w : World) (hO : RIn w (fun b => b < w.heap.size) VO ops) (hn : ops.length ≤ 4611686018427387904) (hdue : ∀ t, t ∈ ops → -9223372036854775808 ≤ t.due) : Calls Try.prog 3 #[VO] w fun e w' => e = .returned (.bool true) ∧ Below w.heap.size w w' := by
  have HA := Lib.hid (fun W => alive_any W)
  have HN := Lib.hid (newC_any w)
  obtain ⟨oO, cO, rfl, hO1, hO2⟩ := hO.slice
  have HI := Lib.hid hO
  clear hO
  go_enter Try.func3, Try.ntmps3
  go_wp2_with fail
  with_reducible refine HN.out.mono ?_
  rintro e x1 ⟨rfl, hx⟩
  have b0 := below_one w (.cells #[.int .i64 0, .int .i64 0, .slice none 0 0] 65)
  have H0 : Hid (Mine w.heap.size w x1 w.heap.size (.slice none 0 0) tm.St.zero) := Lib.hid (hx ▸ ⟨CS.new w, b0, fun y hy => ((CS.new w).own_lt hy).1, b0.size⟩)
  clear hx b0 HN
  go_wp2_with fail
  with_reducible refine (HA.out _).mono ?_
  rintro e x2 ⟨rfl, b2⟩
  have HM := Lib.hid (H0.out.below b2)
  clear b2 H0 HA
  have HP0 : Hid (PH w.heap.size w (x2.alloc (rcO 0 0 (.slice none 0 0))) w.heap.size (.slice none 0 0) tm.St.zero x2.heap.size 0 0 (.slice none 0 0) []) := Lib.hid (by
    have b := below_one x2 (rcO 0 0 (.slice none 0 0))
    exact ⟨HM.out.below b, heap_alloc_new x2 _, RowIn.nil _ _ _, fun a => Nat.lt_irrefl _ (HM.out.ck.own_lt a).2, HM.out.low⟩)
  obtain ⟨c, hc⟩ : ∃ c, w.heap.size = c := ⟨_, rfl⟩
  obtain ⟨mb, hmb⟩ : ∃ mb, x2.heap.size = mb := ⟨_, rfl⟩
  have HB : Hid (w.heap.size = c) := Lib.hid hc
  rw [hmb, hc] at HP0
  clear HM
  go_upto_region 5 with fail
  clear hc hmb
  go_wp2_with fail
  go_loopg [35] ops.length (fun gg s35 wr => ∃ (k : Nat) (V : Value) (s : tm.St) (now made : Int) (Vm : Value) (m : List tm.T), s35 = .int .i64 k ∧ k ≤ ops.length ∧ ops.length - k ≤ gg ∧ Hid (PH c w wr c V s mb now made Vm m ∧ tm.Sm s now made m ∧ made ≤ (k : Int)))
  case atStart => exact ⟨0, _, _, 0, 0, _, [], rfl, Nat.zero_le _, Nat.le_refl _, Lib.hid ⟨HP0.out, tm.Sm.zero, Int.le_refl _⟩⟩
  case round =>
    clear HP0
    obtain ⟨k, V, s, now, made, Vm, m, rfl, hk, hgg, HX⟩ := hrel
    by_cases hkt : k < ops.length
    · have hkt' : (k : Int) < (ops.length : Int) := by omega
      have bW : Below w.heap.size w wr := by rw [HB.out]; exact HX.out.1.1.bel
      obtain ⟨bO, offO, rfl, hbO, e0, e1, e2, e3⟩ := RIn.cell (RowIn.below HI.out bW) k hkt
      obtain ⟨t, ht⟩ : ∃ t, tm.ix ops k = t := ⟨_, rfl⟩
      rw [ht] at e0 e1 e2 e3
      have HT := Lib.hid ht
      clear ht bW
      have p1 := HX.out.1.to (opO t)
      obtain ⟨W, hW⟩ : ∃ W, wr.alloc (opO t) = W := ⟨_, rfl⟩
      rw [hW] at p1
      obtain ⟨x, hx⟩ : ∃ x, wr.heap.size = x := ⟨_, rfl⟩
      rw [hx] at p1
      obtain ⟨om, cm, rfl, hmc, hmcm⟩ := p1.row.slice
      have y0 : W.cell? ⟨x, 0, none⟩ = some (.int .i64 t.id) := (cell_of_heap p1.kx).trans rfl
      have y1 : W.cell? ⟨x, 1, none⟩ = some (.int .i64 t.owner) := (cell_of_heap p1.kx).trans rfl
      have y2 : W.cell? ⟨x, 2, none⟩ = some (.int .i64 t.due) := (cell_of_heap p1.kx).trans rfl
      have y3 : W.cell? ⟨x, 3, none⟩ = some (.int .i64 t.every) := (cell_of_heap p1.kx).trans rfl
      have ly := heap_lt p1.kx
      have z0 : W.cell? ⟨mb, 0, none⟩ = some (.int .i64 now) := (cell_of_heap p1.box).trans rfl
      have z1 : W.cell? ⟨mb, 1, none⟩ = some (.int .i64 made) := (cell_of_heap p1.box).trans rfl
      have z2 : W.cell? ⟨mb, 2, none⟩ = some (.slice om m.length cm) := (cell_of_heap p1.box).trans rfl
      have lz := heap_lt p1.box
      have hm64 := HX.out.2.1.len
      have hmm : made ≤ (k : Int) := HX.out.2.2
      have hmd := HX.out.2.1.md
      have hn0 := HX.out.2.1.good.n0
      have hn1 := HX.out.2.1.good.n1
      have hnw := HX.out.2.1.nw
      have hls := HX.out.2.1.lst
      have HP := Lib.hid (And.intro p1 HX.out.2.1)
      have hwW : wr.heap.size ≤ W.heap.size := by rw [← hW]; simp
      have hmbw : mb < wr.heap.size := heap_lt HX.out.1.2.1
      have HDue := Lib.hid (hdue t (by rw [← HT.out, tm.ix_get hkt]; exact List.getElem_mem hkt))
      clear p1 HX HT
      go_upto_block 2 with fail
      go_cut [25, 26, 27, 28, 29, 30, 31, 32, 33, 34, 35] from 7 to 172 (fun s25 s26 s27 s28 s29 s30 s31 s32 s33 s34 s35 wx => s25 = .pointer (some ⟨c, 0, none⟩) ∧ s26 = .pointer (some ⟨c, 0, none⟩) ∧ s27 = .bool false ∧ s28 = .bool false ∧ s29 = .bool true ∧ s30 = .bool false ∧ s31 = .bool false ∧ s32 = .agg #[.int .i64 0, .int .i64 0, .slice none 0 0] ∧ s33 = .slice (some ⟨bO, offO, none⟩) ops.length cO ∧ s34 = .int .i64 ops.length ∧ s35 = .int .i64 k ∧ ∃ (V : Value) (s : tm.St) (now made : Int) (om : Option Addr) (cm : Nat) (m : List tm.T), Hid (PM c w wx c V s mb now made (.slice om m.length cm) m x (opO t) ∧ tm.Sm s now made m) ∧ Hid (made ≤ ((k + 1 : Nat) : Int)) ∧ m.length ≤ 64)
      case first =>
        by_cases k1 : t.id = 1
        · as_aux_lemma =>
            rw [k1] at y0
            obtain ⟨⟨id, er⟩, S2, hRS⟩ : ∃ a b, tm.setR s t.owner t.due t.every = (a, b) := ⟨_, _, rfl⟩
            obtain ⟨made2, m2, id2, er2, hRR⟩ : ∃ a b c d, tm.rset now made m t.owner t.due t.every = ((a, b), (c, d)) := ⟨_, _, _, _, rfl⟩
            have hset := HP.out.2.set t.owner t.due t.every
            rw [hRS, hRR] at hset
            obtain ⟨rfl, rfl⟩ : id = id2 ∧ er = er2 := by
              have := hset.1
              injection this with a b
              exact ⟨a, b⟩
            have HSm := Lib.hid hset.2
            have HC := Lib.hid (set_any c V s t.owner t.due t.every W HP.out.1.my.ck HP.out.2.good (by omega) _ hRS)
            clear hset hRS
            go_wp2_with fail
            with_reducible refine HC.out.mono ?_
            rintro e w1 ⟨rfl, r⟩
            obtain ⟨V1, p2⟩ := HP.out.1.prog r
            clear r HC hW hx e0 e1 e2 e3 y0 y1 y2 y3 ly z0 z1 z2 lz
            have y1 : w1.cell? ⟨x, 1, none⟩ = some (.int .i64 t.owner) := (cell_of_heap p2.kx).trans rfl
            have y2 : w1.cell? ⟨x, 2, none⟩ = some (.int .i64 t.due) := (cell_of_heap p2.kx).trans rfl
            have y3 : w1.cell? ⟨x, 3, none⟩ = some (.int .i64 t.every) := (cell_of_heap p2.kx).trans rfl
            have ly := heap_lt p2.kx
            have z0 : w1.cell? ⟨mb, 0, none⟩ = some (.int .i64 now) := (cell_of_heap p2.box).trans rfl
            have z1 : w1.cell? ⟨mb, 1, none⟩ = some (.int .i64 made) := (cell_of_heap p2.box).trans rfl
            have z2 : w1.cell? ⟨mb, 2, none⟩ = some (.slice om m.length cm) := (cell_of_heap p2.box).trans rfl
            have lz := heap_lt p2.box
            have HR := Lib.hid (rset_any now made om cm m t.owner t.due t.every _ w1 p2.row hm64 (by omega) (by omega) hmd (by omega) _ hRR)
            have HP2 := Lib.hid p2
            clear p2 hRR
            go_wp2_with fail
            with_reducible refine HR.out.mono ?_
            rintro e w2 ⟨o2, c2, rfl, hri, b2⟩
            have bb := below_one w2 (rcO now made2 (.slice o2 m2.length c2))
            have ab := heap_alloc_new w2 (rcO now made2 (.slice o2 m2.length c2))
            obtain ⟨W3, hW3⟩ : ∃ W, w2.alloc (rcO now made2 (.slice o2 m2.length c2)) = W := ⟨_, rfl⟩
            rw [hW3] at bb ab
            have b3 : Below w1.heap.size w1 W3 := b2.trans (bb.mono b2.size)
            have p3' := HP2.out.below b3
            have HP3 := Lib.hid (HP2.out.store b3 now made2 (RowIn.below hri bb))
            clear y1 y2 y3 ly z0 z1 z2 lz
            have y0 : W3.cell? ⟨w2.heap.size, 0, none⟩ = some (.int .i64 now) := (cell_of_heap ab).trans rfl
            have y1 : W3.cell? ⟨w2.heap.size, 1, none⟩ = some (.int .i64 made2) := (cell_of_heap ab).trans rfl
            have y2 : W3.cell? ⟨w2.heap.size, 2, none⟩ = some (.slice o2 m2.length c2) := (cell_of_heap ab).trans rfl
            have ly := heap_lt ab
            have z0 : W3.cell? ⟨mb, 0, none⟩ = some (.int .i64 now) := (cell_of_heap p3'.box).trans rfl
            have z1 : W3.cell? ⟨mb, 1, none⟩ = some (.int .i64 made) := (cell_of_heap p3'.box).trans rfl
            have z2 : W3.cell? ⟨mb, 2, none⟩ = some (.slice om m.length cm) := (cell_of_heap p3'.box).trans rfl
            have f0 := thaw (k := 0) p3'.box
            have f1 := thaw (k := 1) p3'.box
            have f2 := thaw (k := 2) p3'.box
            have lz := heap_lt p3'.box
            have n5 : (id != id) = false := by simp
            have n6 : (er != er) = false := by simp
            clear hri b2 bb ab b3 p3' HR HP2
            go_upto_region 13 with fail
            obtain ⟨X, hX⟩ : ∃ X, setC W3 mb now made2 (.slice o2 m2.length c2) = X := ⟨_, rfl⟩
            rw [hX] at HP3
            change Code.wp _ _ _ _ (setC W3 mb now made2 (.slice o2 m2.length c2))
            rw [hX]
            have HEnd : ∃ (V : Value) (s : tm.St) (now made : Int) (om : Option Addr) (cm : Nat) (m : List tm.T), Hid (PM c w X c V s mb now made (.slice om m.length cm) m x (opO t) ∧ tm.Sm s now made m) ∧ Hid (made ≤ ((k + 1 : Nat) : Int)) ∧ m.length ≤ 64 := ⟨_, _, _, _, _, _, _, Lib.hid ⟨HP3.out, HSm.out.1⟩, Lib.hid (by have := HSm.out.2; omega), (HSm.out.1).len⟩
            have HE := Lib.hid HEnd
            clear HEnd hX hW3 y0 y1 y2 ly z0 z1 z2 lz f0 f1 f2 HP3 HSm
            go_wp2_with fail
            go_meet
            exact ⟨rfl, rfl, rfl, rfl, rfl, rfl, rfl, rfl, rfl, rfl, rfl, HE.out⟩
        have q1 : (t.id == 1) = false := by simpa using k1
        by_cases k2 : t.id = 2
        · as_aux_lemma =>
            rw [k2] at y0
            obtain ⟨m2, hm2, hsm, hcnt⟩ := HP.out.2.stop t.owner
            obtain ⟨er, S2, hRS⟩ : ∃ a b, tm.stopR s t.owner = (a, b) := ⟨_, _, rfl⟩
            rw [hRS] at hsm hcnt
            have HC := Lib.hid (stop_all c V s t.owner W HP.out.1.my.ck HP.out.2.good.len _ hRS)
            clear hRS
            simp only at hcnt
            have HSm := Lib.hid hsm
            have hm2l := hsm.len
            clear hsm
            go_wp2_with fail
            with_reducible refine HC.out.mono ?_
            rintro e w1 ⟨rfl, r⟩
            obtain ⟨V1, p2⟩ := HP.out.1.prog r
            clear r HC hW hx e0 e1 e2 e3 y0 y1 y2 y3 ly z0 z1 z2 lz
            have y1 : w1.cell? ⟨x, 1, none⟩ = some (.int .i64 t.owner) := (cell_of_heap p2.kx).trans rfl
            have ly := heap_lt p2.kx
            have z2 : w1.cell? ⟨mb, 2, none⟩ = some (.slice om m.length cm) := (cell_of_heap p2.box).trans rfl
            have f2 := thaw (k := 2) p2.box
            have lz := heap_lt p2.box
            have HP2 := Lib.hid p2
            by_cases h0 : 0 < t.owner
            · rw [if_pos h0] at hm2
              have HW := Lib.hid (hm2 ▸ without_any om m.length cm m t.owner 0 _ w1 p2.row (by omega))
              clear p2 hm2
              go_wp2_with fail
              with_reducible refine HW.out.mono ?_
              rintro e w2 ⟨o2, c2, rfl, ro2, b2⟩
              have p3' := HP2.out.below b2
              have HP3 := Lib.hid (HP2.out.store2 b2 (RowIn.wide (ROwn.toIn ro2) fun k hk _ => .inr hk))
              clear y1 ly z2 f2 lz
              have z2 : w2.cell? ⟨mb, 2, none⟩ = some (.slice om m.length cm) := (cell_of_heap p3'.box).trans rfl
              have f2 := thaw (k := 2) p3'.box
              have lz := heap_lt p3'.box
              clear p3' b2 ro2 HW HP2
              go_upto_region 20 with fail
              obtain ⟨X, hX⟩ : ∃ X, w2.setCell ⟨mb, 2, none⟩ (.slice o2 m2.length c2) = X := ⟨_, rfl⟩
              rw [hX] at HP3
              change Code.wp _ _ _ _ (w2.setCell ⟨mb, 2, none⟩ (.slice o2 m2.length c2))
              rw [hX]
              clear hX z2 f2 lz
              have z2 : X.cell? ⟨mb, 2, none⟩ = some (.slice o2 m2.length c2) := (cell_of_heap HP3.out.box).trans rfl
              have lz := heap_lt HP3.out.box
              have HEnd : ∃ (V : Value) (s : tm.St) (now made : Int) (om : Option Addr) (cm : Nat) (m : List tm.T), Hid (PM c w X c V s mb now made (.slice om m.length cm) m x (opO t) ∧ tm.Sm s now made m) ∧ Hid (made ≤ ((k + 1 : Nat) : Int)) ∧ m.length ≤ 64 := ⟨_, _, _, _, _, _, _, Lib.hid ⟨HP3.out, HSm.out⟩, Lib.hid (by omega), (HSm.out).len⟩
              have HE := Lib.hid HEnd
              clear HEnd HP3 HSm
              rcases hcnt with ⟨rfl, hlt⟩ | ⟨rfl, heq⟩
              · have hlt2 : m2.length < m.length := hlt
                clear hlt
                go_wp2_with fail
                go_meet
                exact ⟨rfl, rfl, rfl, rfl, rfl, rfl, rfl, rfl, rfl, rfl, rfl, HE.out⟩
              · have hnl : ¬ m2.length < m.length := by omega
                clear heq
                go_wp2_with fail
                go_meet
                exact ⟨rfl, rfl, rfl, rfl, rfl, rfl, rfl, rfl, rfl, rfl, rfl, HE.out⟩
            · rw [if_neg h0] at hm2
              obtain rfl := hm2
              clear p2
              have HEnd : ∃ (V : Value) (s : tm.St) (now made : Int) (om : Option Addr) (cm : Nat) (m : List tm.T), Hid (PM c w w1 c V s mb now made (.slice om m.length cm) m x (opO t) ∧ tm.Sm s now made m) ∧ Hid (made ≤ ((k + 1 : Nat) : Int)) ∧ m.length ≤ 64 := ⟨_, _, _, _, _, _, _, Lib.hid ⟨HP2.out, HSm.out⟩, Lib.hid (by omega), (HSm.out).len⟩
              have HE := Lib.hid HEnd
              clear HEnd HP2 HSm
              rcases hcnt with ⟨rfl, hlt⟩ | ⟨rfl, heq⟩
              · exact absurd hlt (Nat.lt_irrefl _)
              · clear heq
                go_wp2_with fail
                go_meet
                exact ⟨rfl, rfl, rfl, rfl, rfl, rfl, rfl, rfl, rfl, rfl, rfl, HE.out⟩
        have q2 : (t.id == 2) = false := by simpa using k2
        by_cases k3 : t.id = 3
        · as_aux_lemma =>
            rw [k3] at y0
            obtain ⟨m2, hm2, hsm, hcnt⟩ := HP.out.2.drop t.owner
            have HC := Lib.hid (drop_all c V s t.owner W HP.out.1.my.ck HP.out.2.good.len _ rfl)
            rw [hcnt] at HC
            have hml : m2.length ≤ m.length := by rw [hm2]; split; exact List.length_filter_le _ _; exact Nat.le_refl _
            have ewd : wrap64 ((m.length : Int) - (m2.length : Int)) = (m.length : Int) - (m2.length : Int) := by unfold wrap64; omega
            clear hcnt
            have HSm := Lib.hid hsm
            have hm2l := hsm.len
            clear hsm
            go_wp2_with fail
            with_reducible refine HC.out.mono ?_
            rintro e w1 ⟨rfl, r⟩
            obtain ⟨V1, p2⟩ := HP.out.1.prog r
            clear r HC hW hx e0 e1 e2 e3 y0 y1 y2 y3 ly z0 z1 z2 lz
            have y1 : w1.cell? ⟨x, 1, none⟩ = some (.int .i64 t.owner) := (cell_of_heap p2.kx).trans rfl
            have ly := heap_lt p2.kx
            have z2 : w1.cell? ⟨mb, 2, none⟩ = some (.slice om m.length cm) := (cell_of_heap p2.box).trans rfl
            have f2 := thaw (k := 2) p2.box
            have lz := heap_lt p2.box
            have HP2 := Lib.hid p2
            by_cases h0 : 0 < t.owner
            · rw [if_pos h0] at hm2
              have HW := Lib.hid (hm2 ▸ without_any om m.length cm m 0 t.owner _ w1 p2.row (by omega))
              clear p2 hm2
              go_wp2_with fail
              with_reducible refine HW.out.mono ?_
              rintro e w2 ⟨o2, c2, rfl, ro2, b2⟩
              have p3' := HP2.out.below b2
              have HP3 := Lib.hid (HP2.out.store2 b2 (RowIn.wide (ROwn.toIn ro2) fun k hk _ => .inr hk))
              clear y1 ly z2 f2 lz
              have z2 : w2.cell? ⟨mb, 2, none⟩ = some (.slice om m.length cm) := (cell_of_heap p3'.box).trans rfl
              have f2 := thaw (k := 2) p3'.box
              have lz := heap_lt p3'.box
              clear p3' b2 ro2 HW HP2
              go_upto_region 27 with fail
              obtain ⟨X, hX⟩ : ∃ X, w2.setCell ⟨mb, 2, none⟩ (.slice o2 m2.length c2) = X := ⟨_, rfl⟩
              rw [hX] at HP3
              change Code.wp _ _ _ _ (w2.setCell ⟨mb, 2, none⟩ (.slice o2 m2.length c2))
              rw [hX]
              clear hX z2 f2 lz
              have z2 : X.cell? ⟨mb, 2, none⟩ = some (.slice o2 m2.length c2) := (cell_of_heap HP3.out.box).trans rfl
              have lz := heap_lt HP3.out.box
              have HEnd : ∃ (V : Value) (s : tm.St) (now made : Int) (om : Option Addr) (cm : Nat) (m : List tm.T), Hid (PM c w X c V s mb now made (.slice om m.length cm) m x (opO t) ∧ tm.Sm s now made m) ∧ Hid (made ≤ ((k + 1 : Nat) : Int)) ∧ m.length ≤ 64 := ⟨_, _, _, _, _, _, _, Lib.hid ⟨HP3.out, HSm.out⟩, Lib.hid (by omega), (HSm.out).len⟩
              have HE := Lib.hid HEnd
              clear HEnd HP3 HSm
              go_wp2_with fail
              go_meet
              exact ⟨rfl, rfl, rfl, rfl, rfl, rfl, rfl, rfl, rfl, rfl, rfl, HE.out⟩
            · rw [if_neg h0] at hm2
              obtain rfl := hm2
              clear p2
              have HEnd : ∃ (V : Value) (s : tm.St) (now made : Int) (om : Option Addr) (cm : Nat) (m : List tm.T), Hid (PM c w w1 c V s mb now made (.slice om m.length cm) m x (opO t) ∧ tm.Sm s now made m) ∧ Hid (made ≤ ((k + 1 : Nat) : Int)) ∧ m.length ≤ 64 := ⟨_, _, _, _, _, _, _, Lib.hid ⟨HP2.out, HSm.out⟩, Lib.hid (by omega), (HSm.out).len⟩
              have HE := Lib.hid HEnd
              clear HEnd HP2 HSm
              go_wp2_with fail
              go_meet
              exact ⟨rfl, rfl, rfl, rfl, rfl, rfl, rfl, rfl, rfl, rfl, rfl, HE.out⟩
        have q3 : (t.id == 3) = false := by simpa using k3
        by_cases k4 : t.id = 4
        · as_aux_lemma =>
            rw [k4] at y0
            obtain ⟨till, htill⟩ : ∃ till, t.due = till := ⟨_, rfl⟩
            rw [htill] at y2
            obtain ⟨told, er, S2, hRS⟩ : ∃ a b d, tm.passR s till = ((a, b), d) := ⟨_, _, _, rfl⟩
            obtain ⟨now2, m2, told2, er2, hRR⟩ : ∃ a b d f, tm.rpass now m till = ((a, b), (d, f)) := ⟨_, _, _, _, rfl⟩
            have hps := HP.out.2.pass till
            rw [hRS, hRR] at hps
            obtain ⟨rfl, rfl⟩ : told = told2 ∧ er = er2 := by
              have := hps.1
              injection this with a b
              exact ⟨a, b⟩
            have HSm := Lib.hid hps.2
            have HLt : Hid (told.length ≤ 512) := Lib.hid (by
              have h1 : told.length ≤ 16 ∨ told = [] := by
                by_cases cc : till < s.now ∨ tm.isT till = false
                · refine .inr ?_
                  have := hRS
                  unfold tm.passR at this
                  rw [if_pos cc] at this
                  injection this with a _
                  injection a with a _
                  exact a.symm
                · refine .inl ?_
                  have := hRS
                  unfold tm.passR at this
                  rw [if_neg cc, tm.tells_l] at this
                  injection this with a _
                  injection a with a _
                  rw [← a]
                  exact tm.tells_le till 16 s.l
              rcases h1 with h1 | h1
              · omega
              · rw [h1]; simp)
            have HC := Lib.hid (pass_any c V s till W HP.out.1.my.ck HP.out.2.good _ hRS)
            have HBd := Lib.hid HP.out.2.bds
            clear hps hRS
            go_wp2_with fail
            with_reducible refine HC.out.mono ?_
            rintro e w1 ⟨V1, Vt, rfl, ps⟩
            have p2 := HP.out.1.pass ps
            have HRow := Lib.hid ps.row
            obtain ⟨ot, ct, hVt⟩ : ∃ a b, Vt = .slice a told.length b := own_slice ps.row
            subst hVt
            clear ps HC hW hx e0 e1 e2 e3 y0 y1 y2 y3 ly z0 z1 z2 lz
            have z0 : w1.cell? ⟨mb, 0, none⟩ = some (.int .i64 now) := (cell_of_heap p2.box).trans rfl
            have z1 : w1.cell? ⟨mb, 1, none⟩ = some (.int .i64 made) := (cell_of_heap p2.box).trans rfl
            have z2 : w1.cell? ⟨mb, 2, none⟩ = some (.slice om m.length cm) := (cell_of_heap p2.box).trans rfl
            have lz := heap_lt p2.box
            have HR := Lib.hid (rpass_any now made om cm m till _ w1 p2.row hm64 HBd.out _ hRR)
            have HP2 := Lib.hid p2
            clear p2 hRR
            go_wp2_with fail
            with_reducible refine HR.out.mono ?_
            rintro e w2 ⟨o2, c2, o3, c3, rfl, hri, hro, b2⟩
            have bb := below_one w2 (rcO now2 made (.slice o2 m2.length c2))
            have ab := heap_alloc_new w2 (rcO now2 made (.slice o2 m2.length c2))
            obtain ⟨W3, hW3⟩ : ∃ W, w2.alloc (rcO now2 made (.slice o2 m2.length c2)) = W := ⟨_, rfl⟩
            rw [hW3] at bb ab
            have b3 : Below w1.heap.size w1 W3 := b2.trans (bb.mono b2.size)
            have p3' := HP2.out.below b3
            have HP3 := Lib.hid (HP2.out.store b3 now2 made (RowIn.below hri bb))
            have hmb1 := heap_lt HP2.out.box
            have HRows : Hid (DIn (setC W3 mb now2 made (.slice o2 m2.length c2)) ot told ∧ RIn (setC W3 mb now2 made (.slice o2 m2.length c2)) (fun _ => True) (.slice o3 told.length c3) told) := Lib.hid (by
              have hr1 := row_below HRow.out b3
              have hr2 : DRow (setC W3 mb now2 made (.slice o2 m2.length c2)) wr.heap.size (.slice ot told.length ct) told := own_keep (own_base hr1 hwW) fun g _ hg _ _ _ => setC_far _ _ _ _ _ g (by omega)
              exact ⟨DRow.toD hr2, (RowIn.below hro bb).keep (fun k hk _ => setC_far _ _ _ _ _ k (by omega)) (by simp) fun _ _ _ => trivial⟩)
            clear z0 z1 z2 lz
            have y0 : W3.cell? ⟨w2.heap.size, 0, none⟩ = some (.int .i64 now2) := (cell_of_heap ab).trans rfl
            have y1 : W3.cell? ⟨w2.heap.size, 1, none⟩ = some (.int .i64 made) := (cell_of_heap ab).trans rfl
            have y2 : W3.cell? ⟨w2.heap.size, 2, none⟩ = some (.slice o2 m2.length c2) := (cell_of_heap ab).trans rfl
            have ly := heap_lt ab
            have z0 : W3.cell? ⟨mb, 0, none⟩ = some (.int .i64 now) := (cell_of_heap p3'.box).trans rfl
            have z1 : W3.cell? ⟨mb, 1, none⟩ = some (.int .i64 made) := (cell_of_heap p3'.box).trans rfl
            have z2 : W3.cell? ⟨mb, 2, none⟩ = some (.slice om m.length cm) := (cell_of_heap p3'.box).trans rfl
            have f0 := thaw (k := 0) p3'.box
            have f1 := thaw (k := 1) p3'.box
            have f2 := thaw (k := 2) p3'.box
            have lz := heap_lt p3'.box
            have n6 : (er != er) = false := by simp
            clear hri hro b2 bb ab b3 p3' HR HP2 HRow
            go_upto_region 38 with fail
            obtain ⟨X, hX⟩ : ∃ X, setC W3 mb now2 made (.slice o2 m2.length c2) = X := ⟨_, rfl⟩
            rw [hX] at HP3 HRows
            change Code.wp _ _ _ _ (setC W3 mb now2 made (.slice o2 m2.length c2))
            rw [hX]
            have HSa := Lib.hid (same_any ot ct o3 c3 told HLt.out _ X HRows.out.1 HRows.out.2)
            clear hX hW3 y0 y1 y2 ly z0 z1 z2 lz f0 f1 f2
            go_wp2_with fail
            with_reducible refine HSa.out.mono ?_
            rintro e X2 ⟨rfl, b9⟩
            have HP9 := Lib.hid (HP3.out.below b9)
            clear b9
            have HEnd : ∃ (V : Value) (s : tm.St) (now made : Int) (om : Option Addr) (cm : Nat) (m : List tm.T), Hid (PM c w X2 c V s mb now made (.slice om m.length cm) m x (opO t) ∧ tm.Sm s now made m) ∧ Hid (made ≤ ((k + 1 : Nat) : Int)) ∧ m.length ≤ 64 := ⟨_, _, _, _, _, _, _, Lib.hid ⟨HP9.out, HSm.out⟩, Lib.hid (by omega), (HSm.out).len⟩
            have HE := Lib.hid HEnd
            clear HEnd HP3 HP9 HSm HRows HSa
            go_wp2_with fail
            go_meet
            exact ⟨rfl, rfl, rfl, rfl, rfl, rfl, rfl, rfl, rfl, rfl, rfl, HE.out⟩
        have q4 : (t.id == 4) = false := by simpa using k4
        by_cases k5 : t.id = 5
        · as_aux_lemma =>
            rw [k5] at y0
            by_cases hbig : 2199023255552 < t.due
            · have HE := Lib.hid (HP.out.1.head)
              have HS := Lib.hid HP.out.2
              go_wp2_with fail
              go_roundg (ops.length - (k + 1))
              case measure => omega
              case rel => exact ⟨k + 1, V, s, now, made, _, m, (by first | rfl | (simp; done) | (simp; omega)), by omega, Nat.le_refl _, Lib.hid ⟨HE.out, HS.out, by omega⟩⟩
            have ew : wrap64 (now + t.due) = now + t.due := by have := HDue.out; unfold wrap64; omega
            obtain ⟨till, htill⟩ : ∃ till, now + t.due = till := ⟨_, rfl⟩
            rw [htill] at ew
            obtain ⟨told, er, S2, hRS⟩ : ∃ a b d, tm.passR s till = ((a, b), d) := ⟨_, _, _, rfl⟩
            obtain ⟨now2, m2, told2, er2, hRR⟩ : ∃ a b d f, tm.rpass now m till = ((a, b), (d, f)) := ⟨_, _, _, _, rfl⟩
            have hps := HP.out.2.pass till
            rw [hRS, hRR] at hps
            obtain ⟨rfl, rfl⟩ : told = told2 ∧ er = er2 := by
              have := hps.1
              injection this with a b
              exact ⟨a, b⟩
            have HSm := Lib.hid hps.2
            have HLt : Hid (told.length ≤ 512) := Lib.hid (by
              have h1 : told.length ≤ 16 ∨ told = [] := by
                by_cases cc : till < s.now ∨ tm.isT till = false
                · refine .inr ?_
                  have := hRS
                  unfold tm.passR at this
                  rw [if_pos cc] at this
                  injection this with a _
                  injection a with a _
                  exact a.symm
                · refine .inl ?_
                  have := hRS
                  unfold tm.passR at this
                  rw [if_neg cc, tm.tells_l] at this
                  injection this with a _
                  injection a with a _
                  rw [← a]
                  exact tm.tells_le till 16 s.l
              rcases h1 with h1 | h1
              · omega
              · rw [h1]; simp)
            have HC := Lib.hid (pass_any c V s till W HP.out.1.my.ck HP.out.2.good _ hRS)
            have HBd := Lib.hid HP.out.2.bds
            clear hps hRS
            go_wp2_with fail
            with_reducible refine HC.out.mono ?_
            rintro e w1 ⟨V1, Vt, rfl, ps⟩
            have p2 := HP.out.1.pass ps
            have HRow := Lib.hid ps.row
            obtain ⟨ot, ct, hVt⟩ : ∃ a b, Vt = .slice a told.length b := own_slice ps.row
            subst hVt
            clear ps HC hW hx e0 e1 e2 e3 y0 y1 y2 y3 ly z0 z1 z2 lz
            have z0 : w1.cell? ⟨mb, 0, none⟩ = some (.int .i64 now) := (cell_of_heap p2.box).trans rfl
            have z1 : w1.cell? ⟨mb, 1, none⟩ = some (.int .i64 made) := (cell_of_heap p2.box).trans rfl
            have z2 : w1.cell? ⟨mb, 2, none⟩ = some (.slice om m.length cm) := (cell_of_heap p2.box).trans rfl
            have lz := heap_lt p2.box
            have HR := Lib.hid (rpass_any now made om cm m till _ w1 p2.row hm64 HBd.out _ hRR)
            have HP2 := Lib.hid p2
            clear p2 hRR
            go_wp2_with fail
            with_reducible refine HR.out.mono ?_
            rintro e w2 ⟨o2, c2, o3, c3, rfl, hri, hro, b2⟩
            have bb := below_one w2 (rcO now2 made (.slice o2 m2.length c2))
            have ab := heap_alloc_new w2 (rcO now2 made (.slice o2 m2.length c2))
            obtain ⟨W3, hW3⟩ : ∃ W, w2.alloc (rcO now2 made (.slice o2 m2.length c2)) = W := ⟨_, rfl⟩
            rw [hW3] at bb ab
            have b3 : Below w1.heap.size w1 W3 := b2.trans (bb.mono b2.size)
            have p3' := HP2.out.below b3
            have HP3 := Lib.hid (HP2.out.store b3 now2 made (RowIn.below hri bb))
            have hmb1 := heap_lt HP2.out.box
            have HRows : Hid (DIn (setC W3 mb now2 made (.slice o2 m2.length c2)) ot told ∧ RIn (setC W3 mb now2 made (.slice o2 m2.length c2)) (fun _ => True) (.slice o3 told.length c3) told) := Lib.hid (by
              have hr1 := row_below HRow.out b3
              have hr2 : DRow (setC W3 mb now2 made (.slice o2 m2.length c2)) wr.heap.size (.slice ot told.length ct) told := own_keep (own_base hr1 hwW) fun g _ hg _ _ _ => setC_far _ _ _ _ _ g (by omega)
              exact ⟨DRow.toD hr2, (RowIn.below hro bb).keep (fun k hk _ => setC_far _ _ _ _ _ k (by omega)) (by simp) fun _ _ _ => trivial⟩)
            clear z0 z1 z2 lz
            have y0 : W3.cell? ⟨w2.heap.size, 0, none⟩ = some (.int .i64 now2) := (cell_of_heap ab).trans rfl
            have y1 : W3.cell? ⟨w2.heap.size, 1, none⟩ = some (.int .i64 made) := (cell_of_heap ab).trans rfl
            have y2 : W3.cell? ⟨w2.heap.size, 2, none⟩ = some (.slice o2 m2.length c2) := (cell_of_heap ab).trans rfl
            have ly := heap_lt ab
            have z0 : W3.cell? ⟨mb, 0, none⟩ = some (.int .i64 now) := (cell_of_heap p3'.box).trans rfl
            have z1 : W3.cell? ⟨mb, 1, none⟩ = some (.int .i64 made) := (cell_of_heap p3'.box).trans rfl
            have z2 : W3.cell? ⟨mb, 2, none⟩ = some (.slice om m.length cm) := (cell_of_heap p3'.box).trans rfl
            have f0 := thaw (k := 0) p3'.box
            have f1 := thaw (k := 1) p3'.box
            have f2 := thaw (k := 2) p3'.box
            have lz := heap_lt p3'.box
            have n6 : (er != er) = false := by simp
            clear hri hro b2 bb ab b3 p3' HR HP2 HRow
            go_upto_region 38 with fail
            obtain ⟨X, hX⟩ : ∃ X, setC W3 mb now2 made (.slice o2 m2.length c2) = X := ⟨_, rfl⟩
            rw [hX] at HP3 HRows
            change Code.wp _ _ _ _ (setC W3 mb now2 made (.slice o2 m2.length c2))
            rw [hX]
            have HSa := Lib.hid (same_any ot ct o3 c3 told HLt.out _ X HRows.out.1 HRows.out.2)
            clear hX hW3 y0 y1 y2 ly z0 z1 z2 lz f0 f1 f2
            go_wp2_with fail
            with_reducible refine HSa.out.mono ?_
            rintro e X2 ⟨rfl, b9⟩
            have HP9 := Lib.hid (HP3.out.below b9)
            clear b9
            have HEnd : ∃ (V : Value) (s : tm.St) (now made : Int) (om : Option Addr) (cm : Nat) (m : List tm.T), Hid (PM c w X2 c V s mb now made (.slice om m.length cm) m x (opO t) ∧ tm.Sm s now made m) ∧ Hid (made ≤ ((k + 1 : Nat) : Int)) ∧ m.length ≤ 64 := ⟨_, _, _, _, _, _, _, Lib.hid ⟨HP9.out, HSm.out⟩, Lib.hid (by omega), (HSm.out).len⟩
            have HE := Lib.hid HEnd
            clear HEnd HP3 HP9 HSm HRows HSa
            go_wp2_with fail
            go_meet
            exact ⟨rfl, rfl, rfl, rfl, rfl, rfl, rfl, rfl, rfl, rfl, rfl, HE.out⟩
        have q5 : (t.id == 5) = false := by simpa using k5
        as_aux_lemma =>
          have HEnd : ∃ (V : Value) (s : tm.St) (now made : Int) (om : Option Addr) (cm : Nat) (m : List tm.T), Hid (PM c w W c V s mb now made (.slice om m.length cm) m x (opO t) ∧ tm.Sm s now made m) ∧ Hid (made ≤ ((k + 1 : Nat) : Int)) ∧ m.length ≤ 64 := ⟨_, _, _, _, _, _, _, Lib.hid ⟨HP.out.1, HP.out.2⟩, Lib.hid (by omega), (HP.out.2).len⟩
          have HE := Lib.hid HEnd
          clear HEnd HP
          go_wp2_with fail
          go_meet
          exact ⟨rfl, rfl, rfl, rfl, rfl, rfl, rfl, rfl, rfl, rfl, rfl, HE.out⟩
      case rest =>
        obtain ⟨rfl, rfl, rfl, rfl, rfl, rfl, rfl, rfl, rfl, rfl, rfl, V, s, now, made, om, cm, m, HP, HM, hm64⟩ := hcut
        clear hW hx e0 e1 e2 e3 y0 y1 y2 y3 ly z0 z1 z2 lz hls hmm hmd hnw hn0 hn1
        have HSl : Hid ((tm.srt m.length m).length ≤ 512) := Lib.hid (by rw [(tm.srt_spec m.length m (Nat.le_refl _) HP.out.2.sl.ids HP.out.2.sl.own).1.length_eq]; omega)
        have z0 : wc.cell? ⟨mb, 0, none⟩ = some (.int .i64 now) := (cell_of_heap HP.out.1.box).trans rfl
        have z2 : wc.cell? ⟨mb, 2, none⟩ = some (.slice om m.length cm) := (cell_of_heap HP.out.1.box).trans rfl
        have lz := heap_lt HP.out.1.box
        rcases HP.out.2.next with ⟨hm0, e1, e2⟩ | ⟨i, hi, e2, e1⟩
        · as_aux_lemma =>
            have HN1 := Lib.hid (next_any c V s wc HP.out.1.my.ck _ e1)
            have HF := Lib.hid (first_any om m.length cm m _ wc HP.out.1.row)
            rw [e2] at HF
            clear e1 e2 hm0
            go_wp2_with fail
            with_reducible refine HN1.out.mono ?_
            rintro e w' ⟨rfl, hw⟩
            replace hw := hw.symm
            subst hw
            go_wp2_with fail
            with_reducible refine HF.out.mono ?_
            rintro e X1 ⟨rfl, b1⟩
            have p1 := HP.out.1.below b1
            have hS1 : mb < X1.heap.size ∧ X1.cell? ⟨mb, 0, none⟩ = some (.int .i64 now) ∧ X1.cell? ⟨mb, 2, none⟩ = some (.slice om m.length cm) := ⟨heap_lt p1.box, (cell_of_heap p1.box).trans rfl, (cell_of_heap p1.box).trans rfl⟩
            have n0 : (now != now) = false := by simp
            have HNo := Lib.hid (fun k => now_any c V s (X1.drewN k) (p1.my.ck.below (below_dN (Below.refl _ _) k)))
            rw [HP.out.2.nw] at HNo
            have HAll := Lib.hid (fun k => all_any c V s (X1.drewN k) (p1.my.ck.below (below_dN (Below.refl _ _) k)) HP.out.2.good.len)
            have HP1 := Lib.hid p1
            clear z0 z2 lz b1 p1 HN1 HF
            go_upto_region 42 with fail
            have hSD : mb < X1.drew.heap.size ∧ X1.drew.cell? ⟨mb, 0, none⟩ = some (.int .i64 now) ∧ X1.drew.cell? ⟨mb, 2, none⟩ = some (.slice om m.length cm) := hS1
            refine wp_region_noPanic ?_
            refine wp_region_held_drew (S := (fun X => mb < X.heap.size ∧ X.cell? ⟨mb, 0, none⟩ = some (.int .i64 now) ∧ X.cell? ⟨mb, 2, none⟩ = some (.slice om m.length cm))) (by kernel_rfl) ?_ (fun hHeld => ?_)
            · exact hSD
            refine wpAnyH_take (i := 0) (v := ?_) rfl (by kernel_rfl) (by kernel_rfl) (by kernel_rfl) (fun _ _ _ h => h) (Or.inl ⟨by rfl, ?_⟩) (by assumption) ?_
            rotate_left
            · ((intro w hSw); (try dsimp only at hSw); (obtain ⟨hl0, hc0, hc2⟩ := hSw); (try simp only [List.getElem_toArray, List.getElem_cons_zero]); (go_simp); (try with_reducible rfl))
            (try simp only [Act.put, List.setIfInBounds_toArray, List.set_cons_zero, List.set_cons_succ, List.getElem_toArray, List.getElem_cons_zero])
            refine wpAnyH_take (i := 2) (v := ?_) rfl (by kernel_rfl) (by kernel_rfl) (by kernel_rfl) (fun _ _ _ h => h) (Or.inl ⟨by rfl, ?_⟩) (by assumption) ?_
            rotate_left
            · ((intro w hSw); (try dsimp only at hSw); (obtain ⟨hl0, hc0, hc2⟩ := hSw); (try simp only [List.getElem_toArray, List.getElem_cons_succ, List.getElem_cons_zero]); (go_simp); (try with_reducible rfl))
            (try simp only [Act.put, List.setIfInBounds_toArray, List.set_cons_zero, List.set_cons_succ, List.getElem_toArray, List.getElem_cons_succ, List.getElem_cons_zero])
            refine wpAnyH_take (i := 3) (v := ?_) rfl (by kernel_rfl) (by kernel_rfl) (by kernel_rfl) (fun _ _ _ h => h) (Or.inl ⟨by rfl, ?_⟩) (by assumption) ?_
            rotate_left
            · ((intro w hSw); (try dsimp only at hSw); (obtain ⟨hl0, hc0, hc2⟩ := hSw); (try simp only [List.getElem_toArray, List.getElem_cons_succ, List.getElem_cons_zero]); (go_simp); (try with_reducible rfl))
            (try simp only [Act.put, List.setIfInBounds_toArray, List.set_cons_zero, List.set_cons_succ, List.getElem_toArray, List.getElem_cons_succ, List.getElem_cons_zero])
            refine wpAnyH_ready (rs := [1]) (by kernel_rfl) (by simp) ?_
            refine AllReadyH.cons rfl (fun K hK => ?_) AllReadyH.nil
            (try simp only [List.getElem_toArray, List.getElem_cons_succ, List.getElem_cons_zero])
            go_simp
            go_at_call 19
            refine (HNo.out 1).mono ?_
            rintro e w' ⟨rfl, hw⟩
            replace hw := hw.symm
            subst hw
            (try go_wp2_with fail)
            refine hK.out _ _ ?_ (fun hHeld => ?_)
            · ((try dsimp only); exact hSD)
            clear hK K
            (try simp only [Act.put, List.setIfInBounds_toArray, List.set_cons_zero, List.set_cons_succ, List.getElem_toArray, List.getElem_cons_succ, List.getElem_cons_zero])
            refine wpAnyH_take (i := 4) (v := ?_) rfl (by kernel_rfl) (by kernel_rfl) (by kernel_rfl) (fun _ _ _ h => h) (Or.inl ⟨by rfl, ?_⟩) (by assumption) ?_
            rotate_left
            · ((intro w hSw); (try dsimp only at hSw); (obtain ⟨hl0, hc0, hc2⟩ := hSw); (try simp only [List.getElem_toArray, List.getElem_cons_succ, List.getElem_cons_zero]); (go_simp); (try with_reducible rfl))
            (try simp only [Act.put, List.setIfInBounds_toArray, List.set_cons_zero, List.set_cons_succ, List.getElem_toArray, List.getElem_cons_succ, List.getElem_cons_zero])
            refine wpAnyH_take (i := 5) (v := ?_) rfl (by kernel_rfl) (by kernel_rfl) (by kernel_rfl) (fun _ _ _ h => h) (Or.inl ⟨by rfl, ?_⟩) (by assumption) ?_
            rotate_left
            · ((intro w hSw); (try dsimp only at hSw); (obtain ⟨hl0, hc0, hc2⟩ := hSw); (try simp only [List.getElem_toArray, List.getElem_cons_succ, List.getElem_cons_zero]); (go_simp); (try with_reducible rfl))
            (try simp only [Act.put, List.setIfInBounds_toArray, List.set_cons_zero, List.set_cons_succ, List.getElem_toArray, List.getElem_cons_succ, List.getElem_cons_zero])
            refine wpAnyH_take (i := 6) (v := ?_) rfl (by kernel_rfl) (by kernel_rfl) (by kernel_rfl) (fun _ _ _ h => h) (Or.inl ⟨by rfl, ?_⟩) (by assumption) ?_
            rotate_left
            · ((intro w hSw); (try dsimp only at hSw); (obtain ⟨hl0, hc0, hc2⟩ := hSw); (try simp only [List.getElem_toArray, List.getElem_cons_succ, List.getElem_cons_zero]); (go_simp); (try with_reducible rfl))
            (try simp only [Act.put, List.setIfInBounds_toArray, List.set_cons_zero, List.set_cons_succ, List.getElem_toArray, List.getElem_cons_succ, List.getElem_cons_zero])
            refine wpAnyH_take (i := 7) (v := ?_) rfl (by kernel_rfl) (by kernel_rfl) (by kernel_rfl) (fun _ _ _ h => h) (Or.inl ⟨by rfl, ?_⟩) (by assumption) ?_
            rotate_left
            · ((intro w hSw); (try dsimp only at hSw); (obtain ⟨hl0, hc0, hc2⟩ := hSw); (try simp only [List.getElem_toArray, List.getElem_cons_succ, List.getElem_cons_zero]); (go_simp); (try with_reducible rfl))
            (try simp only [Act.put, List.setIfInBounds_toArray, List.set_cons_zero, List.set_cons_succ, List.getElem_toArray, List.getElem_cons_succ, List.getElem_cons_zero])
            refine wpAnyH_take (i := 8) (v := ?_) rfl (by kernel_rfl) (by kernel_rfl) (by kernel_rfl) (fun _ _ _ h => h) (Or.inl ⟨by rfl, ?_⟩) (by assumption) ?_
            rotate_left
            · ((intro w hSw); (try dsimp only at hSw); (obtain ⟨hl0, hc0, hc2⟩ := hSw); (try simp only [List.getElem_toArray, List.getElem_cons_succ, List.getElem_cons_zero]); (go_simp); (try with_reducible rfl))
            (try simp only [Act.put, List.setIfInBounds_toArray, List.set_cons_zero, List.set_cons_succ, List.getElem_toArray, List.getElem_cons_succ, List.getElem_cons_zero])
            refine wpAnyH_take (i := 9) (v := ?_) rfl (by kernel_rfl) (by kernel_rfl) (by kernel_rfl) (fun _ _ _ h => h) (Or.inl ⟨by rfl, ?_⟩) (by assumption) ?_
            rotate_left
            · ((intro w hSw); (try dsimp only at hSw); (obtain ⟨hl0, hc0, hc2⟩ := hSw); (try simp only [List.getElem_toArray, List.getElem_cons_succ, List.getElem_cons_zero]); (go_simp); (try with_reducible rfl))
            (try simp only [Act.put, List.setIfInBounds_toArray, List.set_cons_zero, List.set_cons_succ, List.getElem_toArray, List.getElem_cons_succ, List.getElem_cons_zero])
            refine wpAnyH_take (i := 10) (v := ?_) rfl (by kernel_rfl) (by kernel_rfl) (by kernel_rfl) (fun _ _ _ h => h) (Or.inl ⟨by rfl, ?_⟩) (by assumption) ?_
            rotate_left
            · ((intro w hSw); (try dsimp only at hSw); (obtain ⟨hl0, hc0, hc2⟩ := hSw); (try simp only [List.getElem_toArray, List.getElem_cons_succ, List.getElem_cons_zero]); (go_simp); (try with_reducible rfl))
            (try simp only [Act.put, List.setIfInBounds_toArray, List.set_cons_zero, List.set_cons_succ, List.getElem_toArray, List.getElem_cons_succ, List.getElem_cons_zero])
            refine wpAnyH_take (i := 11) (v := ?_) rfl (by kernel_rfl) (by kernel_rfl) (by kernel_rfl) (fun _ _ _ h => h) (Or.inl ⟨by rfl, ?_⟩) (by assumption) ?_
            rotate_left
            · ((intro w hSw); (try dsimp only at hSw); (obtain ⟨hl0, hc0, hc2⟩ := hSw); (try simp only [List.getElem_toArray, List.getElem_cons_succ, List.getElem_cons_zero]); (go_simp); (try with_reducible rfl))
            (try simp only [Act.put, List.setIfInBounds_toArray, List.set_cons_zero, List.set_cons_succ, List.getElem_toArray, List.getElem_cons_succ, List.getElem_cons_zero])
            refine wpAnyH_take (i := 12) (v := ?_) rfl (by kernel_rfl) (by kernel_rfl) (by kernel_rfl) (fun _ _ _ h => h) (Or.inl ⟨by rfl, ?_⟩) (by assumption) ?_
            rotate_left
            · ((intro w hSw); (try dsimp only at hSw); (obtain ⟨hl0, hc0, hc2⟩ := hSw); (try simp only [List.getElem_toArray, List.getElem_cons_succ, List.getElem_cons_zero]); (go_simp); (try with_reducible rfl))
            (try simp only [Act.put, List.setIfInBounds_toArray, List.set_cons_zero, List.set_cons_succ, List.getElem_toArray, List.getElem_cons_succ, List.getElem_cons_zero])
            refine wpAnyH_take (i := 13) (v := ?_) rfl (by kernel_rfl) (by kernel_rfl) (by kernel_rfl) (fun _ _ _ h => h) (Or.inl ⟨by rfl, ?_⟩) (by assumption) ?_
            rotate_left
            · ((intro w hSw); (try dsimp only at hSw); (obtain ⟨hl0, hc0, hc2⟩ := hSw); (try simp only [List.getElem_toArray, List.getElem_cons_succ, List.getElem_cons_zero]); (go_simp); (try with_reducible rfl))
            (try simp only [Act.put, List.setIfInBounds_toArray, List.set_cons_zero, List.set_cons_succ, List.getElem_toArray, List.getElem_cons_succ, List.getElem_cons_zero])
            refine wpAnyH_take (i := 14) (v := undef) rfl (by kernel_rfl) (by kernel_rfl) (by kernel_rfl) (fun _ _ _ h => h) (Or.inr ⟨by rfl, rfl⟩) (by assumption) ?_
            (try simp only [Act.put, List.setIfInBounds_toArray, List.set_cons_zero, List.set_cons_succ, List.getElem_toArray, List.getElem_cons_succ, List.getElem_cons_zero])
            refine wpAnyH_take (i := 15) (v := undef) rfl (by kernel_rfl) (by kernel_rfl) (by kernel_rfl) (fun _ _ _ h => h) (Or.inr ⟨by rfl, rfl⟩) (by assumption) ?_
            (try simp only [Act.put, List.setIfInBounds_toArray, List.set_cons_zero, List.set_cons_succ, List.getElem_toArray, List.getElem_cons_succ, List.getElem_cons_zero])
            refine wpAnyH_take (i := 16) (v := undef) rfl (by kernel_rfl) (by kernel_rfl) (by kernel_rfl) (fun _ _ _ h => h) (Or.inr ⟨by rfl, rfl⟩) (by assumption) ?_
            (try simp only [Act.put, List.setIfInBounds_toArray, List.set_cons_zero, List.set_cons_succ, List.getElem_toArray, List.getElem_cons_succ, List.getElem_cons_zero])
            refine wpAnyH_take (i := 17) (v := undef) rfl (by kernel_rfl) (by kernel_rfl) (by kernel_rfl) (fun _ _ _ h => h) (Or.inr ⟨by rfl, rfl⟩) (by assumption) ?_
            (try simp only [Act.put, List.setIfInBounds_toArray, List.set_cons_zero, List.set_cons_succ, List.getElem_toArray, List.getElem_cons_succ, List.getElem_cons_zero])
            refine wpAnyH_take (i := 18) (v := undef) rfl (by kernel_rfl) (by kernel_rfl) (by kernel_rfl) (fun _ _ _ h => h) (Or.inr ⟨by rfl, rfl⟩) (by assumption) ?_
            (try simp only [Act.put, List.setIfInBounds_toArray, List.set_cons_zero, List.set_cons_succ, List.getElem_toArray, List.getElem_cons_succ, List.getElem_cons_zero])
            refine wpAnyH_take (i := 19) (v := undef) rfl (by kernel_rfl) (by kernel_rfl) (by kernel_rfl) (fun _ _ _ h => h) (Or.inr ⟨by rfl, rfl⟩) (by assumption) ?_
            (try simp only [Act.put, List.setIfInBounds_toArray, List.set_cons_zero, List.set_cons_succ, List.getElem_toArray, List.getElem_cons_succ, List.getElem_cons_zero])
            refine wpAnyH_take (i := 20) (v := undef) rfl (by kernel_rfl) (by kernel_rfl) (by kernel_rfl) (fun _ _ _ h => h) (Or.inr ⟨by rfl, rfl⟩) (by assumption) ?_
            (try simp only [Act.put, List.setIfInBounds_toArray, List.set_cons_zero, List.set_cons_succ, List.getElem_toArray, List.getElem_cons_succ, List.getElem_cons_zero])
            refine wpAnyH_take (i := 21) (v := undef) rfl (by kernel_rfl) (by kernel_rfl) (by kernel_rfl) (fun _ _ _ h => h) (Or.inr ⟨by rfl, rfl⟩) (by assumption) ?_
            (try simp only [Act.put, List.setIfInBounds_toArray, List.set_cons_zero, List.set_cons_succ, List.getElem_toArray, List.getElem_cons_succ, List.getElem_cons_zero])
            refine wpAnyH_take (i := 22) (v := ?_) rfl (by kernel_rfl) (by kernel_rfl) (by kernel_rfl) (fun _ _ _ h => h) (Or.inl ⟨by rfl, ?_⟩) (by assumption) ?_
            rotate_left
            · ((intro w hSw); (try dsimp only at hSw); (obtain ⟨hl0, hc0, hc2⟩ := hSw); (try simp only [List.getElem_toArray, List.getElem_cons_succ, List.getElem_cons_zero]); (go_simp); (try with_reducible rfl))
            (try simp only [Act.put, List.setIfInBounds_toArray, List.set_cons_zero, List.set_cons_succ, List.getElem_toArray, List.getElem_cons_succ, List.getElem_cons_zero])
            refine wpAnyH_take (i := 23) (v := ?_) rfl (by kernel_rfl) (by kernel_rfl) (by kernel_rfl) (fun _ _ _ h => h) (Or.inl ⟨by rfl, ?_⟩) (by assumption) ?_
            rotate_left
            · ((intro w hSw); (try dsimp only at hSw); (obtain ⟨hl0, hc0, hc2⟩ := hSw); (try simp only [List.getElem_toArray, List.getElem_cons_succ, List.getElem_cons_zero]); (go_simp); (try with_reducible rfl))
            (try simp only [Act.put, List.setIfInBounds_toArray, List.set_cons_zero, List.set_cons_succ, List.getElem_toArray, List.getElem_cons_succ, List.getElem_cons_zero])
            refine wpAnyH_take (i := 24) (v := ?_) rfl (by kernel_rfl) (by kernel_rfl) (by kernel_rfl) (fun _ _ _ h => h) (Or.inl ⟨by rfl, ?_⟩) (by assumption) ?_
            rotate_left
            · ((intro w hSw); (try dsimp only at hSw); (obtain ⟨hl0, hc0, hc2⟩ := hSw); (try simp only [List.getElem_toArray, List.getElem_cons_succ, List.getElem_cons_zero]); (go_simp); (try with_reducible rfl))
            (try simp only [Act.put, List.setIfInBounds_toArray, List.set_cons_zero, List.set_cons_succ, List.getElem_toArray, List.getElem_cons_succ, List.getElem_cons_zero])
            refine wpAnyH_take (i := 25) (v := ?_) rfl (by kernel_rfl) (by kernel_rfl) (by kernel_rfl) (fun _ _ _ h => h) (Or.inl ⟨by rfl, ?_⟩) (by assumption) ?_
            rotate_left
            · ((intro w hSw); (try dsimp only at hSw); (obtain ⟨hl0, hc0, hc2⟩ := hSw); (try simp only [List.getElem_toArray, List.getElem_cons_succ, List.getElem_cons_zero]); (go_simp); (try with_reducible rfl))
            (try simp only [Act.put, List.setIfInBounds_toArray, List.set_cons_zero, List.set_cons_succ, List.getElem_toArray, List.getElem_cons_succ, List.getElem_cons_zero])
            refine wpAnyH_take (i := 26) (v := ?_) rfl (by kernel_rfl) (by kernel_rfl) (by kernel_rfl) (fun _ _ _ h => h) (Or.inl ⟨by rfl, ?_⟩) (by assumption) ?_
            rotate_left
            · ((intro w hSw); (try dsimp only at hSw); (obtain ⟨hl0, hc0, hc2⟩ := hSw); (try simp only [List.getElem_toArray, List.getElem_cons_succ, List.getElem_cons_zero]); (go_simp); (try with_reducible rfl))
            (try simp only [Act.put, List.setIfInBounds_toArray, List.set_cons_zero, List.set_cons_succ, List.getElem_toArray, List.getElem_cons_succ, List.getElem_cons_zero])
            refine wpAnyH_take (i := 27) (v := ?_) rfl (by kernel_rfl) (by kernel_rfl) (by kernel_rfl) (fun _ _ _ h => h) (Or.inl ⟨by rfl, ?_⟩) (by assumption) ?_
            rotate_left
            · ((intro w hSw); (try dsimp only at hSw); (obtain ⟨hl0, hc0, hc2⟩ := hSw); (try simp only [List.getElem_toArray, List.getElem_cons_succ, List.getElem_cons_zero]); (go_simp); (try with_reducible rfl))
            (try simp only [Act.put, List.setIfInBounds_toArray, List.set_cons_zero, List.set_cons_succ, List.getElem_toArray, List.getElem_cons_succ, List.getElem_cons_zero])
            refine wpAnyH_take (i := 28) (v := ?_) rfl (by kernel_rfl) (by kernel_rfl) (by kernel_rfl) (fun _ _ _ h => h) (Or.inl ⟨by rfl, ?_⟩) (by assumption) ?_
            rotate_left
            · ((intro w hSw); (try dsimp only at hSw); (obtain ⟨hl0, hc0, hc2⟩ := hSw); (try simp only [List.getElem_toArray, List.getElem_cons_succ, List.getElem_cons_zero]); (go_simp); (try with_reducible rfl))
            (try simp only [Act.put, List.setIfInBounds_toArray, List.set_cons_zero, List.set_cons_succ, List.getElem_toArray, List.getElem_cons_succ, List.getElem_cons_zero])
            refine wpAnyH_take (i := 29) (v := ?_) rfl (by kernel_rfl) (by kernel_rfl) (by kernel_rfl) (fun _ _ _ h => h) (Or.inl ⟨by rfl, ?_⟩) (by assumption) ?_
            rotate_left
            · ((intro w hSw); (try dsimp only at hSw); (obtain ⟨hl0, hc0, hc2⟩ := hSw); (try simp only [List.getElem_toArray, List.getElem_cons_succ, List.getElem_cons_zero]); (go_simp); (try with_reducible rfl))
            (try simp only [Act.put, List.setIfInBounds_toArray, List.set_cons_zero, List.set_cons_succ, List.getElem_toArray, List.getElem_cons_succ, List.getElem_cons_zero])
            refine wpAnyH_take (i := 30) (v := ?_) rfl (by kernel_rfl) (by kernel_rfl) (by kernel_rfl) (fun _ _ _ h => h) (Or.inl ⟨by rfl, ?_⟩) (by assumption) ?_
            rotate_left
            · ((intro w hSw); (try dsimp only at hSw); (obtain ⟨hl0, hc0, hc2⟩ := hSw); (try simp only [List.getElem_toArray, List.getElem_cons_succ, List.getElem_cons_zero]); (go_simp); (try with_reducible rfl))
            (try simp only [Act.put, List.setIfInBounds_toArray, List.set_cons_zero, List.set_cons_succ, List.getElem_toArray, List.getElem_cons_succ, List.getElem_cons_zero])
            refine wpAnyH_take (i := 31) (v := ?_) rfl (by kernel_rfl) (by kernel_rfl) (by kernel_rfl) (fun _ _ _ h => h) (Or.inl ⟨by rfl, ?_⟩) (by assumption) ?_
            rotate_left
            · ((intro w hSw); (try dsimp only at hSw); (obtain ⟨hl0, hc0, hc2⟩ := hSw); (try simp only [List.getElem_toArray, List.getElem_cons_succ, List.getElem_cons_zero]); (go_simp); (try with_reducible rfl))
            (try simp only [Act.put, List.setIfInBounds_toArray, List.set_cons_zero, List.set_cons_succ, List.getElem_toArray, List.getElem_cons_succ, List.getElem_cons_zero])
            refine wpAnyH_take (i := 32) (v := ?_) rfl (by kernel_rfl) (by kernel_rfl) (by kernel_rfl) (fun _ _ _ h => h) (Or.inl ⟨by rfl, ?_⟩) (by assumption) ?_
            rotate_left
            · ((intro w hSw); (try dsimp only at hSw); (obtain ⟨hl0, hc0, hc2⟩ := hSw); (try simp only [List.getElem_toArray, List.getElem_cons_succ, List.getElem_cons_zero]); (go_simp); (try with_reducible rfl))
            (try simp only [Act.put, List.setIfInBounds_toArray, List.set_cons_zero, List.set_cons_succ, List.getElem_toArray, List.getElem_cons_succ, List.getElem_cons_zero])
            refine wpAnyH_take (i := 33) (v := ?_) rfl (by kernel_rfl) (by kernel_rfl) (by kernel_rfl) (fun _ _ _ h => h) (Or.inl ⟨by rfl, ?_⟩) (by assumption) ?_
            rotate_left
            · ((intro w hSw); (try dsimp only at hSw); (obtain ⟨hl0, hc0, hc2⟩ := hSw); (try simp only [List.getElem_toArray, List.getElem_cons_succ, List.getElem_cons_zero]); (go_simp); (try with_reducible rfl))
            (try simp only [Act.put, List.setIfInBounds_toArray, List.set_cons_zero, List.set_cons_succ, List.getElem_toArray, List.getElem_cons_succ, List.getElem_cons_zero])
            refine wpAnyH_take (i := 35) (v := ?_) rfl (by kernel_rfl) (by kernel_rfl) (by kernel_rfl) (fun _ _ _ h => h) (Or.inl ⟨by rfl, ?_⟩) (by assumption) ?_
            rotate_left
            · ((intro w hSw); (try dsimp only at hSw); (obtain ⟨hl0, hc0, hc2⟩ := hSw); (try simp only [List.getElem_toArray, List.getElem_cons_succ, List.getElem_cons_zero]); (go_simp); (try with_reducible rfl))
            (try simp only [Act.put, List.setIfInBounds_toArray, List.set_cons_zero, List.set_cons_succ, List.getElem_toArray, List.getElem_cons_succ, List.getElem_cons_zero])
            refine wpAnyH_take (i := 36) (v := ?_) rfl (by kernel_rfl) (by kernel_rfl) (by kernel_rfl) (fun _ _ _ h => h) (Or.inl ⟨by rfl, ?_⟩) (by assumption) ?_
            rotate_left
            · ((intro w hSw); (try dsimp only at hSw); (obtain ⟨hl0, hc0, hc2⟩ := hSw); (try simp only [List.getElem_toArray, List.getElem_cons_succ, List.getElem_cons_zero]); (go_simp); (try with_reducible rfl))
            (try simp only [Act.put, List.setIfInBounds_toArray, List.set_cons_zero, List.set_cons_succ, List.getElem_toArray, List.getElem_cons_succ, List.getElem_cons_zero])
            refine wpAnyH_ready (rs := [34]) (by kernel_rfl) (by simp) ?_
            refine AllReadyH.cons rfl (fun K hK => ?_) AllReadyH.nil
            (try simp only [List.getElem_toArray, List.getElem_cons_succ, List.getElem_cons_zero])
            go_simp
            go_at_call 20
            refine (HAll.out 1).mono ?_
            rintro e X5 ⟨oA, cA, LA, rfl, hpm, hpw, hdi, b5'⟩
            have b5 : Below X1.heap.size X1 X5 := below_of_dN b5'
            obtain rfl := HP.out.2.all hpm hpw
            have hS5 : mb < X5.heap.size ∧ X5.cell? ⟨mb, 0, none⟩ = some (.int .i64 now) ∧ X5.cell? ⟨mb, 2, none⟩ = some (.slice om m.length cm) := ⟨Nat.lt_of_lt_of_le hS1.1 (b5).size, (cell_of_eq ((b5).block _ hS1.1) 0).trans hS1.2.1, (cell_of_eq ((b5).block _ hS1.1) 2).trans hS1.2.2⟩
            (try go_wp2_with fail)
            refine hK.out _ _ ?_ (fun hHeld => ?_)
            · ((try dsimp only); exact hS5)
            clear hK K
            (try simp only [Act.put, List.setIfInBounds_toArray, List.set_cons_zero, List.set_cons_succ, List.getElem_toArray, List.getElem_cons_succ, List.getElem_cons_zero])
            refine wpAnyH_ready (rs := [37]) (by kernel_rfl) (by simp) ?_
            refine AllReadyH.cons rfl (fun K hK => ?_) AllReadyH.nil
            (try simp only [List.getElem_toArray, List.getElem_cons_succ, List.getElem_cons_zero])
            go_simp
            go_at_call 21
            refine (sorted_any om m.length cm m X5 (RowIn.below (RowIn.wide HP1.out.row fun _ _ _ => trivial) b5) (by omega)).mono ?_
            rintro e X6 ⟨o6, c6, rfl, ro6, b6⟩
            have b56 : Below X1.heap.size X1 X6 := b5.trans (b6.mono b5.size)
            have hS6 : mb < X6.heap.size ∧ X6.cell? ⟨mb, 0, none⟩ = some (.int .i64 now) ∧ X6.cell? ⟨mb, 2, none⟩ = some (.slice om m.length cm) := ⟨Nat.lt_of_lt_of_le hS1.1 (b56).size, (cell_of_eq ((b56).block _ hS1.1) 0).trans hS1.2.1, (cell_of_eq ((b56).block _ hS1.1) 2).trans hS1.2.2⟩
            (try go_wp2_with fail)
            refine hK.out _ _ ?_ (fun hHeld => ?_)
            · ((try dsimp only); exact hS6)
            clear hK K
            (try simp only [Act.put, List.setIfInBounds_toArray, List.set_cons_zero, List.set_cons_succ, List.getElem_toArray, List.getElem_cons_succ, List.getElem_cons_zero])
            refine wpAnyH_ready (rs := [38]) (by kernel_rfl) (by simp) ?_
            refine AllReadyH.cons rfl (fun K hK => ?_) AllReadyH.nil
            (try simp only [List.getElem_toArray, List.getElem_cons_succ, List.getElem_cons_zero])
            go_simp
            go_at_call 16
            refine (same_any oA cA o6 c6 (tm.srt m.length m) HSl.out _ X6 (hdi.below b6) (ROwn.toIn ro6)).mono ?_
            rintro e X7 ⟨rfl, b7⟩
            have b57 : Below X1.heap.size X1 X7 := b56.trans (b7.mono b56.size)
            have hS7 : mb < X7.heap.size ∧ X7.cell? ⟨mb, 0, none⟩ = some (.int .i64 now) ∧ X7.cell? ⟨mb, 2, none⟩ = some (.slice om m.length cm) := ⟨Nat.lt_of_lt_of_le hS1.1 (b57).size, (cell_of_eq ((b57).block _ hS1.1) 0).trans hS1.2.1, (cell_of_eq ((b57).block _ hS1.1) 2).trans hS1.2.2⟩
            (try go_wp2_with fail)
            refine hK.out _ _ ?_ (fun hHeld => ?_)
            · ((try dsimp only); exact hS7)
            clear hK K
            (try simp only [Act.put, List.setIfInBounds_toArray, List.set_cons_zero, List.set_cons_succ, List.getElem_toArray, List.getElem_cons_succ, List.getElem_cons_zero])
            refine wpAnyH_take (i := 39) (v := ?_) rfl (by kernel_rfl) (by kernel_rfl) (by kernel_rfl) (fun _ _ _ h => h) (Or.inl ⟨by rfl, ?_⟩) (by assumption) ?_
            rotate_left
            · ((intro w hSw); (try dsimp only at hSw); (obtain ⟨hl0, hc0, hc2⟩ := hSw); (try simp only [List.getElem_toArray, List.getElem_cons_succ, List.getElem_cons_zero]); (go_simp); (try with_reducible rfl))
            (try simp only [Act.put, List.setIfInBounds_toArray, List.set_cons_zero, List.set_cons_succ, List.getElem_toArray, List.getElem_cons_succ, List.getElem_cons_zero])
            refine wpAnyH_take (i := 40) (v := ?_) rfl (by kernel_rfl) (by kernel_rfl) (by kernel_rfl) (fun _ _ _ h => h) (Or.inl ⟨by rfl, ?_⟩) (by assumption) ?_
            rotate_left
            · ((intro w hSw); (try dsimp only at hSw); (obtain ⟨hl0, hc0, hc2⟩ := hSw); (try simp only [List.getElem_toArray, List.getElem_cons_succ, List.getElem_cons_zero]); (go_simp); (try with_reducible rfl))
            (try simp only [Act.put, List.setIfInBounds_toArray, List.set_cons_zero, List.set_cons_succ, List.getElem_toArray, List.getElem_cons_succ, List.getElem_cons_zero])
            refine wpAnyH_done (by kernel_rfl) ?_ _
            refine NoPanic.normal ?_
            clear hSD hHeld hS5 hS6 hS7 hdi hpm hpw ro6 b5' b6 b7 b5 b56
            have HZ := Lib.hid (HP1.out.below b57)
            clear b57 hS1
            go_wp2_with fail
            go_roundg (ops.length - (k + 1))
            case measure => omega
            case rel => exact ⟨k + 1, V, s, now, made, _, m, (by first | rfl | (simp; done) | (simp; omega)), by omega, Nat.le_refl _, Lib.hid ⟨HZ.out.head, HP.out.2, HM.out⟩⟩
        · as_aux_lemma =>
            have HN1 := Lib.hid (next_any c V s wc HP.out.1.my.ck _ e1)
            have HF := Lib.hid (first_any om m.length cm m _ wc HP.out.1.row)
            rw [e2] at HF
            have hi0 : decide (0 ≤ (i : Int)) = true := decide_eq_true (by omega)
            have hii : (i : Int) < (m.length : Int) := by omega
            have hi1 : ¬ ((i : Int) < 0) := by omega
            obtain ⟨d, hd⟩ : ∃ d, (tm.ix m i).due = d := ⟨_, rfl⟩
            rw [hd] at HN1
            clear e1 e2
            go_wp2_with fail
            with_reducible refine HN1.out.mono ?_
            rintro e w' ⟨rfl, hw⟩
            replace hw := hw.symm
            subst hw
            go_wp2_with fail
            with_reducible refine HF.out.mono ?_
            rintro e X1 ⟨rfl, b1⟩
            have p1 := HP.out.1.below b1
            obtain ⟨bM, offM, eM, lM, -, -, dM, -⟩ := RIn.cell p1.row i hi
            subst eM
            rw [hd] at dM
            have hS1 : mb < X1.heap.size ∧ X1.cell? ⟨mb, 0, none⟩ = some (.int .i64 now) ∧ X1.cell? ⟨mb, 2, none⟩ = some (.slice (some ⟨bM, offM, none⟩) m.length cm) ∧ bM < X1.heap.size ∧ X1.cell? ⟨bM, offM + i * 4 + 2, none⟩ = some (.int .i64 d) := ⟨heap_lt p1.box, (cell_of_heap p1.box).trans rfl, (cell_of_heap p1.box).trans rfl, lM, dM⟩
            have nd : (d != d) = false := by simp
            clear hd
            have n0 : (now != now) = false := by simp
            have HNo := Lib.hid (fun k => now_any c V s (X1.drewN k) (p1.my.ck.below (below_dN (Below.refl _ _) k)))
            rw [HP.out.2.nw] at HNo
            have HAll := Lib.hid (fun k => all_any c V s (X1.drewN k) (p1.my.ck.below (below_dN (Below.refl _ _) k)) HP.out.2.good.len)
            have HP1 := Lib.hid p1
            clear z0 z2 lz b1 p1 HN1 HF
            go_upto_region 42 with fail
            have hSD : mb < X1.drew.heap.size ∧ X1.drew.cell? ⟨mb, 0, none⟩ = some (.int .i64 now) ∧ X1.drew.cell? ⟨mb, 2, none⟩ = some (.slice (some ⟨bM, offM, none⟩) m.length cm) ∧ bM < X1.drew.heap.size ∧ X1.drew.cell? ⟨bM, offM + i * 4 + 2, none⟩ = some (.int .i64 d) := hS1
            refine wp_region_noPanic ?_
            refine wp_region_held_drew (S := (fun X => mb < X.heap.size ∧ X.cell? ⟨mb, 0, none⟩ = some (.int .i64 now) ∧ X.cell? ⟨mb, 2, none⟩ = some (.slice (some ⟨bM, offM, none⟩) m.length cm) ∧ bM < X.heap.size ∧ X.cell? ⟨bM, offM + i * 4 + 2, none⟩ = some (.int .i64 d))) (by kernel_rfl) ?_ (fun hHeld => ?_)
            · exact hSD
            refine wpAnyH_take (i := 0) (v := ?_) rfl (by kernel_rfl) (by kernel_rfl) (by kernel_rfl) (fun _ _ _ h => h) (Or.inl ⟨by rfl, ?_⟩) (by assumption) ?_
            rotate_left
            · ((intro w hSw); (try dsimp only at hSw); (obtain ⟨hl0, hc0, hc2, hl3, hc3⟩ := hSw); (try simp only [List.getElem_toArray, List.getElem_cons_zero]); (go_simp); (try with_reducible rfl))
            (try simp only [Act.put, List.setIfInBounds_toArray, List.set_cons_zero, List.set_cons_succ, List.getElem_toArray, List.getElem_cons_zero])
            refine wpAnyH_take (i := 2) (v := ?_) rfl (by kernel_rfl) (by kernel_rfl) (by kernel_rfl) (fun _ _ _ h => h) (Or.inl ⟨by rfl, ?_⟩) (by assumption) ?_
            rotate_left
            · ((intro w hSw); (try dsimp only at hSw); (obtain ⟨hl0, hc0, hc2, hl3, hc3⟩ := hSw); (try simp only [List.getElem_toArray, List.getElem_cons_succ, List.getElem_cons_zero]); (go_simp); (try with_reducible rfl))
            (try simp only [Act.put, List.setIfInBounds_toArray, List.set_cons_zero, List.set_cons_succ, List.getElem_toArray, List.getElem_cons_succ, List.getElem_cons_zero])
            refine wpAnyH_take (i := 3) (v := ?_) rfl (by kernel_rfl) (by kernel_rfl) (by kernel_rfl) (fun _ _ _ h => h) (Or.inl ⟨by rfl, ?_⟩) (by assumption) ?_
            rotate_left
            · ((intro w hSw); (try dsimp only at hSw); (obtain ⟨hl0, hc0, hc2, hl3, hc3⟩ := hSw); (try simp only [List.getElem_toArray, List.getElem_cons_succ, List.getElem_cons_zero]); (go_simp); (try with_reducible rfl))
            (try simp only [Act.put, List.setIfInBounds_toArray, List.set_cons_zero, List.set_cons_succ, List.getElem_toArray, List.getElem_cons_succ, List.getElem_cons_zero])
            refine wpAnyH_ready (rs := [1]) (by kernel_rfl) (by simp) ?_
            refine AllReadyH.cons rfl (fun K hK => ?_) AllReadyH.nil
            (try simp only [List.getElem_toArray, List.getElem_cons_succ, List.getElem_cons_zero])
            go_simp
            go_at_call 19
            refine (HNo.out 1).mono ?_
            rintro e w' ⟨rfl, hw⟩
            replace hw := hw.symm
            subst hw
            (try go_wp2_with fail)
            refine hK.out _ _ ?_ (fun hHeld => ?_)
            · ((try dsimp only); exact hSD)
            clear hK K
            (try simp only [Act.put, List.setIfInBounds_toArray, List.set_cons_zero, List.set_cons_succ, List.getElem_toArray, List.getElem_cons_succ, List.getElem_cons_zero])
            refine wpAnyH_take (i := 4) (v := ?_) rfl (by kernel_rfl) (by kernel_rfl) (by kernel_rfl) (fun _ _ _ h => h) (Or.inl ⟨by rfl, ?_⟩) (by assumption) ?_
            rotate_left
            · ((intro w hSw); (try dsimp only at hSw); (obtain ⟨hl0, hc0, hc2, hl3, hc3⟩ := hSw); (try simp only [List.getElem_toArray, List.getElem_cons_succ, List.getElem_cons_zero]); (go_simp); (try with_reducible rfl))
            (try simp only [Act.put, List.setIfInBounds_toArray, List.set_cons_zero, List.set_cons_succ, List.getElem_toArray, List.getElem_cons_succ, List.getElem_cons_zero])
            refine wpAnyH_take (i := 5) (v := ?_) rfl (by kernel_rfl) (by kernel_rfl) (by kernel_rfl) (fun _ _ _ h => h) (Or.inl ⟨by rfl, ?_⟩) (by assumption) ?_
            rotate_left
            · ((intro w hSw); (try dsimp only at hSw); (obtain ⟨hl0, hc0, hc2, hl3, hc3⟩ := hSw); (try simp only [List.getElem_toArray, List.getElem_cons_succ, List.getElem_cons_zero]); (go_simp); (try with_reducible rfl))
            (try simp only [Act.put, List.setIfInBounds_toArray, List.set_cons_zero, List.set_cons_succ, List.getElem_toArray, List.getElem_cons_succ, List.getElem_cons_zero])
            refine wpAnyH_take (i := 6) (v := ?_) rfl (by kernel_rfl) (by kernel_rfl) (by kernel_rfl) (fun _ _ _ h => h) (Or.inl ⟨by rfl, ?_⟩) (by assumption) ?_
            rotate_left
            · ((intro w hSw); (try dsimp only at hSw); (obtain ⟨hl0, hc0, hc2, hl3, hc3⟩ := hSw); (try simp only [List.getElem_toArray, List.getElem_cons_succ, List.getElem_cons_zero]); (go_simp); (try with_reducible rfl))
            (try simp only [Act.put, List.setIfInBounds_toArray, List.set_cons_zero, List.set_cons_succ, List.getElem_toArray, List.getElem_cons_succ, List.getElem_cons_zero])
            refine wpAnyH_take (i := 7) (v := ?_) rfl (by kernel_rfl) (by kernel_rfl) (by kernel_rfl) (fun _ _ _ h => h) (Or.inl ⟨by rfl, ?_⟩) (by assumption) ?_
            rotate_left
            · ((intro w hSw); (try dsimp only at hSw); (obtain ⟨hl0, hc0, hc2, hl3, hc3⟩ := hSw); (try simp only [List.getElem_toArray, List.getElem_cons_succ, List.getElem_cons_zero]); (go_simp); (try with_reducible rfl))
            (try simp only [Act.put, List.setIfInBounds_toArray, List.set_cons_zero, List.set_cons_succ, List.getElem_toArray, List.getElem_cons_succ, List.getElem_cons_zero])
            refine wpAnyH_take (i := 8) (v := ?_) rfl (by kernel_rfl) (by kernel_rfl) (by kernel_rfl) (fun _ _ _ h => h) (Or.inl ⟨by rfl, ?_⟩) (by assumption) ?_
            rotate_left
            · ((intro w hSw); (try dsimp only at hSw); (obtain ⟨hl0, hc0, hc2, hl3, hc3⟩ := hSw); (try simp only [List.getElem_toArray, List.getElem_cons_succ, List.getElem_cons_zero]); (go_simp); (try with_reducible rfl))
            (try simp only [Act.put, List.setIfInBounds_toArray, List.set_cons_zero, List.set_cons_succ, List.getElem_toArray, List.getElem_cons_succ, List.getElem_cons_zero])
            refine wpAnyH_take (i := 9) (v := ?_) rfl (by kernel_rfl) (by kernel_rfl) (by kernel_rfl) (fun _ _ _ h => h) (Or.inl ⟨by rfl, ?_⟩) (by assumption) ?_
            rotate_left
            · ((intro w hSw); (try dsimp only at hSw); (obtain ⟨hl0, hc0, hc2, hl3, hc3⟩ := hSw); (try simp only [List.getElem_toArray, List.getElem_cons_succ, List.getElem_cons_zero]); (go_simp); (try with_reducible rfl))
            (try simp only [Act.put, List.setIfInBounds_toArray, List.set_cons_zero, List.set_cons_succ, List.getElem_toArray, List.getElem_cons_succ, List.getElem_cons_zero])
            refine wpAnyH_take (i := 10) (v := ?_) rfl (by kernel_rfl) (by kernel_rfl) (by kernel_rfl) (fun _ _ _ h => h) (Or.inl ⟨by rfl, ?_⟩) (by assumption) ?_
            rotate_left
            · ((intro w hSw); (try dsimp only at hSw); (obtain ⟨hl0, hc0, hc2, hl3, hc3⟩ := hSw); (try simp only [List.getElem_toArray, List.getElem_cons_succ, List.getElem_cons_zero]); (go_simp); (try with_reducible rfl))
            (try simp only [Act.put, List.setIfInBounds_toArray, List.set_cons_zero, List.set_cons_succ, List.getElem_toArray, List.getElem_cons_succ, List.getElem_cons_zero])
            refine wpAnyH_take (i := 11) (v := ?_) rfl (by kernel_rfl) (by kernel_rfl) (by kernel_rfl) (fun _ _ _ h => h) (Or.inl ⟨by rfl, ?_⟩) (by assumption) ?_
            rotate_left
            · ((intro w hSw); (try dsimp only at hSw); (obtain ⟨hl0, hc0, hc2, hl3, hc3⟩ := hSw); (try simp only [List.getElem_toArray, List.getElem_cons_succ, List.getElem_cons_zero]); (go_simp); (try with_reducible rfl))
            (try simp only [Act.put, List.setIfInBounds_toArray, List.set_cons_zero, List.set_cons_succ, List.getElem_toArray, List.getElem_cons_succ, List.getElem_cons_zero])
            refine wpAnyH_take (i := 12) (v := ?_) rfl (by kernel_rfl) (by kernel_rfl) (by kernel_rfl) (fun _ _ _ h => h) (Or.inl ⟨by rfl, ?_⟩) (by assumption) ?_
            rotate_left
            · ((intro w hSw); (try dsimp only at hSw); (obtain ⟨hl0, hc0, hc2, hl3, hc3⟩ := hSw); (try simp only [List.getElem_toArray, List.getElem_cons_succ, List.getElem_cons_zero]); (go_simp); (try with_reducible rfl))
            (try simp only [Act.put, List.setIfInBounds_toArray, List.set_cons_zero, List.set_cons_succ, List.getElem_toArray, List.getElem_cons_succ, List.getElem_cons_zero])
            refine wpAnyH_take (i := 13) (v := ?_) rfl (by kernel_rfl) (by kernel_rfl) (by kernel_rfl) (fun _ _ _ h => h) (Or.inl ⟨by rfl, ?_⟩) (by assumption) ?_
            rotate_left
            · ((intro w hSw); (try dsimp only at hSw); (obtain ⟨hl0, hc0, hc2, hl3, hc3⟩ := hSw); (try simp only [List.getElem_toArray, List.getElem_cons_succ, List.getElem_cons_zero]); (go_simp); (try with_reducible rfl))
            (try simp only [Act.put, List.setIfInBounds_toArray, List.set_cons_zero, List.set_cons_succ, List.getElem_toArray, List.getElem_cons_succ, List.getElem_cons_zero])
            refine wpAnyH_take (i := 14) (v := ?_) rfl (by kernel_rfl) (by kernel_rfl) (by kernel_rfl) (fun _ _ _ h => h) (Or.inl ⟨by rfl, ?_⟩) (by assumption) ?_
            rotate_left
            · ((intro w hSw); (try dsimp only at hSw); (obtain ⟨hl0, hc0, hc2, hl3, hc3⟩ := hSw); (try simp only [List.getElem_toArray, List.getElem_cons_succ, List.getElem_cons_zero]); (go_simp); (try with_reducible rfl))
            (try simp only [Act.put, List.setIfInBounds_toArray, List.set_cons_zero, List.set_cons_succ, List.getElem_toArray, List.getElem_cons_succ, List.getElem_cons_zero])
            refine wpAnyH_take (i := 15) (v := ?_) rfl (by kernel_rfl) (by kernel_rfl) (by kernel_rfl) (fun _ _ _ h => h) (Or.inl ⟨by rfl, ?_⟩) (by assumption) ?_
            rotate_left
            · ((intro w hSw); (try dsimp only at hSw); (obtain ⟨hl0, hc0, hc2, hl3, hc3⟩ := hSw); (try simp only [List.getElem_toArray, List.getElem_cons_succ, List.getElem_cons_zero]); (go_simp); (try with_reducible rfl))
            (try simp only [Act.put, List.setIfInBounds_toArray, List.set_cons_zero, List.set_cons_succ, List.getElem_toArray, List.getElem_cons_succ, List.getElem_cons_zero])
            refine wpAnyH_take (i := 16) (v := ?_) rfl (by kernel_rfl) (by kernel_rfl) (by kernel_rfl) (fun _ _ _ h => h) (Or.inl ⟨by rfl, ?_⟩) (by assumption) ?_
            rotate_left
            · ((intro w hSw); (try dsimp only at hSw); (obtain ⟨hl0, hc0, hc2, hl3, hc3⟩ := hSw); (try simp only [List.getElem_toArray, List.getElem_cons_succ, List.getElem_cons_zero]); (go_simp); (try with_reducible rfl))
            (try simp only [Act.put, List.setIfInBounds_toArray, List.set_cons_zero, List.set_cons_succ, List.getElem_toArray, List.getElem_cons_succ, List.getElem_cons_zero])
            refine wpAnyH_take (i := 17) (v := ?_) rfl (by kernel_rfl) (by kernel_rfl) (by kernel_rfl) (fun _ _ _ h => h) (Or.inl ⟨by rfl, ?_⟩) (by assumption) ?_
            rotate_left
            · ((intro w hSw); (try dsimp only at hSw); (obtain ⟨hl0, hc0, hc2, hl3, hc3⟩ := hSw); (try simp only [List.getElem_toArray, List.getElem_cons_succ, List.getElem_cons_zero]); (go_simp); (try with_reducible rfl))
            (try simp only [Act.put, List.setIfInBounds_toArray, List.set_cons_zero, List.set_cons_succ, List.getElem_toArray, List.getElem_cons_succ, List.getElem_cons_zero])
            refine wpAnyH_take (i := 18) (v := ?_) rfl (by kernel_rfl) (by kernel_rfl) (by kernel_rfl) (fun _ _ _ h => h) (Or.inl ⟨by rfl, ?_⟩) (by assumption) ?_
            rotate_left
            · ((intro w hSw); (try dsimp only at hSw); (obtain ⟨hl0, hc0, hc2, hl3, hc3⟩ := hSw); (try simp only [List.getElem_toArray, List.getElem_cons_succ, List.getElem_cons_zero]); (go_simp); (try with_reducible rfl))
            (try simp only [Act.put, List.setIfInBounds_toArray, List.set_cons_zero, List.set_cons_succ, List.getElem_toArray, List.getElem_cons_succ, List.getElem_cons_zero])
            refine wpAnyH_take (i := 19) (v := ?_) rfl (by kernel_rfl) (by kernel_rfl) (by kernel_rfl) (fun _ _ _ h => h) (Or.inl ⟨by rfl, ?_⟩) (by assumption) ?_
            rotate_left
            · ((intro w hSw); (try dsimp only at hSw); (obtain ⟨hl0, hc0, hc2, hl3, hc3⟩ := hSw); (try simp only [List.getElem_toArray, List.getElem_cons_succ, List.getElem_cons_zero]); (go_simp); (try with_reducible rfl))
            (try simp only [Act.put, List.setIfInBounds_toArray, List.set_cons_zero, List.set_cons_succ, List.getElem_toArray, List.getElem_cons_succ, List.getElem_cons_zero])
            refine wpAnyH_take (i := 20) (v := ?_) rfl (by kernel_rfl) (by kernel_rfl) (by kernel_rfl) (fun _ _ _ h => h) (Or.inl ⟨by rfl, ?_⟩) (by assumption) ?_
            rotate_left
            · ((intro w hSw); (try dsimp only at hSw); (obtain ⟨hl0, hc0, hc2, hl3, hc3⟩ := hSw); (try simp only [List.getElem_toArray, List.getElem_cons_succ, List.getElem_cons_zero]); (go_simp); (try with_reducible rfl))
            (try simp only [Act.put, List.setIfInBounds_toArray, List.set_cons_zero, List.set_cons_succ, List.getElem_toArray, List.getElem_cons_succ, List.getElem_cons_zero])
            refine wpAnyH_take (i := 21) (v := ?_) rfl (by kernel_rfl) (by kernel_rfl) (by kernel_rfl) (fun _ _ _ h => h) (Or.inl ⟨by rfl, ?_⟩) (by assumption) ?_
            rotate_left
            · ((intro w hSw); (try dsimp only at hSw); (obtain ⟨hl0, hc0, hc2, hl3, hc3⟩ := hSw); (try simp only [List.getElem_toArray, List.getElem_cons_succ, List.getElem_cons_zero]); (go_simp); (try with_reducible rfl))
            (try simp only [Act.put, List.setIfInBounds_toArray, List.set_cons_zero, List.set_cons_succ, List.getElem_toArray, List.getElem_cons_succ, List.getElem_cons_zero])
            refine wpAnyH_take (i := 22) (v := ?_) rfl (by kernel_rfl) (by kernel_rfl) (by kernel_rfl) (fun _ _ _ h => h) (Or.inl ⟨by rfl, ?_⟩) (by assumption) ?_
            rotate_left
            · ((intro w hSw); (try dsimp only at hSw); (obtain ⟨hl0, hc0, hc2, hl3, hc3⟩ := hSw); (try simp only [List.getElem_toArray, List.getElem_cons_succ, List.getElem_cons_zero]); (go_simp); (try with_reducible rfl))
            (try simp only [Act.put, List.setIfInBounds_toArray, List.set_cons_zero, List.set_cons_succ, List.getElem_toArray, List.getElem_cons_succ, List.getElem_cons_zero])
            refine wpAnyH_take (i := 23) (v := ?_) rfl (by kernel_rfl) (by kernel_rfl) (by kernel_rfl) (fun _ _ _ h => h) (Or.inl ⟨by rfl, ?_⟩) (by assumption) ?_
            rotate_left
            · ((intro w hSw); (try dsimp only at hSw); (obtain ⟨hl0, hc0, hc2, hl3, hc3⟩ := hSw); (try simp only [List.getElem_toArray, List.getElem_cons_succ, List.getElem_cons_zero]); (go_simp); (try with_reducible rfl))
            (try simp only [Act.put, List.setIfInBounds_toArray, List.set_cons_zero, List.set_cons_succ, List.getElem_toArray, List.getElem_cons_succ, List.getElem_cons_zero])
            refine wpAnyH_take (i := 24) (v := ?_) rfl (by kernel_rfl) (by kernel_rfl) (by kernel_rfl) (fun _ _ _ h => h) (Or.inl ⟨by rfl, ?_⟩) (by assumption) ?_
            rotate_left
            · ((intro w hSw); (try dsimp only at hSw); (obtain ⟨hl0, hc0, hc2, hl3, hc3⟩ := hSw); (try simp only [List.getElem_toArray, List.getElem_cons_succ, List.getElem_cons_zero]); (go_simp); (try with_reducible rfl))
            (try simp only [Act.put, List.setIfInBounds_toArray, List.set_cons_zero, List.set_cons_succ, List.getElem_toArray, List.getElem_cons_succ, List.getElem_cons_zero])
            refine wpAnyH_take (i := 25) (v := ?_) rfl (by kernel_rfl) (by kernel_rfl) (by kernel_rfl) (fun _ _ _ h => h) (Or.inl ⟨by rfl, ?_⟩) (by assumption) ?_
            rotate_left
            · ((intro w hSw); (try dsimp only at hSw); (obtain ⟨hl0, hc0, hc2, hl3, hc3⟩ := hSw); (try simp only [List.getElem_toArray, List.getElem_cons_succ, List.getElem_cons_zero]); (go_simp); (try with_reducible rfl))
            (try simp only [Act.put, List.setIfInBounds_toArray, List.set_cons_zero, List.set_cons_succ, List.getElem_toArray, List.getElem_cons_succ, List.getElem_cons_zero])
            refine wpAnyH_take (i := 26) (v := ?_) rfl (by kernel_rfl) (by kernel_rfl) (by kernel_rfl) (fun _ _ _ h => h) (Or.inl ⟨by rfl, ?_⟩) (by assumption) ?_
            rotate_left
            · ((intro w hSw); (try dsimp only at hSw); (obtain ⟨hl0, hc0, hc2, hl3, hc3⟩ := hSw); (try simp only [List.getElem_toArray, List.getElem_cons_succ, List.getElem_cons_zero]); (go_simp); (try with_reducible rfl))
            (try simp only [Act.put, List.setIfInBounds_toArray, List.set_cons_zero, List.set_cons_succ, List.getElem_toArray, List.getElem_cons_succ, List.getElem_cons_zero])
            refine wpAnyH_take (i := 27) (v := ?_) rfl (by kernel_rfl) (by kernel_rfl) (by kernel_rfl) (fun _ _ _ h => h) (Or.inl ⟨by rfl, ?_⟩) (by assumption) ?_
            rotate_left
            · ((intro w hSw); (try dsimp only at hSw); (obtain ⟨hl0, hc0, hc2, hl3, hc3⟩ := hSw); (try simp only [List.getElem_toArray, List.getElem_cons_succ, List.getElem_cons_zero]); (go_simp); (try with_reducible rfl))
            (try simp only [Act.put, List.setIfInBounds_toArray, List.set_cons_zero, List.set_cons_succ, List.getElem_toArray, List.getElem_cons_succ, List.getElem_cons_zero])
            refine wpAnyH_take (i := 28) (v := undef) rfl (by kernel_rfl) (by kernel_rfl) (by kernel_rfl) (fun _ _ _ h => h) (Or.inr ⟨by rfl, rfl⟩) (by assumption) ?_
            (try simp only [Act.put, List.setIfInBounds_toArray, List.set_cons_zero, List.set_cons_succ, List.getElem_toArray, List.getElem_cons_succ, List.getElem_cons_zero])
            refine wpAnyH_take (i := 29) (v := undef) rfl (by kernel_rfl) (by kernel_rfl) (by kernel_rfl) (fun _ _ _ h => h) (Or.inr ⟨by rfl, rfl⟩) (by assumption) ?_
            (try simp only [Act.put, List.setIfInBounds_toArray, List.set_cons_zero, List.set_cons_succ, List.getElem_toArray, List.getElem_cons_succ, List.getElem_cons_zero])
            refine wpAnyH_take (i := 30) (v := ?_) rfl (by kernel_rfl) (by kernel_rfl) (by kernel_rfl) (fun _ _ _ h => h) (Or.inl ⟨by rfl, ?_⟩) (by assumption) ?_
            rotate_left
            · ((intro w hSw); (try dsimp only at hSw); (obtain ⟨hl0, hc0, hc2, hl3, hc3⟩ := hSw); (try simp only [List.getElem_toArray, List.getElem_cons_succ, List.getElem_cons_zero]); (go_simp); (try with_reducible rfl))
            (try simp only [Act.put, List.setIfInBounds_toArray, List.set_cons_zero, List.set_cons_succ, List.getElem_toArray, List.getElem_cons_succ, List.getElem_cons_zero])
            refine wpAnyH_take (i := 31) (v := ?_) rfl (by kernel_rfl) (by kernel_rfl) (by kernel_rfl) (fun _ _ _ h => h) (Or.inl ⟨by rfl, ?_⟩) (by assumption) ?_
            rotate_left
            · ((intro w hSw); (try dsimp only at hSw); (obtain ⟨hl0, hc0, hc2, hl3, hc3⟩ := hSw); (try simp only [List.getElem_toArray, List.getElem_cons_succ, List.getElem_cons_zero]); (go_simp); (try with_reducible rfl))
            (try simp only [Act.put, List.setIfInBounds_toArray, List.set_cons_zero, List.set_cons_succ, List.getElem_toArray, List.getElem_cons_succ, List.getElem_cons_zero])
            refine wpAnyH_take (i := 32) (v := ?_) rfl (by kernel_rfl) (by kernel_rfl) (by kernel_rfl) (fun _ _ _ h => h) (Or.inl ⟨by rfl, ?_⟩) (by assumption) ?_
            rotate_left
            · ((intro w hSw); (try dsimp only at hSw); (obtain ⟨hl0, hc0, hc2, hl3, hc3⟩ := hSw); (try simp only [List.getElem_toArray, List.getElem_cons_succ, List.getElem_cons_zero]); (go_simp); (try with_reducible rfl))
            (try simp only [Act.put, List.setIfInBounds_toArray, List.set_cons_zero, List.set_cons_succ, List.getElem_toArray, List.getElem_cons_succ, List.getElem_cons_zero])
            refine wpAnyH_take (i := 33) (v := ?_) rfl (by kernel_rfl) (by kernel_rfl) (by kernel_rfl) (fun _ _ _ h => h) (Or.inl ⟨by rfl, ?_⟩) (by assumption) ?_
            rotate_left
            · ((intro w hSw); (try dsimp only at hSw); (obtain ⟨hl0, hc0, hc2, hl3, hc3⟩ := hSw); (try simp only [List.getElem_toArray, List.getElem_cons_succ, List.getElem_cons_zero]); (go_simp); (try with_reducible rfl))
            (try simp only [Act.put, List.setIfInBounds_toArray, List.set_cons_zero, List.set_cons_succ, List.getElem_toArray, List.getElem_cons_succ, List.getElem_cons_zero])
            refine wpAnyH_take (i := 35) (v := ?_) rfl (by kernel_rfl) (by kernel_rfl) (by kernel_rfl) (fun _ _ _ h => h) (Or.inl ⟨by rfl, ?_⟩) (by assumption) ?_
            rotate_left
            · ((intro w hSw); (try dsimp only at hSw); (obtain ⟨hl0, hc0, hc2, hl3, hc3⟩ := hSw); (try simp only [List.getElem_toArray, List.getElem_cons_succ, List.getElem_cons_zero]); (go_simp); (try with_reducible rfl))
            (try simp only [Act.put, List.setIfInBounds_toArray, List.set_cons_zero, List.set_cons_succ, List.getElem_toArray, List.getElem_cons_succ, List.getElem_cons_zero])
            refine wpAnyH_take (i := 36) (v := ?_) rfl (by kernel_rfl) (by kernel_rfl) (by kernel_rfl) (fun _ _ _ h => h) (Or.inl ⟨by rfl, ?_⟩) (by assumption) ?_
            rotate_left
            · ((intro w hSw); (try dsimp only at hSw); (obtain ⟨hl0, hc0, hc2, hl3, hc3⟩ := hSw); (try simp only [List.getElem_toArray, List.getElem_cons_succ, List.getElem_cons_zero]); (go_simp); (try with_reducible rfl))
            (try simp only [Act.put, List.setIfInBounds_toArray, List.set_cons_zero, List.set_cons_succ, List.getElem_toArray, List.getElem_cons_succ, List.getElem_cons_zero])
            refine wpAnyH_ready (rs := [34]) (by kernel_rfl) (by simp) ?_
            refine AllReadyH.cons rfl (fun K hK => ?_) AllReadyH.nil
            (try simp only [List.getElem_toArray, List.getElem_cons_succ, List.getElem_cons_zero])
            go_simp
            go_at_call 20
            refine (HAll.out 1).mono ?_
            rintro e X5 ⟨oA, cA, LA, rfl, hpm, hpw, hdi, b5'⟩
            have b5 : Below X1.heap.size X1 X5 := below_of_dN b5'
            obtain rfl := HP.out.2.all hpm hpw
            have hS5 : mb < X5.heap.size ∧ X5.cell? ⟨mb, 0, none⟩ = some (.int .i64 now) ∧ X5.cell? ⟨mb, 2, none⟩ = some (.slice (some ⟨bM, offM, none⟩) m.length cm) ∧ bM < X5.heap.size ∧ X5.cell? ⟨bM, offM + i * 4 + 2, none⟩ = some (.int .i64 d) := ⟨Nat.lt_of_lt_of_le hS1.1 (b5).size, (cell_of_eq ((b5).block _ hS1.1) 0).trans hS1.2.1, (cell_of_eq ((b5).block _ hS1.1) 2).trans hS1.2.2.1, Nat.lt_of_lt_of_le hS1.2.2.2.1 (b5).size, (cell_of_eq ((b5).block _ hS1.2.2.2.1) _).trans hS1.2.2.2.2⟩
            (try go_wp2_with fail)
            refine hK.out _ _ ?_ (fun hHeld => ?_)
            · ((try dsimp only); exact hS5)
            clear hK K
            (try simp only [Act.put, List.setIfInBounds_toArray, List.set_cons_zero, List.set_cons_succ, List.getElem_toArray, List.getElem_cons_succ, List.getElem_cons_zero])
            refine wpAnyH_ready (rs := [37]) (by kernel_rfl) (by simp) ?_
            refine AllReadyH.cons rfl (fun K hK => ?_) AllReadyH.nil
            (try simp only [List.getElem_toArray, List.getElem_cons_succ, List.getElem_cons_zero])
            go_simp
            go_at_call 21
            refine (sorted_any (some ⟨bM, offM, none⟩) m.length cm m X5 (RowIn.below (RowIn.wide HP1.out.row fun _ _ _ => trivial) b5) (by omega)).mono ?_
            rintro e X6 ⟨o6, c6, rfl, ro6, b6⟩
            have b56 : Below X1.heap.size X1 X6 := b5.trans (b6.mono b5.size)
            have hS6 : mb < X6.heap.size ∧ X6.cell? ⟨mb, 0, none⟩ = some (.int .i64 now) ∧ X6.cell? ⟨mb, 2, none⟩ = some (.slice (some ⟨bM, offM, none⟩) m.length cm) ∧ bM < X6.heap.size ∧ X6.cell? ⟨bM, offM + i * 4 + 2, none⟩ = some (.int .i64 d) := ⟨Nat.lt_of_lt_of_le hS1.1 (b56).size, (cell_of_eq ((b56).block _ hS1.1) 0).trans hS1.2.1, (cell_of_eq ((b56).block _ hS1.1) 2).trans hS1.2.2.1, Nat.lt_of_lt_of_le hS1.2.2.2.1 (b56).size, (cell_of_eq ((b56).block _ hS1.2.2.2.1) _).trans hS1.2.2.2.2⟩
            (try go_wp2_with fail)
            refine hK.out _ _ ?_ (fun hHeld => ?_)
            · ((try dsimp only); exact hS6)
            clear hK K
            (try simp only [Act.put, List.setIfInBounds_toArray, List.set_cons_zero, List.set_cons_succ, List.getElem_toArray, List.getElem_cons_succ, List.getElem_cons_zero])
            refine wpAnyH_ready (rs := [38]) (by kernel_rfl) (by simp) ?_
            refine AllReadyH.cons rfl (fun K hK => ?_) AllReadyH.nil
            (try simp only [List.getElem_toArray, List.getElem_cons_succ, List.getElem_cons_zero])
            go_simp
            go_at_call 16
            refine (same_any oA cA o6 c6 (tm.srt m.length m) HSl.out _ X6 (hdi.below b6) (ROwn.toIn ro6)).mono ?_
            rintro e X7 ⟨rfl, b7⟩
            have b57 : Below X1.heap.size X1 X7 := b56.trans (b7.mono b56.size)
            have hS7 : mb < X7.heap.size ∧ X7.cell? ⟨mb, 0, none⟩ = some (.int .i64 now) ∧ X7.cell? ⟨mb, 2, none⟩ = some (.slice (some ⟨bM, offM, none⟩) m.length cm) ∧ bM < X7.heap.size ∧ X7.cell? ⟨bM, offM + i * 4 + 2, none⟩ = some (.int .i64 d) := ⟨Nat.lt_of_lt_of_le hS1.1 (b57).size, (cell_of_eq ((b57).block _ hS1.1) 0).trans hS1.2.1, (cell_of_eq ((b57).block _ hS1.1) 2).trans hS1.2.2.1, Nat.lt_of_lt_of_le hS1.2.2.2.1 (b57).size, (cell_of_eq ((b57).block _ hS1.2.2.2.1) _).trans hS1.2.2.2.2⟩
            (try go_wp2_with fail)
            refine hK.out _ _ ?_ (fun hHeld => ?_)
            · ((try dsimp only); exact hS7)
            clear hK K
            (try simp only [Act.put, List.setIfInBounds_toArray, List.set_cons_zero, List.set_cons_succ, List.getElem_toArray, List.getElem_cons_succ, List.getElem_cons_zero])
            refine wpAnyH_take (i := 39) (v := ?_) rfl (by kernel_rfl) (by kernel_rfl) (by kernel_rfl) (fun _ _ _ h => h) (Or.inl ⟨by rfl, ?_⟩) (by assumption) ?_
            rotate_left
            · ((intro w hSw); (try dsimp only at hSw); (obtain ⟨hl0, hc0, hc2, hl3, hc3⟩ := hSw); (try simp only [List.getElem_toArray, List.getElem_cons_succ, List.getElem_cons_zero]); (go_simp); (try with_reducible rfl))
            (try simp only [Act.put, List.setIfInBounds_toArray, List.set_cons_zero, List.set_cons_succ, List.getElem_toArray, List.getElem_cons_succ, List.getElem_cons_zero])
            refine wpAnyH_take (i := 40) (v := ?_) rfl (by kernel_rfl) (by kernel_rfl) (by kernel_rfl) (fun _ _ _ h => h) (Or.inl ⟨by rfl, ?_⟩) (by assumption) ?_
            rotate_left
            · ((intro w hSw); (try dsimp only at hSw); (obtain ⟨hl0, hc0, hc2, hl3, hc3⟩ := hSw); (try simp only [List.getElem_toArray, List.getElem_cons_succ, List.getElem_cons_zero]); (go_simp); (try with_reducible rfl))
            (try simp only [Act.put, List.setIfInBounds_toArray, List.set_cons_zero, List.set_cons_succ, List.getElem_toArray, List.getElem_cons_succ, List.getElem_cons_zero])
            refine wpAnyH_done (by kernel_rfl) ?_ _
            refine NoPanic.normal ?_
            clear hSD hHeld hS5 hS6 hS7 hdi hpm hpw ro6 b5' b6 b7 b5 b56
            have HZ := Lib.hid (HP1.out.below b57)
            clear b57 hS1
            go_wp2_with fail
            go_roundg (ops.length - (k + 1))
            case measure => omega
            case rel => exact ⟨k + 1, V, s, now, made, _, m, (by first | rfl | (simp; done) | (simp; omega)), by omega, Nat.le_refl _, Lib.hid ⟨HZ.out.head, HP.out.2, HM.out⟩⟩
    · obtain rfl : k = ops.length := by omega
      go_wp2_with fail
      go_ret
      exact ⟨rfl, by rw [HB.out]; exact HX.out.1.1.bel⟩
end Go.Proofs.Ytfelmnhhldgobaa
