/- heights. -/
import Derived.Test.YtoknolljfeaapaaDoorCkRep
namespace Go.Proofs.YtoknolljfeaapaaDoor
open Go.RowKit
/-- what heights answers -/
def HgtAns (n : Nat) (w w' : World) (e : Ending) (r : Option (List Int)) : Prop :=
  (match r with
    | some hs => hs.length = n ∧ ∃ g, e = .returned (.tuple #[.slice (some ⟨g, 0, none⟩) n n, .bool true]) ∧ w.heap.size ≤ g ∧ w'.heap[g]? = some (.cells (inC hs).toArray 3 (0, 0))
    | none => e = .returned (.tuple #[.slice none 0 0, .bool false])) ∧ Below w.heap.size w w'
theorem HgtAns.eq {n : Nat} {w w' : World} {e : Ending} {r r' : Option (List Int)} (h : HgtAns n w w' e r) (hr : r = r') : HgtAns n w w' e r' := hr ▸ h
theorem HgtAns.some_ {n : Nat} {w w' : World} {hs : List Int} {g : Nat} {R : Option (List Int)} (h1 : hs.length = n) (h2 : w.heap.size ≤ g) (h3 : w'.heap[g]? = some (.cells (inC hs).toArray 3 (0, 0))) (h4 : Below w.heap.size w w') (hr : some hs = R) : HgtAns n w w' (.returned (.tuple #[.slice (some ⟨g, 0, none⟩) n n, .bool true])) R := by
  subst hr
  exact ⟨⟨h1, g, rfl, h2, h3⟩, h4⟩
theorem HgtAns.none_ {n : Nat} {w w' : World} {R : Option (List Int)} (h : Below w.heap.size w w') (hr : none = R) : HgtAns n w w' (.returned (.tuple #[.slice none 0 0, .bool false])) R := by
  subst hr
  exact ⟨rfl, h⟩
theorem ck.spread_nil (m : md.Mod) (f : Nat) (c : List md.Ins) (N : Nat) (s : ck.Wk) (h : s.todo = []) : ck.spread m f c N s = some s.hs := by
  cases N with
  | zero => rfl
  | succ N => unfold ck.spread; rw [h]
theorem ck.Lim.pt {m : md.Mod} (h : ck.Lim m) : ∀ g ∈ m.funcs, 0 ≤ g.params ∧ 0 ≤ g.results ∧ g.results ≤ 1 := fun g hg => by
  have := h g hg
  omega
theorem WkAt.pop {w : World} {B q gh n : Nat} {VT VT' : Value} {hs : List Int} {l r : List Nat} (h : WkAt w B q gh n VT ⟨hs, l⟩) (ht : Todo w B VT' r) (ho : VT'.ownBlock = VT.ownBlock) : WkAt (w.setCell ⟨q, 1, none⟩ VT') B q gh n VT' ⟨hs, r⟩ :=
  h.push ht (Fr.refl _ _) (.inl ho)
theorem WkAt.base {w : World} {B q gh n : Nat} {VT : Value} {s : ck.Wk} (h : WkAt w B q gh n VT s) : ∀ k, k < B → ¬ (k = q ∨ k = gh ∨ VT.ownBlock = some k) := by
  intro k hk hs
  rcases hs with rfl | rfl | hs
  · have := h.hq; omega
  · have := h.hg; omega
  · obtain ⟨ao, cap, rfl, -, -, h3⟩ := h.todo
    rcases h3 with ⟨rfl, -⟩ | ⟨g, off, cur, rfl, hB, -⟩
    · cases hs
    · have := Option.some.inj hs
      simp only at this
      omega
set_option maxRecDepth 100000 in
set_option maxHeartbeats 3200000 in
theorem heights_any (D : Nat → Prop) (m : md.Mod) (VD VF : Value) (f n : Nat) (w : World) (h : ModIn w D VD VF m) (ht : HT w) (hm : ck.Lim m) (hp : ck.Pt m f) (hn : (ck.fnAt m f).code.length = n) :
    Calls Tryd.prog 35 #[modV m VD VF, .int .i64 f] w fun e w' => HgtAns n w w' e (ck.heights m f) := by
  obtain ⟨R, hR⟩ : ∃ R, ck.heights m f = R := ⟨_, rfl⟩
  rw [hR]
  have hcode := hm (ck.fnAt m f) (by rw [ck.fnAt_lt hp.lt]; exact List.getElem_mem _)
  obtain ⟨hst, hmu, -⟩ := ck.start_ok (n := n) (by omega)
  have hn400 : n ≤ 400 := by omega
  have hn1 : 1 ≤ n := by omega
  have HR : Hid (ck.spread m f (ck.fnAt m f).code (ck.mu (ck.start n)) (ck.start n) = R) := Lib.hid (by rw [hmu, ← hR, ← hn]; rfl)
  have HST := Lib.hid (And.intro hst hmu)
  obtain ⟨od, cd, of, cf, rfl, rfl, hd1, hd2, hf1, hf2⟩ := h.slices
  have hb1 := below_one w (modB m.mem (.slice od m.data.length cd) (.slice of m.funcs.length cf))
  have hx1 := heap_alloc_new w (modB m.mem (.slice od m.data.length cd) (.slice of m.funcs.length cf))
  have HM := Lib.hid (h.below hb1)
  have HT1 := Lib.hid (ht.below hb1)
  have HX := Lib.hid hx1
  have HB1 := Lib.hid hb1
  have HLM := Lib.hid hm
  have HPT := Lib.hid hp
  have hflt := hp.lt
  obtain ⟨b, off, oc, cc, rfl, -, hlb, -, -, -, p3, hin⟩ := FnsIn.cell HM.out.fns f hp.lt
  obtain ⟨c, hc⟩ : ∃ c, (ck.fnAt m f).code = c := ⟨_, rfl⟩
  have hcf : (m.funcs[f]'hp.lt).code = c := by rw [← ck.fnAt_lt hp.lt]; exact hc
  rw [hcf] at p3 hin
  rw [hc] at HR hn
  have hcc := (RowIn.lens hin).2
  have HIN := Lib.hid hin
  have HC := Lib.hid hc
  rw [hn] at p3 hcc
  have HN := Lib.hid hn
  obtain ⟨W1, hW1⟩ : ∃ W1, w.alloc (modB m.mem (.slice od m.data.length cd) (.slice (some ⟨b, off, none⟩) m.funcs.length cf)) = W1 := ⟨_, rfl⟩
  rw [hW1] at HM HT1 HX HB1 hlb p3 HIN
  have HSZ : Hid (W1.heap.size = w.heap.size + 1) := Lib.hid (by rw [← hW1]; exact World.size_alloc _ _)
  have HW1 := Lib.hid hW1
  clear hW1 hR hcode hst hmu h ht hm hp hb1 hx1 hd1 hd2 hin hn hc hcf
  have k2 : W1.cell? ⟨w.heap.size, 2, none⟩ = some (.slice (some ⟨b, off, none⟩) m.funcs.length cf) := (cell_of_heap HX.out).trans rfl
  have hl0 := heap_lt HX.out
  go_enter Tryd.func35, Tryd.ntmps35
  go_upto_region 1 with fail
  rw [HW1.out]
  clear HW1
  have hln : c.length = n := HN.out
  have HX2 := heap_alloc_new W1 (.cells #[.int .i64 (-1)] 3)
  have hb2 := below_one W1 (.cells #[.int .i64 (-1)] 3)
  have HRP := Lib.hid (rep_any W1.heap.size n (W1.alloc (.cells #[.int .i64 (-1)] 3)) hn1 (by omega) ((cell_of_heap HX2).trans rfl))
  have HB2 := Lib.hid hb2
  clear HX2 hb2 hln
  go_upto_region 2 with fail
  clear p3 k2 hl0 hlb
  go_wp2_with fail
  refine HRP.out.mono ?_
  rintro e W3 ⟨g, rfl, hg1, hg2, hb3⟩
  have hs2 : (W1.alloc (.cells #[.int .i64 (-1)] 3)).heap.size = W1.heap.size + 1 := World.size_alloc _ _
  have hb4 := below_one W3 (.cells #[.slice (some ⟨g, 0, none⟩) n n, .slice none 0 0] 96)
  have hn4 := heap_alloc_new W3 (.cells #[.slice (some ⟨g, 0, none⟩) n n, .slice none 0 0] 96)
  have hb14 : Below W1.heap.size W1 (W3.alloc (.cells #[.slice (some ⟨g, 0, none⟩) n n, .slice none 0 0] 96)) := HB2.out.trans ((hb3.mono (by omega)).trans (hb4.mono (by have := hb3.size; omega)))
  have H4 : Hid (WkAt (W3.alloc (.cells #[.slice (some ⟨g, 0, none⟩) n n, .slice none 0 0] 96)) W1.heap.size W3.heap.size g n (.slice none 0 0) ⟨List.replicate n (-1), []⟩ ∧ Below W1.heap.size W1 (W3.alloc (.cells #[.slice (some ⟨g, 0, none⟩) n n, .slice none 0 0] 96))) := Lib.hid
    ⟨⟨hn4, (hb4.block _ (heap_lt hg2)).trans hg2, by simp, Todo.nil _ _, (fun e => by cases e), by have := hb3.size; omega, by omega⟩, hb14⟩
  clear hg1 hg2 hb3 hs2 hb4 hn4 hb14 HB2 HRP
  go_upto_region 3 with fail
  generalize W3.alloc (.cells #[.slice (some ⟨g, 0, none⟩) n n, .slice none 0 0] 96) = W4 at *
  generalize W3.heap.size = q at *
  have HRE := Lib.hid (reach_any W1.heap.size q g n (.slice none 0 0) ⟨List.replicate n (-1), []⟩ 0 0 W4 H4.out.1 (Nat.zero_le _) (Nat.zero_le _))
  go_wp2_with fail
  refine HRE.out.mono ?_
  rintro e W5 ⟨rfl, VT, hw5, hf5, ho5⟩
  have H5 : Hid (WkAt W5 W1.heap.size q g n VT (ck.start n) ∧ Below W1.heap.size W1 W5) := Lib.hid ⟨hw5, H4.out.2.trans (hf5.to_below _ H4.out.2.size (H4.out.1.base))⟩
  clear hw5 hf5 ho5 HRE H4
  go_upto_region 4 with fail
  have HBW : Hid (∀ wr, Below W1.heap.size W1 wr → Below w.heap.size w wr) := Lib.hid (fun wr hb => HB1.out.trans (hb.mono (by rw [HSZ.out]; omega)))
  go_loopg [8] n (fun gg s8 wr => ∃ (s : ck.Wk) (VT : Value), ck.mu s ≤ gg ∧ ck.mu s ≤ n ∧ Hid (WkAt wr W1.heap.size q g n VT s ∧ Below W1.heap.size W1 wr ∧ ck.Ok n s ∧ ck.spread m f c (ck.mu s) s = R))
  case atStart => exact ⟨ck.start n, VT, by rw [HST.out.2]; exact Nat.le_refl _, by rw [HST.out.2]; exact Nat.le_refl _, Lib.hid ⟨H5.out.1, H5.out.2, HST.out.1, HR.out⟩⟩
  case round =>
    clear H5 HST HR
    obtain ⟨⟨hs, todo⟩, VT, hmu, hmn, HA⟩ := hrel
    obtain ⟨ao, ac, rfl⟩ : ∃ ao ac, VT = .slice ao todo.length ac := HA.out.1.todo.form
    have k1 : wr.cell? ⟨q, 1, none⟩ = some (.slice ao todo.length ac) := (cell_of_heap HA.out.1.node).trans rfl
    have hlq := heap_lt HA.out.1.node
    cases todo with
    | nil =>
      have HRR : Hid (some hs = R) := Lib.hid (by rw [← HA.out.2.2.2]; exact (ck.spread_nil m f c _ ⟨hs, []⟩ rfl).symm)
      have k0 : wr.cell? ⟨q, 0, none⟩ = some (.slice (some ⟨g, 0, none⟩) n n) := (cell_of_heap HA.out.1.node).trans rfl
      go_wp2_with fail
      go_ret2
      exact HgtAns.some_ HA.out.1.len (by have := HA.out.1.hg; have := HSZ.out; omega) HA.out.1.row (HBW.out _ HA.out.2.1) HRR.out
    | cons k r =>
      have hkk := HA.out.2.2.1.todo k (by simp)
      have hhk := HA.out.2.2.1.hs k hkk.1
      have gk := ck.goOn_keeps HPT.out (hs := hs) (k := k) (r := r) (by rw [HC.out, HN.out]; exact HA.out.2.2.1)
      rw [HC.out, HN.out] at gk
      have hsp := HA.out.2.2.2
      rw [← gk.2.1] at hsp hmu hmn
      have HSP : Hid ((if (ck.goOn m f c hs k r).2 = true then ck.spread m f c (ck.mu (ck.goOn m f c hs k r).1) (ck.goOn m f c hs k r).1 else none) = R) := Lib.hid hsp
      have HOK := Lib.hid gk.1
      have hmur : r.length ≤ n := by
        have := gk.2.1
        unfold ck.mu at this hmn
        simp only [List.length_cons] at this
        omega
      have HGO : Hid (ck.goOn m f c hs k r = if (ck.behind m f (ck.insAt c k) (ck.hAt hs k)).2 = true then ck.reachAll ⟨hs, r⟩ (ck.next (ck.insAt c k) k) (ck.behind m f (ck.insAt c k) (ck.hAt hs k)).1 else (⟨hs, r⟩, false)) := Lib.hid rfl
      have hkc : k < c.length := by rw [HN.out]; exact hkk.1
      have hpt : ck.points m f (ck.insAt c k) = true := by
        rw [ck.insAt_lt hkc]
        exact HPT.out.pts _ (by rw [HC.out]; exact List.getElem_mem _)
      have hnl : ∀ j ∈ ck.next (ck.insAt c k) k, j ≤ n := ck.next_le (m := m) (f := f) (by rw [HC.out, HN.out]) hkk.1 hpt
      have HNL := Lib.hid hnl
      obtain ⟨g', off', rfl, hlt', ck', ht', hslo⟩ := HA.out.1.todo.tail
      obtain ⟨sl, hsl⟩ : ∃ sl, slo (some ⟨g', off', none⟩) ac 1 = sl := ⟨_, rfl⟩
      have hob : (Value.slice sl r.length (ac - 1)).ownBlock = (Value.slice (some ⟨g', off', none⟩) (k :: r).length ac).ownBlock := by
        rw [hsl] at hslo
        rcases hslo with rfl | rfl <;> rfl
      have hlo : ∀ wx, (Instr.slice 34 (.slice (some ⟨g', off', none⟩) (r.length + 1) ac) (some (.int .i64 1)) none none).run Tryd.prog wx = .ok (.slice sl r.length (ac - 1)) wx := fun wx => by
        rw [← hsl]
        exact run_ilo _ _ _ .i64 1 (by omega) wx
      rw [hsl] at ht'
      have hpop := HA.out.1.pop ht' hob
      have H1 : Hid (WkAt (wr.setCell ⟨q, 1, none⟩ (.slice sl r.length (ac - 1))) W1.heap.size q g n (.slice sl r.length (ac - 1)) ⟨hs, r⟩ ∧ Below W1.heap.size W1 (wr.setCell ⟨q, 1, none⟩ (.slice sl r.length (ac - 1)))) := Lib.hid ⟨hpop, HA.out.2.1.setCell HA.out.1.hq _⟩
      have f1 := thaw (k := 1) HA.out.1.node
      have hpos : (0 : Int) < (r.length : Int) + 1 := by omega
      replace k1 : wr.cell? ⟨q, 1, none⟩ = some (.slice (some ⟨g', off', none⟩) (r.length + 1) ac) := k1
      have hac : r.length + 1 ≤ ac := by
        have := HA.out.1.todo.len
        simp only [List.length_cons] at this
        omega
      clear gk hsp hslo hsl hob ht' hpop hpt hnl HA
      go_upto_region 7 with fail
      generalize wr.setCell ⟨q, 1, none⟩ (.slice sl r.length (ac - 1)) = w1 at *
      clear k1 hlq hlo f1 hlt' ck'
      obtain ⟨ii, hii⟩ : ∃ ii, ck.insAt c k = ii := ⟨_, rfl⟩
      obtain ⟨op, nn⟩ := ii
      rw [hii] at HGO HNL
      have hicode : c[k] = ⟨op, nn⟩ := by rw [← ck.insAt_lt hkc]; exact hii
      have hpn : op = 24 ∨ op = 25 → 0 ≤ nn := fun hx => by
        have hpt := HPT.out.pts c[k] (by rw [HC.out]; exact List.getElem_mem _)
        rw [hicode] at hpt
        unfold ck.points at hpt
        simp only at hpt
        rw [if_neg (by omega), if_pos hx] at hpt
        exact (ck.below_iff.1 hpt).1
      have HPN := Lib.hid hpn
      have hn400 : n ≤ 400 := hn400
      obtain ⟨bc, offc, rfl, -, -, -, -⟩ := InsIn.cell HIN.out k hkc
      have HI := Lib.hid (fun (W : World) (hb : Below W1.heap.size W1 W) => by
        have hin := RowIn.below HIN.out hb
        obtain ⟨bc', offc', e, -, hlt, ho, hn⟩ := InsIn.cell hin k hkc
        obtain ⟨rfl, rfl⟩ : bc = bc' ∧ offc = offc' := by
          injection e with e
          injection e with e1 e2
          exact ⟨e1, e2⟩
        rw [hicode] at ho hn
        exact And.intro hlt (And.intro ho hn))
      have HBX := Lib.hid (fun (W : World) (hb : Below W1.heap.size W1 W) => (hb.block _ (heap_lt HX.out)).trans HX.out)
      have HMW := Lib.hid (fun (W : World) (hb : Below W1.heap.size W1 W) => HM.out.below hb)
      have HTW := Lib.hid (fun (W : World) (hb : Below W1.heap.size W1 W) => HT1.out.below hb)
      have HBH := Lib.hid (fun (W : World) (hb : Below W1.heap.size W1 W) => behind_any D m _ _ f op nn (ck.hAt hs k) W (HMW.out W hb) (HTW.out W hb) HLM.out hkk.2 hhk.2)
      have bx := HBX.out w1 H1.out.2
      have x0 : w1.cell? ⟨w.heap.size, 0, none⟩ = some (.int .i64 m.mem) := (cell_of_heap bx).trans rfl
      have x1 : w1.cell? ⟨w.heap.size, 1, none⟩ = some (.slice od m.data.length cd) := (cell_of_heap bx).trans rfl
      have x2 : w1.cell? ⟨w.heap.size, 2, none⟩ = some (.slice (some ⟨b, off, none⟩) m.funcs.length cf) := (cell_of_heap bx).trans rfl
      have hlx := heap_lt bx
      obtain ⟨hlc, y0, y1⟩ := HI.out w1 H1.out.2
      have hkhs : k < hs.length := by have := H1.out.1.len; simp only at this; omega
      have c0 : w1.cell? ⟨g, k, none⟩ = some (.int .i64 (ck.hAt hs k)) := by rw [cell_of_heap H1.out.1.row, List.getElem?_toArray]; exact inC_at hkhs
      have k0 : w1.cell? ⟨q, 0, none⟩ = some (.slice (some ⟨g, 0, none⟩) n n) := (cell_of_heap H1.out.1.node).trans rfl
      have hlq := heap_lt H1.out.1.node
      have hlg := heap_lt H1.out.1.row
      have hkn : (k : Int) < (n : Int) := by have := hkk.1; omega
      clear bx hpn hicode hkk hhk
      obtain ⟨BR, hBR⟩ : ∃ BR, ck.behind m f ⟨op, nn⟩ (ck.hAt hs k) = BR := ⟨_, rfl⟩
      rw [hBR] at HBH
      rw [hBR] at HGO
      clear hBR hii
      generalize ck.hAt hs k = hh at *
      obtain ⟨bh, ok⟩ := BR
      dsimp only at HGO HBH
      go_cut [9, 10] from 35 to 49 (fun s9 s10 wx => s9 = .int .i64 bh ∧ s10 = .bool ok ∧ Hid (WkAt wx W1.heap.size q g n (.slice sl r.length (ac - 1)) ⟨hs, r⟩ ∧ Below W1.heap.size W1 wx))
      case first =>
        go_region_law (go_simp; go_at_call 57; refine (HBH.out w1.drew (below_dN H1.out.2 1)).mono ?_; rintro e w3 ⟨rfl, hb3⟩; have hb3' : Below w1.heap.size w1 w3 := ⟨hb3.os, hb3.tape, hb3.output, hb3.size, hb3.block⟩; have H3 := Lib.hid (And.intro (H1.out.1.below hb3') (H1.out.2.trans (hb3'.mono H1.out.2.size))); clear hb3 hb3')
        all_goals
          go_wp2_with fail
          go_meet
          exact ⟨rfl, rfl, H3⟩
      case rest =>
      obtain ⟨rfl, rfl, H3⟩ := hcut
      clear x0 x1 x2 hlx y0 y1 hlc c0 k0 hlq hlg HBH H1 HMW HTW HBX
      generalize wc = w3 at *
      cases ok with
      | false =>
        have HRN : Hid (none = R) := Lib.hid (by
          have hg : ck.goOn m f c hs k r = (⟨hs, r⟩, false) := HGO.out
          have := HSP.out
          rw [hg] at this
          exact this)
        clear HSP HGO
        go_wp2_with fail
        go_ret2
        exact HgtAns.none_ (HBW.out _ H3.out.2) HRN.out
      | true =>
        have HGO2 : Hid (ck.goOn m f c hs k r = ck.reachAll ⟨hs, r⟩ (ck.next ⟨op, nn⟩ k) bh) := Lib.hid (by rw [HGO.out, if_pos rfl])
        clear HGO
        obtain ⟨hlc, y0, y1⟩ := HI.out w3 H3.out.2
        have HNX := Lib.hid (next_any op nn k w3 (by omega) HPN.out)
        have HNN : Hid ((ck.next ⟨op, nn⟩ k).length ≤ 2) := Lib.hid (by
          unfold ck.next
          by_cases e1 : op = 24
          · rw [if_pos e1]; exact Nat.le_succ 1
          rw [if_neg e1]
          by_cases e2 : op = 25
          · rw [if_pos e2]; exact Nat.le_refl 2
          rw [if_neg e2]
          by_cases e3 : op = 27 ∨ op = 29
          · rw [if_pos e3]; exact Nat.zero_le 2
          rw [if_neg e3]; exact Nat.le_succ 1)
        generalize ck.next ⟨op, nn⟩ k = nx at *
        go_wp2_with fail
        refine HNX.out.mono ?_
        rintro e w4 ⟨V, rfl, hr4, hb4⟩
        have H4 : Hid (WkAt w4 W1.heap.size q g n (.slice sl r.length (ac - 1)) ⟨hs, r⟩ ∧ Below W1.heap.size W1 w4) := Lib.hid ⟨H3.out.1.below hb4, H3.out.2.trans (hb4.mono H3.out.2.size)⟩
        have hrow : RowIn w4 (fun x => x ≠ q ∧ x ≠ g ∧ (Value.slice sl r.length (ac - 1)).ownBlock ≠ some x) V 1 nx.length (naC nx) := RowIn.of_own hr4 (by simp [naC]) _ (fun x hx => by
          have hx3 := (hr4.lt x hx).1
          have g1 := heap_lt H3.out.1.node
          have g2 := heap_lt H3.out.1.row
          refine ⟨by omega, by omega, fun e => ?_⟩
          obtain ⟨ao, cap, e2, -, -, h3⟩ := H3.out.1.todo
          obtain ⟨rfl, -, -⟩ := Value.slice.inj e2
          rcases h3 with ⟨rfl, -⟩ | ⟨y, off, cur, rfl, -, hy, -⟩
          · cases e
          · have := heap_lt hy
            have := Option.some.inj e
            simp only at this
            omega)
        obtain ⟨oV, cV, rfl⟩ := own_slice hr4
        have HRA := Lib.hid (reachAll_any W1.heap.size q g n _ _ ⟨hs, r⟩ nx bh w4 H4.out.1 hrow HNL.out (by show r.length + nx.length ≤ 1000; have := HNN.out; omega))
        clear hr4 hb4 hrow HNX H3 hlc y0 y1
        go_wp2_with fail
        refine HRA.out.mono ?_
        rintro e w5 ⟨rfl, VT5, hw5, hf5, -⟩
        have H5 : Hid (WkAt w5 W1.heap.size q g n VT5 (ck.reachAll ⟨hs, r⟩ nx bh).1 ∧ Below W1.heap.size W1 w5) := Lib.hid ⟨hw5, H4.out.2.trans (hf5.to_below _ H4.out.2.size H4.out.1.base)⟩
        clear hw5 hf5 HRA H4
        rw [HGO2.out] at HSP HOK hmu hmn
        clear HGO2
        generalize ck.reachAll ⟨hs, r⟩ nx bh = X at *
        obtain ⟨s5, ok5⟩ := X
        dsimp only at H5 HSP HOK hmu hmn ⊢
        cases ok5 with
        | false =>
          have HRN : Hid (none = R) := Lib.hid (by
            have := HSP.out
            rw [if_neg (by decide)] at this
            exact this)
          clear HSP
          go_wp2_with fail
          go_ret2
          exact HgtAns.none_ (HBW.out _ H5.out.2) HRN.out
        | true =>
          have HSP2 : Hid (ck.spread m f c (ck.mu s5) s5 = R) := Lib.hid (by
            have := HSP.out
            rw [if_pos rfl] at this
            exact this)
          clear HSP
          go_wp2_with fail
          go_roundg (ck.mu s5)
          case measure => omega
          case rel => exact ⟨s5, VT5, Nat.le_refl _, by omega, Lib.hid ⟨H5.out.1, H5.out.2, HOK.out, HSP2.out⟩⟩
end Go.Proofs.YtoknolljfeaapaaDoor
