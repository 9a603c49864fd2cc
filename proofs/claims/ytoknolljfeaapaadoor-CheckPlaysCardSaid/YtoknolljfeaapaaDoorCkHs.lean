/- Heights. -/
import Derived.Test.YtoknolljfeaapaaDoorCkCheck
namespace Go.Proofs.YtoknolljfeaapaaDoor
open Go.RowKit
/-- what answers a list of numbers of its own -/
def IntsAns (w w' : World) (e : Ending) (l : List Int) : Prop := ∃ V, e = .returned V ∧ w'.ownsRow w.heap.size 3 1 V l.length (inC l) ∧ Below w.heap.size w w'
theorem IntsAns.eq {w w' : World} {e : Ending} {r r' : List Int} (h : IntsAns w w' e r) (hr : r = r') : IntsAns w w' e r' := hr ▸ h
theorem ck.check_cases (m : md.Mod) : ck.check m = ck.fine ∨ (∃ a b, ck.check m = ⟨a, b, 1⟩) ∨ ∃ a b, ck.check m = ⟨a, b, 130⟩ := by
  unfold ck.check
  split
  · exact .inr (.inl ⟨_, _, rfl⟩)
  · split
    · exact .inr (.inl ⟨_, _, rfl⟩)
    · have key : ∀ n f, ck.checkFrom m n f = ck.fine ∨ ∃ a b, ck.checkFrom m n f = ⟨a, b, 130⟩ := by
        intro n
        induction n with
        | zero => exact fun f => .inl rfl
        | succ n ih =>
          intro f
          unfold ck.checkFrom
          split
          · exact ih (f + 1)
          · rename_i h
            exact .inr ((ck.checkFn_cases m f).resolve_left h)
      rcases key m.funcs.length 0 with h | h
      · exact .inl h
      · exact .inr (.inr h)
theorem own_ints {w : World} {B g n : Nat} {hs : List Int} (hB : B ≤ g) (hl : hs.length = n) (hn : n ≤ 1000) (h : w.heap[g]? = some (.cells (inC hs).toArray 3 (0, 0))) : w.ownsRow B 3 1 (.slice (some ⟨g, 0, none⟩) n n) n (inC hs) := by
  refine ⟨by simp [inC, hl], .inr ⟨g, n, _, rfl, hB, h, Nat.le_refl _, by unfold maxLen; omega, by simp [inC, hl], ?_⟩⟩
  simp only [Nat.mul_one]
  exact List.take_of_length_le (by simp [inC, hl])
set_option maxRecDepth 100000 in
set_option maxHeartbeats 1600000 in
theorem heightsOf_any (D : Nat → Prop) (m : md.Mod) (VD VF : Value) (f : Int) (w : World) (h : ModIn w D VD VF m) (ht : HT w) (hD : ∀ k, D k → k < w.heap.size) (hi : md.fnsI m.funcs) :
    Calls Tryd.prog 12 #[modV m VD VF, .int .i64 f] w fun e w' => IntsAns w w' e (ck.heightsOf m f) := by
  obtain ⟨R, hR⟩ : ∃ R, ck.heightsOf m f = R := ⟨_, rfl⟩
  rw [hR]
  obtain ⟨od, cd, of, cf, rfl, rfl, hd1, hd2, hf1, hf2⟩ := h.slices
  have hb1 := below_one w (modB m.mem (.slice od m.data.length cd) (.slice of m.funcs.length cf))
  have HX := Lib.hid (heap_alloc_new w (modB m.mem (.slice od m.data.length cd) (.slice of m.funcs.length cf)))
  have HM := Lib.hid (h.below hb1)
  have HT1 := Lib.hid (ht.below hb1)
  have HB1 := Lib.hid hb1
  have HCH := Lib.hid (check_any D m _ _ _ (h.below hb1) (ht.below hb1) (fun k hk => Nat.lt_of_lt_of_le (hD k hk) hb1.size) hi)
  have HR : Hid (R = if ck.check m = ck.fine ∧ ck.below f m.funcs.length = true then (ck.heights m f.toNat).getD [] else []) := Lib.hid (by rw [← hR]; rfl)
  have HPT := Lib.hid (ck.fine_pt (m := m))
  have hcs := ck.check_cases m
  have HBL := Lib.hid (fun W => below_any f m.funcs.length W)
  clear hR h ht hb1 hd1 hd2 hD hi
  go_enter Tryd.func12, Tryd.ntmps12
  go_upto_region 1 with fail
  generalize w.alloc (modB m.mem (.slice od m.data.length cd) (.slice of m.funcs.length cf)) = W1 at *
  have x0 : W1.cell? ⟨w.heap.size, 0, none⟩ = some (.int .i64 m.mem) := (cell_of_heap HX.out).trans rfl
  have x1 : W1.cell? ⟨w.heap.size, 1, none⟩ = some (.slice od m.data.length cd) := (cell_of_heap HX.out).trans rfl
  have x2 : W1.cell? ⟨w.heap.size, 2, none⟩ = some (.slice of m.funcs.length cf) := (cell_of_heap HX.out).trans rfl
  have hlx := heap_lt HX.out
  obtain ⟨CK, hck⟩ : ∃ CK, ck.check m = CK := ⟨_, rfl⟩
  rw [hck] at HCH hcs HR
  have HCK := Lib.hid hck
  have HCS := Lib.hid hcs
  clear hck hcs
  go_wp2_with fail
  refine HCH.out.mono ?_
  rintro e w2 ⟨rfl, hb2⟩
  have H2 := Lib.hid (And.intro hb2 ((hb2.block _ hlx).trans HX.out))
  have hB2 : Hid (Below w.heap.size w w2) := Lib.hid (HB1.out.trans (hb2.mono HB1.out.size))
  have z0 : w2.cell? ⟨w.heap.size, 0, none⟩ = some (.int .i64 m.mem) := (cell_of_heap H2.out.2).trans rfl
  have z1 : w2.cell? ⟨w.heap.size, 1, none⟩ = some (.slice od m.data.length cd) := (cell_of_heap H2.out.2).trans rfl
  have z2 : w2.cell? ⟨w.heap.size, 2, none⟩ = some (.slice of m.funcs.length cf) := (cell_of_heap H2.out.2).trans rfl
  have hlz := heap_lt H2.out.2
  clear hb2 HCH x0 x1 x2 hlx
  rcases HCS.out with rfl | ⟨a, b, rfl⟩ | ⟨a, b, rfl⟩
  case inr.inl =>
    have HRR : Hid ([] = R) := Lib.hid (by rw [HR.out, if_neg (fun h => absurd h.1 (fun e => by injection e with _ _ e; omega))])
    clear HR HPT HM HT1 H2 HBL HCS
    go_wp2_with fail
    go_ret
    exact IntsAns.eq ⟨_, rfl, World.ownsRow_nil _ _ _ _, hB2.out⟩ HRR.out
  case inr.inr =>
    have HRR : Hid ([] = R) := Lib.hid (by rw [HR.out, if_neg (fun h => absurd h.1 ck.flaw_ne')])
    clear HR HPT HM HT1 H2 HBL HCS
    go_wp2_with fail
    go_ret
    exact IntsAns.eq ⟨_, rfl, World.ownsRow_nil _ _ _ _, hB2.out⟩ HRR.out
  case inl =>
    unfold ck.fine
    dsimp only
    go_wp2_with fail
    refine (HBL.out _).mono ?_
    rintro e w' ⟨rfl, hw⟩
    replace hw := hw.symm
    subst hw
    cases hb : ck.below f m.funcs.length with
    | false =>
      have HRR : Hid ([] = R) := Lib.hid (by rw [HR.out, hb, if_neg (fun h => by cases h.2)])
      clear HR HPT HM HT1 H2 HBL HCS hb
      go_wp2_with fail
      go_ret
      exact IntsAns.eq ⟨_, rfl, World.ownsRow_nil _ _ _ _, hB2.out⟩ HRR.out
    | true =>
      obtain ⟨h0, h1⟩ := ck.below_iff.1 hb
      obtain ⟨k, rfl⟩ : ∃ k : Nat, f = (k : Int) := ⟨f.toNat, by omega⟩
      have hk : k < m.funcs.length := by omega
      obtain ⟨hlm, hpt⟩ := HPT.out HCK.out
      obtain ⟨hpt, hs, hhs⟩ := hpt k hk
      have hlen := hlm (ck.fnAt m k) (by rw [ck.fnAt_lt hk]; exact List.getElem_mem _)
      have HRR : Hid (hs = R) := Lib.hid (by rw [HR.out, if_pos ⟨trivial, hb⟩, Int.toNat_natCast, hhs]; rfl)
      have HHG := Lib.hid (heights_any D m _ _ k _ w2 (HM.out.below H2.out.1) (HT1.out.below H2.out.1) hlm hpt rfl)
      rw [hhs] at HHG
      have HLN : Hid ((ck.fnAt m k).code.length ≤ 400) := Lib.hid (by omega)
      clear HR HPT HM HT1 HBL HCS hb hlm hpt hhs hlen h0 h1
      generalize (ck.fnAt m k).code.length = n at *
      go_wp2_with fail
      refine HHG.out.mono ?_
      rintro e w3 ⟨⟨hl3, g, rfl, hg3, hr3⟩, hb3⟩
      have H3 := Lib.hid (show IntsAns w w3 (.returned (.slice (some ⟨g, 0, none⟩) n n)) hs from ⟨_, rfl, by
        rw [hl3]
        exact own_ints (by have := hB2.out.size; omega) hl3 (by have := HLN.out; omega) hr3, hB2.out.trans (hb3.mono hB2.out.size)⟩)
      clear hl3 hg3 hr3 hb3 HHG H2 z0 z1 z2 hlz
      go_wp2_with fail
      go_ret
      exact IntsAns.eq H3.out HRR.out
end Go.Proofs.YtoknolljfeaapaaDoor
