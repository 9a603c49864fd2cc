/- The document's Heights: the walk. -/
import Derived.Test.YtoknolljfeaapaaDoorCkBad
namespace Go.Proofs.YtoknolljfeaapaaDoor
open Go.RowKit
theorem ck.start_snoc (k : Nat) (h : 1 ≤ k) : (0 : Int) :: List.replicate (k + 1 - 1) (-1) = ((0 : Int) :: List.replicate (k - 1) (-1)) ++ [-1] := by
  obtain ⟨j, rfl⟩ : ∃ j, k = j + 1 := ⟨k - 1, by omega⟩
  simp only [Nat.add_sub_cancel, List.cons_append]
  rw [List.replicate_succ']
def RefHAns (w w' : World) (e : Ending) (r : Option (List Int)) : Prop :=
  Below w.heap.size w w' ∧ match r with
    | none => e = .returned (.tuple #[.slice none 0 0, .bool false])
    | some hs => ∃ V, e = .returned (.tuple #[V, .bool true]) ∧ w'.ownsRow w.heap.size 3 1 V hs.length (inC hs)
theorem RefHAns.some_ {w w' : World} {V : Value} {hs : List Int} {R : Option (List Int)} (h1 : Below w.heap.size w w') (h2 : w'.ownsRow w.heap.size 3 1 V hs.length (inC hs)) (hr : R = some hs) : RefHAns w w' (.returned (.tuple #[V, .bool true])) R := by
  subst hr
  exact ⟨h1, V, rfl, h2⟩
theorem RefHAns.none_ {w w' : World} {R : Option (List Int)} (h1 : Below w.heap.size w w') (hr : R = none) : RefHAns w w' (.returned (.tuple #[.slice none 0 0, .bool false])) R := by
  subst hr
  exact ⟨h1, rfl⟩
theorem NR.next {B : Nat} {W0 W W' : World} {V : Value} {l : List Int} (h : NR B W0 W V l) (hB : B ≤ W.heap.size) (hb : Below W.heap.size W W') : NR B W0 W' V l := ⟨row_below h.own hb, h.bel.trans (hb.mono hB)⟩
theorem NR.in_ {B : Nat} {W0 W : World} {V : Value} {l : List Int} (h : NR B W0 W V l) : NsIn W (fun _ => True) V l := RowIn.of_own h.own (by simp [inC]) _ (fun _ _ => trivial)
theorem ck.behind_eq (m : md.Mod) (f : Nat) (op nn X t p : Int) (ok : Bool) (he : ck.effect m f ⟨op, nn⟩ = (t, p, ok)) : ck.behind m f ⟨op, nn⟩ X = if X - t < 0 ∨ 64 < X - t + p ∨ (op = 27 ∧ 0 < X - t) then (0, false) else (X - t + p, true) := by
  unfold ck.behind
  rw [he]
def ck.L4 (nx : List Nat) : List Int := nx.map fun (x : Nat) => (x : Int)
theorem ck.L4_at {nx : List Nat} {j : Nat} (h : j < (ck.L4 nx).length) : (ck.L4 nx)[j] = ((nx.getD j 0 : Nat) : Int) := by
  have h' : j < nx.length := by simpa [ck.L4] using h
  simp [ck.L4, List.getD_eq_getElem?_getD, h']
theorem ck.next_cases (op nn : Int) (k : Nat) (h0 : op = 24 ∨ op = 25 → 0 ≤ nn) :
    (op = 24 ∧ ck.L4 (ck.next ⟨op, nn⟩ k) = [nn]) ∨ (op = 25 ∧ ck.L4 (ck.next ⟨op, nn⟩ k) = [nn, (k : Int) + 1]) ∨ (op = 27 ∧ ck.L4 (ck.next ⟨op, nn⟩ k) = []) ∨ (op = 29 ∧ ck.L4 (ck.next ⟨op, nn⟩ k) = []) ∨ (op ≠ 24 ∧ op ≠ 25 ∧ op ≠ 27 ∧ op ≠ 29 ∧ ck.L4 (ck.next ⟨op, nn⟩ k) = [(k : Int) + 1]) := by
  by_cases e1 : op = 24
  · subst e1
    have := h0 (.inl rfl)
    refine .inl ⟨rfl, ?_⟩
    have e : ck.next ⟨24, nn⟩ k = [nn.toNat] := rfl
    rw [e]
    show [((nn.toNat : Nat) : Int)] = [nn]
    rw [Int.toNat_of_nonneg this]
  by_cases e2 : op = 25
  · subst e2
    have := h0 (.inr rfl)
    refine .inr (.inl ⟨rfl, ?_⟩)
    have e : ck.next ⟨25, nn⟩ k = [nn.toNat, k + 1] := rfl
    rw [e]
    show [((nn.toNat : Nat) : Int), ((k + 1 : Nat) : Int)] = [nn, (k : Int) + 1]
    rw [Int.toNat_of_nonneg this]
    rfl
  by_cases e3 : op = 27
  · subst e3
    exact .inr (.inr (.inl ⟨rfl, rfl⟩))
  by_cases e4 : op = 29
  · subst e4
    exact .inr (.inr (.inr (.inl ⟨rfl, rfl⟩)))
  · refine .inr (.inr (.inr (.inr ⟨e1, e2, e3, e4, ?_⟩)))
    unfold ck.next
    simp only
    rw [if_neg e1, if_neg e2, if_neg (by omega)]
    rfl
set_option maxRecDepth 100000 in
set_option maxHeartbeats 6400000 in
theorem rheights_any (D : Nat → Prop) (m : md.Mod) (VD VF : Value) (f : Nat) (w : World) (h : ModIn w D VD VF m) (hm : ck.Lim m) (hp : ck.Pt m f) :
    Calls Tryd.prog 13 #[modV m VD VF, .int .i64 f] w fun e w' => RefHAns w w' e (ck.heights m f) := by
  obtain ⟨od, cd, of, cf, rfl, rfl, hd1, hd2, hf1, hf2⟩ := h.slices
  have hf := hp.lt
  have hb1 := below_one w (modB m.mem (.slice od m.data.length cd) (.slice of m.funcs.length cf))
  have HX1 := Lib.hid (heap_alloc_new w (modB m.mem (.slice od m.data.length cd) (.slice of m.funcs.length cf)))
  have HM1 := Lib.hid (h.below hb1)
  have HB1 := Lib.hid hb1
  have HPT := Lib.hid hp
  have HLM := Lib.hid hm
  have hlen : 1 ≤ (ck.fnAt m f).code.length ∧ (ck.fnAt m f).code.length ≤ 400 := by
    have := hm (ck.fnAt m f) (by rw [ck.fnAt_lt hf]; exact List.getElem_mem _)
    omega
  obtain ⟨b, off, oc, cc, rfl, -, hlb, -, -, -, p3, hin⟩ := FnsIn.cell HM1.out.fns f hf
  rw [← ck.fnAt_lt hf] at p3 hin
  obtain ⟨R, hR⟩ : ∃ R, ck.heights m f = R := ⟨_, rfl⟩
  have HSOME := Lib.hid (fun (hs : List Int) (hF : ck.Fit m f (ck.fnAt m f).code hs) (hl : ∀ hs', ck.Fit m f (ck.fnAt m f).code hs' → ck.Le hs hs') => hR.symm.trans (ck.ref_some hp (by omega) hF hl))
  have HNONE := Lib.hid (fun (hx : ∀ hs', ¬ ck.Fit m f (ck.fnAt m f).code hs') => hR.symm.trans (ck.ref_none hp (by omega) hx))
  rw [hR]
  clear hR
  obtain ⟨c, hc⟩ : ∃ c, (ck.fnAt m f).code = c := ⟨_, rfl⟩
  rw [hc] at p3 hin hlen HSOME HNONE
  have HCC := Lib.hid hc
  clear hc
  have hcc := (RowIn.lens hin).2
  have HIN := Lib.hid hin
  obtain ⟨nc, hnc⟩ : ∃ nc, c.length = nc := ⟨_, rfl⟩
  have HNC := Lib.hid hnc
  rw [hnc] at p3 hcc hlen
  clear hnc hin h hb1 hp hm
  have k2 : (w.alloc (modB m.mem (.slice od m.data.length cd) (.slice (some ⟨b, off, none⟩) m.funcs.length cf))).cell? ⟨w.heap.size, 2, none⟩ = some (.slice (some ⟨b, off, none⟩) m.funcs.length cf) := (cell_of_heap HX1.out).trans rfl
  have hl0 := heap_lt HX1.out
  go_enter Tryd.func13, Tryd.ntmps13
  go_upto_region 1 with fail
  have HSZ : Hid ((w.alloc (modB m.mem (.slice od m.data.length cd) (.slice (some ⟨b, off, none⟩) m.funcs.length cf))).heap.size = w.heap.size + 1) := Lib.hid (World.size_alloc _ _)
  generalize w.alloc (modB m.mem (.slice od m.data.length cd) (.slice (some ⟨b, off, none⟩) m.funcs.length cf)) = W1 at *
  have H0 : Hid (NR W1.heap.size W1 (W1.alloc (.cells #[.int .i64 0] 3)) (.slice (some ⟨W1.heap.size, 0, none⟩) 1 1) (0 :: List.replicate (1 - 1) (-1))) := Lib.hid ⟨World.ownsRow_lit W1 #[.int .i64 0] 1 (Nat.le_refl _) (by unfold maxLen; omega) rfl, below_one W1 _⟩
  go_upto_region 4 with fail
  clear k2 hl0 p3 hlb
  go_loopg [7, 8] nc (fun gg s7 s8 wr => ∃ (k : Nat) (ao : Option Addr) (ac : Nat), s8 = .int .i64 k ∧ s7 = .slice ao k ac ∧ 1 ≤ k ∧ k ≤ nc ∧ nc - k ≤ gg ∧ Hid (NR W1.heap.size W1 wr (.slice ao k ac) (0 :: List.replicate (k - 1) (-1))))
  case atStart => exact ⟨1, _, _, rfl, rfl, Nat.le_refl _, hlen.1, by omega, H0⟩
  case round =>
    clear H0
    obtain ⟨k, ao, ac, rfl, rfl, hk1, hk, hgk, HR⟩ := hrel
    by_cases hkt : k < nc
    case pos =>
      have hki : (k : Int) < (nc : Int) := by omega
      obtain ⟨LL, hLL⟩ : ∃ LL : List Int, ((0 : Int) :: List.replicate (k - 1) (-1)) ++ [-1] = LL := ⟨_, rfl⟩
      have HLL := Lib.hid hLL
      have HSN := Lib.hid (ck.start_snoc k hk1)
      have HLT : Hid (((0 : Int) :: List.replicate (k - 1) (-1)).length = k) := Lib.hid (by simp; omega)
      generalize ((0 : Int) :: List.replicate (k - 1) (-1)) = L at *
      clear hLL
      go_wp2_with (at_builtin; go_loud (refine wpList_num wr (-1) rfl _ _ rfl W1.heap.size (.slice ao k ac) L LL HLL.out rfl HR.out.own wr.heap.size rfl rfl (by rw [HLT.out]; omega) HR.out.bel.size ?_))
      intro V' w5 r1 r2
      have H5 : Hid (NR W1.heap.size W1 w5 V' (0 :: List.replicate (k + 1 - 1) (-1))) := Lib.hid (by
        rw [HSN.out, HLL.out]
        exact HR.out.push HR.out.bel.size r1 r2)
      obtain ⟨ao', ac', rfl⟩ : ∃ ao ac, V' = .slice ao (k + 1) ac := by
        obtain ⟨ao, ac, e⟩ := own_slice r1
        refine ⟨ao, ac, e.trans ?_⟩
        rw [← HLL.out, List.length_append, HLT.out, List.length_singleton]
      clear r1 r2
      go_wp2_with fail
      go_roundg (nc - (k + 1))
      case measure => omega
      case rel => exact ⟨k + 1, ao', ac', by go_num, rfl, by omega, by omega, Nat.le_refl _, H5⟩
    case neg =>
      obtain rfl : nc = k := by omega
      have hki : ¬ (nc : Int) < (nc : Int) := by omega
      have HRI : Hid (ck.RI m f c (0 :: List.replicate (nc - 1) (-1))) := Lib.hid (by
        have := ck.RI.start (m := m) (f := f) (c := c) (by rw [HNC.out]; omega)
        rw [HNC.out] at this
        exact this)
      have H2 : Hid (NR W1.heap.size W1 wr (.slice ao nc ac) (0 :: List.replicate (nc - 1) (-1)) ∧ ck.RI m f c (0 :: List.replicate (nc - 1) (-1))) := Lib.hid ⟨HR.out, HRI.out⟩
      have hu0 : ck.unr (0 :: List.replicate (nc - 1) (-1)) ≤ nc := by
        have := ck.unr_le (0 :: List.replicate (nc - 1) (-1))
        simp only [List.length_cons, List.length_replicate] at this
        omega
      clear HR HRI
      obtain ⟨hsA, hhsA⟩ : ∃ hsA : List Int, (0 : Int) :: List.replicate (nc - 1) (-1) = hsA := ⟨_, rfl⟩
      rw [hhsA] at H2 hu0
      clear hhsA
      go_upto_region 8 with fail
      go_loopg [7, 9] (nc + 1) (fun gg s7 s9 wr => ∃ (hs : List Int) (ao : Option Addr) (ac : Nat) (ch : Bool), s7 = .slice ao nc ac ∧ s9 = .bool ch ∧ (ch = true → ck.unr hs + 1 ≤ gg) ∧ ck.unr hs ≤ nc ∧ Hid (NR W1.heap.size W1 wr (.slice ao nc ac) hs ∧ ck.RI m f c hs ∧ (ch = false → ∀ k, k < nc → 0 ≤ ck.hAt hs k → ck.Done m f c hs k)))
      case atStart => exact ⟨hsA, ao, ac, true, rfl, rfl, fun _ => by omega, hu0, Lib.hid ⟨H2.out.1, H2.out.2, fun h => by cases h⟩⟩
      case round =>
        clear H2 hu0 hki hgk hk1 ac ao hsA
        obtain ⟨hs0, ao, ac, ch, rfl, rfl, hgg, hun, H2⟩ := hrel
        cases ch with
        | false =>
          have HRR := Lib.hid (HSOME.out hs0 (H2.out.2.1.fit (by rw [HNC.out]; exact H2.out.2.2 rfl)) H2.out.2.1.least)
          have HRL : Hid (hs0.length = nc) := Lib.hid (H2.out.2.1.len.trans HNC.out)
          have HOW : Hid (wr.ownsRow w.heap.size 3 1 (.slice ao nc ac) hs0.length (inC hs0) ∧ Below w.heap.size w wr) := Lib.hid ⟨own_base H2.out.1.own (by rw [HSZ.out]; omega), HB1.out.trans (H2.out.1.bel.mono (by rw [HSZ.out]; omega))⟩
          clear H2
          go_wp2_with fail
          go_ret2
          exact RefHAns.some_ HOW.out.2 HOW.out.1 HRR.out
        | true =>
          have hgg1 := hgg rfl
          clear hgg
          have H3 : Hid (NR W1.heap.size W1 wr (.slice ao nc ac) hs0 ∧ ck.RI m f c hs0) := Lib.hid ⟨H2.out.1, H2.out.2.1⟩
          clear H2
          go_upto_region 11 with fail
          go_loopg [7, 9, 10] nc (fun gg s7 s9 s10 wr => ∃ (hs : List Int) (ao : Option Addr) (ac : Nat) (ch : Bool) (k : Nat), s7 = .slice ao nc ac ∧ s9 = .bool ch ∧ s10 = .int .i64 k ∧ k ≤ nc ∧ nc - k ≤ gg ∧ (ch = true → ck.unr hs + 1 ≤ ck.unr hs0) ∧ ck.unr hs ≤ ck.unr hs0 ∧ Hid (NR W1.heap.size W1 wr (.slice ao nc ac) hs ∧ ck.RI m f c hs ∧ (ch = false → ∀ j, j < k → 0 ≤ ck.hAt hs j → ck.Done m f c hs j)))
          case atStart => exact ⟨hs0, ao, ac, false, 0, rfl, rfl, rfl, Nat.zero_le _, by omega, (fun h => by cases h), Nat.le_refl _, Lib.hid ⟨H3.out.1, H3.out.2, fun _ j hj => absurd hj (Nat.not_lt_zero j)⟩⟩
          case round =>
            clear H3 ao ac
            obtain ⟨hs, ao, ac, ch, k, rfl, rfl, rfl, hk, hgk, hch, hule, H3⟩ := hrel
            by_cases hkt : k < nc
            case neg =>
              obtain rfl : nc = k := by omega
              have hki : ¬ (nc : Int) < (nc : Int) := by omega
              go_wp2_with fail
              go_roundg (ck.unr hs0)
              case measure => omega
              case rel => exact ⟨hs, ao, ac, ch, rfl, rfl, hch, by omega, H3⟩
            case pos =>
              have hki : (k : Int) < (nc : Int) := by omega
              have hkc : k < c.length := by rw [HNC.out]; exact hkt
              have hkh : k < hs.length := by rw [H3.out.2.1.len]; exact hkc
              have hrng := H3.out.2.1.rng k hkc
              obtain ⟨bh, oh, rfl, hlh, ch0⟩ := NsIn.cell H3.out.1.in_ k hkh
              rw [← ck.hAt_lt hkh] at ch0
              obtain ⟨X, hX⟩ : ∃ X, ck.hAt hs k = X := ⟨_, rfl⟩
              rw [hX] at ch0 hrng
              have HX := Lib.hid hX
              clear hX
              by_cases hX0 : X < 0
              case pos =>
                have H4 : Hid (ch = false → ∀ j, j < k + 1 → 0 ≤ ck.hAt hs j → ck.Done m f c hs j) := Lib.hid (fun hc j hj h0 => by
                  by_cases e : j = k
                  · subst e
                    rw [HX.out] at h0
                    omega
                  · exact H3.out.2.2 hc j (by omega) h0)
                go_wp2_with fail
                go_roundg (nc - (k + 1))
                case measure => omega
                case rel => exact ⟨hs, _, ac, ch, k + 1, rfl, rfl, by go_num, by omega, Nat.le_refl _, hch, hule, Lib.hid ⟨H3.out.1, H3.out.2.1, H4.out⟩⟩
              case neg =>
                obtain ⟨ii, hii⟩ : ∃ ii, ck.insAt c k = ii := ⟨_, rfl⟩
                obtain ⟨op, nn⟩ := ii
                have hicode : c[k] = ⟨op, nn⟩ := by rw [← ck.insAt_lt hkc]; exact hii
                have HII := Lib.hid hii
                have hpn : op = 24 ∨ op = 25 → 0 ≤ nn := fun hx => by
                  have hpt := HPT.out.pts c[k] (by rw [HCC.out]; exact List.getElem_mem _)
                  rw [hicode] at hpt
                  unfold ck.points at hpt
                  simp only at hpt
                  rw [if_neg (by omega), if_pos hx] at hpt
                  exact (ck.below_iff.1 hpt).1
                have HNXC := Lib.hid (ck.next_cases op nn k hpn)
                clear hii hpn
                obtain ⟨bc, oc', rfl, -, hlc, y0, y1⟩ := InsIn.cell (RowIn.below HIN.out H3.out.1.bel) k hkc
                rw [hicode] at y0 y1
                have hb5 := below_one wr (.cells #[.int .i64 op, .int .i64 nn] 59)
                have HN5 := Lib.hid (heap_alloc_new wr (.cells #[.int .i64 op, .int .i64 nn] 59))
                have H5 : Hid (NR W1.heap.size W1 (wr.alloc (.cells #[.int .i64 op, .int .i64 nn] 59)) (.slice (some ⟨bh, oh, none⟩) nc ac) hs ∧ Below wr.heap.size wr (wr.alloc (.cells #[.int .i64 op, .int .i64 nn] 59))) := Lib.hid ⟨H3.out.1.next H3.out.1.bel.size hb5, hb5⟩
                have HRC : Hid (ck.RI m f c hs ∧ (ch = false → ∀ j, j < k → 0 ≤ ck.hAt hs j → ck.Done m f c hs j)) := Lib.hid H3.out.2
                have HQ0 : Hid (W1.heap.size ≤ wr.heap.size) := Lib.hid H3.out.1.bel.size
                clear hb5 hicode H3
                go_upto_region 15 with fail
                clear y0 y1 hlc ch0 hlh
                generalize wr.alloc (.cells #[.int .i64 op, .int .i64 nn] 59) = w5 at *
                have HQ := Lib.hid (And.intro HQ0.out H5.out.2.size)
                have HLW : Hid (∀ W, Below w5.heap.size w5 W → NR W1.heap.size W1 W (.slice (some ⟨bh, oh, none⟩) nc ac) hs ∧ W.heap[wr.heap.size]? = some (.cells #[.int .i64 op, .int .i64 nn] 59 (0, 0))) := Lib.hid (fun W hb => ⟨H5.out.1.next H5.out.1.bel.size hb, (hb.block _ (heap_lt HN5.out)).trans HN5.out⟩)
                generalize wr.heap.size = qi at *
                have bx := (H5.out.1.bel.block _ (heap_lt HX1.out)).trans HX1.out
                have x0 : w5.cell? ⟨w.heap.size, 0, none⟩ = some (.int .i64 m.mem) := (cell_of_heap bx).trans rfl
                have x1 : w5.cell? ⟨w.heap.size, 1, none⟩ = some (.slice od m.data.length cd) := (cell_of_heap bx).trans rfl
                have x2 : w5.cell? ⟨w.heap.size, 2, none⟩ = some (.slice (some ⟨b, off, none⟩) m.funcs.length cf) := (cell_of_heap bx).trans rfl
                have hlx := heap_lt bx
                have i0 : w5.cell? ⟨qi, 0, none⟩ = some (.int .i64 op) := (cell_of_heap HN5.out).trans rfl
                have i1 : w5.cell? ⟨qi, 1, none⟩ = some (.int .i64 nn) := (cell_of_heap HN5.out).trans rfl
                have hli := heap_lt HN5.out
                obtain ⟨hE1, hE2, hE3, hE4⟩ := ck.effect_le HLM.out f ⟨op, nn⟩
                have HEF := Lib.hid (fun (W : World) (hb : Below w5.heap.size w5 W) => reffect_any D m _ _ f op nn W (HM1.out.below (H5.out.1.bel.trans (hb.mono H5.out.1.bel.size))))
                obtain ⟨EF, hEF⟩ : ∃ EF, ck.effect m f ⟨op, nn⟩ = EF := ⟨_, rfl⟩
                rw [hEF] at hE1 hE2 hE3 hE4 HEF
                obtain ⟨t, p, ok⟩ := EF
                dsimp only at hE1 hE2 hE3 hE4 HEF
                have HBH := Lib.hid (ck.behind_eq m f op nn X t p ok hEF)
                clear hEF bx
                go_wp2_with fail
                refine (HEF.out w5 (Below.refl _ _)).mono ?_
                rintro e w6 ⟨rfl, hb6⟩
                have H6 := Lib.hid hb6
                clear hb6
                clear x0 x1 x2 hlx i0 i1 hli HEF
                have H7 := Lib.hid (HLW.out w6 H6.out)
                have HQ7 := Lib.hid (And.intro (Nat.le_trans HQ.out.1 HQ.out.2) H6.out.size)
                clear H5 H6 HLW HN5
                have i0 : w6.cell? ⟨qi, 0, none⟩ = some (.int .i64 op) := (cell_of_heap H7.out.2).trans rfl
                have i1 : w6.cell? ⟨qi, 1, none⟩ = some (.int .i64 nn) := (cell_of_heap H7.out.2).trans rfl
                have hli := heap_lt H7.out.2
                obtain ⟨bh', oh', ee, hlh, ch0⟩ := NsIn.cell H7.out.1.in_ k hkh
                obtain ⟨rfl, rfl⟩ : bh = bh' ∧ oh = oh' := by
                  injection ee with ee
                  injection ee with e1 e2
                  exact ⟨e1, e2⟩
                rw [← ck.hAt_lt hkh, HX.out] at ch0
                clear ee
                obtain ⟨hv, hhv⟩ : ∃ hv, X - t = hv := ⟨_, rfl⟩
                obtain ⟨sv, hsv⟩ : ∃ sv, hv + p = sv := ⟨_, rfl⟩
                have hw1 : IntKind.i64.wrap (X - t) = hv := by rw [IntKind.wrap_i64]; omega
                have hw2 : IntKind.i64.wrap (hv + p) = sv := by rw [IntKind.wrap_i64]; omega
                have hkx : 0 ≤ X := by omega
                have HK : Hid (k < c.length ∧ 0 ≤ ck.hAt hs k) := Lib.hid ⟨hkc, by rw [HX.out]; exact hkx⟩
                have HBQ : Hid (ck.behind m f ⟨op, nn⟩ X = if hv < 0 ∨ 64 < sv ∨ (op = 27 ∧ 0 < hv) then (0, false) else (sv, true)) := Lib.hid (by rw [HBH.out, hhv, hsv])
                clear HBH hkc hkh
                have HFL : Hid ((hv < 0 ∨ 64 < sv ∨ (op = 27 ∧ 0 < hv)) → R = none) := Lib.hid (fun hx => HNONE.out (HRC.out.1.fail1 HK.out.1 HK.out.2 (by rw [HII.out, HX.out, HBQ.out, if_pos hx])))
                have HB7 : Hid (Below w.heap.size w w6) := Lib.hid (HB1.out.trans (H7.out.1.bel.mono (by rw [HSZ.out]; omega)))
                by_cases hv0 : hv < 0
                · have HRR := Lib.hid (HFL.out (.inl hv0))
                  have d0 : decide (hv < 0) = true := decide_eq_true hv0
                  clear hhv hsv
                  go_wp2_with fail
                  go_ret2
                  exact RefHAns.none_ HB7.out HRR.out
                have d0 : decide (hv < 0) = false := decide_eq_false hv0
                by_cases hs0' : 64 < sv
                · have HRR := Lib.hid (HFL.out (.inr (.inl hs0')))
                  have d1 : decide (64 < sv) = true := decide_eq_true hs0'
                  clear hhv hsv
                  go_wp2_with fail
                  go_ret2
                  exact RefHAns.none_ HB7.out HRR.out
                have d1 : decide (64 < sv) = false := decide_eq_false hs0'
                by_cases h27 : op = 27 ∧ 0 < hv
                · have HRR := Lib.hid (HFL.out (.inr (.inr h27)))
                  obtain ⟨rfl, hvp⟩ := h27
                  have d2 : (hv != 0) = true := by simp; omega
                  clear hhv hsv
                  go_wp2_with fail
                  go_ret2
                  exact RefHAns.none_ HB7.out HRR.out
                have HBG : Hid (ck.behind m f (ck.insAt c k) (ck.hAt hs k) = (sv, true)) := Lib.hid (by rw [HII.out, HX.out, HBQ.out, if_neg (by omega)])
                have HNE := Lib.hid (show ck.L4 (ck.next (ck.insAt c k) k) = ck.L4 (ck.next ⟨op, nn⟩ k) by rw [HII.out])
                have hsvr : 0 ≤ sv ∧ sv ≤ 64 := by omega
                clear hhv hsv HBQ HFL HII
                have hv27 : op = 27 → (hv != 0) = false := fun h => by simp; omega
                have hnlen := HNXC.out
                have hempty : Hid (NR w6.heap.size w6 (w6.alloc (.cells #[] 3)) (.slice (some ⟨w6.heap.size, 0, none⟩) 0 0) [] ∧ Below w6.heap.size w6 (w6.alloc (.cells #[] 3))) := Lib.hid ⟨⟨World.ownsRow_lit w6 #[] 0 (Nat.le_refl _) (by unfold maxLen; omega) rfl, below_one w6 _⟩, below_one w6 _⟩
                have HN : Hid (ck.L4 (ck.next (ck.insAt c k) k) = ck.L4 (ck.next ⟨op, nn⟩ k)) := HNE
                rw [← HN.out] at hnlen
                clear HNXC HNE HN
                obtain ⟨nx, hnx⟩ : ∃ nx, ck.next (ck.insAt c k) k = nx := ⟨_, rfl⟩
                rw [hnx] at hnlen
                have HNX := Lib.hid hnx
                clear hnx
                obtain ⟨LL, hLL⟩ : ∃ LL, ck.L4 nx = LL := ⟨_, rfl⟩
                rw [hLL] at hnlen
                have HLL := Lib.hid hLL
                clear hLL
                have i0' := fun (W : World) (hb : Below w6.heap.size w6 W) => ((hb.block _ hli).trans H7.out.2)
                have HI0 := Lib.hid i0'
                clear i0'
                rcases hnlen with ⟨rfl, hl⟩ | ⟨rfl, hl⟩ | ⟨rfl, hl⟩ | ⟨rfl, hl⟩ | ⟨h1, h2, h3, h4, hl⟩
                · have HLE := Lib.hid hl
                  clear hl
                  clear hv27
                  go_upto_region 21 with fail
                  clear i0 i1 hli ch0 hlh
                  generalize w6.alloc (.cells #[] 3) = w7 at *
                  have HE7 : Hid (NR w6.heap.size w6 w7 (.slice (some ⟨w6.heap.size, 0, none⟩) 0 0) []) := Lib.hid hempty.out.1
                  have hx := HI0.out w7 hempty.out.2
                  have i0 : w7.cell? ⟨qi, 0, none⟩ = some (.int .i64 24) := (cell_of_heap hx).trans rfl
                  have i1 : w7.cell? ⟨qi, 1, none⟩ = some (.int .i64 nn) := (cell_of_heap hx).trans rfl
                  have hli := heap_lt hx
                  clear hx
                  go_wp2_with (at_builtin; go_loud (refine wpList_num w7 nn rfl _ _ rfl w6.heap.size (.slice (some ⟨w6.heap.size, 0, none⟩) 0 0) [] LL HLE.out.symm rfl HE7.out.own w7.heap.size rfl rfl (Nat.zero_le _) HE7.out.bel.size ?_))
                  intro V' w8 r1 r2
                  have Hw8 : Hid (NR w6.heap.size w6 w8 V' LL) := Lib.hid (HE7.out.push HE7.out.bel.size r1 r2)
                  obtain ⟨ao8, ac8, rfl⟩ := own_slice r1
                  clear r1 r2
                  clear i0 i1 hli
                  have hx := HI0.out w8 Hw8.out.bel
                  have i0 : w8.cell? ⟨qi, 0, none⟩ = some (.int .i64 24) := (cell_of_heap hx).trans rfl
                  have i1 : w8.cell? ⟨qi, 1, none⟩ = some (.int .i64 nn) := (cell_of_heap hx).trans rfl
                  have hli := heap_lt hx
                  clear hx
                  go_upto_region 25 with fail
                  have HS9 : Hid (NR W1.heap.size W1 w8 (.slice (some ⟨bh, oh, none⟩) nc ac) hs) := Lib.hid (H7.out.1.next H7.out.1.bel.size Hw8.out.bel)
                  have HLN : Hid (nx.length = LL.length) := Lib.hid (by have := congrArg List.length HLL.out; simp only [ck.L4, List.length_map] at this; rw [this])
                  have hLL2 : LL.length ≤ 2 := by rw [HLE.out]; simp
                  have HB9 : Hid (NsIn w8 (fun _ => True) (.slice ao8 LL.length ac8) (ck.L4 nx)) := Lib.hid (by rw [HLL.out]; exact Hw8.out.in_)
                  clear i0 i1 hli
                  go_loopg [7, 9, 17] LL.length (fun gg s7 s9 s17 wx => ∃ (hs2 : List Int) (ao2 : Option Addr) (ac2 : Nat) (ch2 : Bool) (j : Nat), s7 = .slice ao2 nc ac2 ∧ s9 = .bool ch2 ∧ s17 = .int .i64 j ∧ j ≤ LL.length ∧ LL.length - j ≤ gg ∧ (ch2 = true → ck.unr hs2 + 1 ≤ ck.unr hs0) ∧ ck.unr hs2 ≤ ck.unr hs0 ∧ Hid (NR W1.heap.size W1 wx (.slice ao2 nc ac2) hs2 ∧ ck.RI m f c hs2 ∧ Below w8.heap.size w8 wx ∧ ck.hAt hs2 k = X ∧ (ch2 = false → hs2 = hs ∧ ch = false) ∧ ∀ i, i < j → nx.getD i 0 < nc ∧ ck.hAt hs2 (nx.getD i 0) = sv))
                  case atStart => exact ⟨hs, _, ac, ch, 0, rfl, rfl, rfl, Nat.zero_le _, by omega, hch, hule, Lib.hid ⟨HS9.out, HRC.out.1, Below.refl _ _, HX.out, (fun h => ⟨rfl, h⟩), fun i hi => absurd hi (Nat.not_lt_zero i)⟩⟩
                  case round =>
                    obtain ⟨hs2, ao2, ac2, ch2, j, rfl, rfl, rfl, hj, hgj, hch2, hule2, HA⟩ := hrel
                    by_cases hjt : j < LL.length
                    case neg =>
                      have hji : ¬ (j : Int) < (LL.length : Int) := by omega
                      have HDN : Hid (ch2 = false → ∀ j, j < k + 1 → 0 ≤ ck.hAt hs2 j → ck.Done m f c hs2 j) := Lib.hid (by
                        intro hc i hi h0
                        obtain ⟨g1, g2⟩ := HA.out.2.2.2.2.1 hc
                        have g3 := HBG.out
                        have g4 := HRC.out.2 g2
                        rw [← g1] at g3 g4
                        by_cases e : i = k
                        · subst e
                          refine ⟨by rw [g3], fun t ht => ?_⟩
                          rw [HNX.out] at ht
                          obtain ⟨n, hn, rfl⟩ := List.mem_iff_getElem.1 ht
                          have := HA.out.2.2.2.2.2 n (by have := HLN.out; omega)
                          rw [List.getD_eq_getElem?_getD, List.getElem?_eq_getElem hn, Option.getD_some] at this
                          rw [g3, HNC.out]
                          exact this
                        · exact g4 i (by omega) h0)
                      have HFIN : Hid (NR W1.heap.size W1 wr (.slice ao2 nc ac2) hs2 ∧ ck.RI m f c hs2 ∧ (ch2 = false → ∀ j, j < k + 1 → 0 ≤ ck.hAt hs2 j → ck.Done m f c hs2 j)) := Lib.hid ⟨HA.out.1, HA.out.2.1, HDN.out⟩
                      clear HA HDN
                      go_wp2_with fail
                      go_roundg (nc - (k + 1))
                      case measure => omega
                      case rel => exact ⟨hs2, ao2, ac2, ch2, k + 1, rfl, rfl, by go_num, by omega, Nat.le_refl _, hch2, hule2, HFIN⟩
                    case pos =>
                      have hji : (j : Int) < (LL.length : Int) := by omega
                      have hjn : j < nx.length := by have := HLN.out; omega
                      obtain ⟨tn, htn⟩ : ∃ tn, nx.getD j 0 = tn := ⟨_, rfl⟩
                      have HTN := Lib.hid htn
                      have HMEM : Hid (tn ∈ ck.next (ck.insAt c k) k) := Lib.hid (by
                        rw [HNX.out, ← htn, List.getD_eq_getElem?_getD, List.getElem?_eq_getElem hjn, Option.getD_some]
                        exact List.getElem_mem _)
                      have hjl : j < (ck.L4 nx).length := by simp only [ck.L4, List.length_map]; exact hjn
                      obtain ⟨b9, o9, rfl, hl9, c9⟩ := NsIn.cell (RowIn.below HB9.out HA.out.2.2.1) j hjl
                      rw [ck.L4_at hjl, htn] at c9
                      clear htn hjl hjn
                      have HHS : Hid (hs2.length = nc) := Lib.hid (HA.out.2.1.len.trans HNC.out)
                      have HPUT := Lib.hid (put_any (fun _ => True) (.slice ao2 nc ac2) hs2 tn sv wr HA.out.1.in_ (by rw [HHS.out]; omega))
                      have HBS : Hid (ck.behind m f (ck.insAt c k) (ck.hAt hs2 k) = (sv, true)) := Lib.hid (by rw [HA.out.2.2.2.1, ← HX.out]; exact HBG.out)
                      have HK2 : Hid (0 ≤ ck.hAt hs2 k) := Lib.hid (by rw [HA.out.2.2.2.1]; exact hkx)
                      have HBW : Hid (Below w.heap.size w wr) := Lib.hid (HB1.out.trans (HA.out.1.bel.mono (by rw [HSZ.out]; omega)))
                      by_cases hge : nc ≤ tn
                      · have hgi : (nc : Int) ≤ (tn : Int) := by omega
                        have HRR := Lib.hid (HNONE.out (HA.out.2.1.fail2 HK.out.1 HK2.out HMEM.out (.inl (by rw [HNC.out]; exact hge))))
                        clear HPUT
                        go_wp2_with fail
                        go_ret2
                        exact RefHAns.none_ HBW.out HRR.out
                      have hlti : (tn : Int) < (nc : Int) := by omega
                      have hnge : ¬ (nc : Int) ≤ (tn : Int) := by omega
                      have hth : tn < hs2.length := by rw [HHS.out]; omega
                      have htc : tn < c.length := by rw [HNC.out]; omega
                      have HTC := Lib.hid htc
                      obtain ⟨b2, o2, rfl, hl2, c2⟩ := NsIn.cell HA.out.1.in_ tn hth
                      rw [← ck.hAt_lt hth] at c2
                      obtain ⟨Y, hY⟩ : ∃ Y, ck.hAt hs2 tn = Y := ⟨_, rfl⟩
                      rw [hY] at c2
                      have HY := Lib.hid hY
                      clear hY hth htc
                      by_cases hY0 : Y < 0
                      · have hn0 : ¬ 0 ≤ Y := by omega
                        have hput := HA.out.2.1.put HPT.out.fns HK.out.1 HK2.out (by rw [HBS.out]) HMEM.out HTC.out (by rw [HY.out]; exact hY0)
                        rw [HBS.out] at hput
                        have HP := Lib.hid hput
                        have hun2 := hput.2.1
                        clear hput
                        go_wp2_with fail
                        refine HPUT.out.mono ?_
                        rintro e wp ⟨V', rfl, hown, hbp⟩
                        obtain ⟨ao', ac', rfl⟩ : ∃ ao ac, V' = .slice ao nc ac := by
                          obtain ⟨ao, ac, e⟩ := own_slice hown
                          exact ⟨ao, ac, by rw [e, List.length_set, HHS.out]⟩
                        have HB2 : Hid (NR W1.heap.size W1 wp (.slice ao' nc ac') (hs2.set tn sv) ∧ ck.RI m f c (hs2.set tn sv) ∧ Below w8.heap.size w8 wp ∧ ck.hAt (hs2.set tn sv) k = X ∧ (true = false → hs2.set tn sv = hs ∧ ch = false) ∧ ∀ i, i < j + 1 → nx.getD i 0 < nc ∧ ck.hAt (hs2.set tn sv) (nx.getD i 0) = sv) := Lib.hid (by
                          refine ⟨⟨own_base hown HA.out.1.bel.size, HA.out.1.bel.trans (hbp.mono HA.out.1.bel.size)⟩, HP.out.1, HA.out.2.2.1.trans (hbp.mono HA.out.2.2.1.size), ?_, (fun h => by cases h), fun i hi => ?_⟩
                          · rw [HP.out.2.2, if_neg (fun e => ?_)]
                            · exact HA.out.2.2.2.1
                            · have := HK2.out
                              rw [e, HY.out] at this
                              omega
                          · rw [HP.out.2.2]
                            by_cases e : i = j
                            · subst e
                              rw [HTN.out, if_pos rfl]
                              exact ⟨by have := HTC.out; rw [HNC.out] at this; exact this, rfl⟩
                            · obtain ⟨g1, g2⟩ := HA.out.2.2.2.2.2 i (by omega)
                              refine ⟨g1, ?_⟩
                              split
                              · rfl
                              · exact g2)
                        clear hown hbp HPUT HA HP HMEM HTN HTC HY c2 hl2 c9 hl9
                        go_wp2_with fail
                        go_roundg (LL.length - (j + 1))
                        case measure => omega
                        case rel => exact ⟨hs2.set tn sv, ao', ac', true, j + 1, rfl, rfl, by go_num, by omega, Nat.le_refl _, (fun _ => by omega), by omega, HB2⟩
                      · by_cases hYs : Y = sv
                        · subst hYs
                          have e1 : (Y != Y) = false := by simp
                          have h0Y : 0 ≤ Y := by omega
                          have HB2 : Hid (NR W1.heap.size W1 wr (.slice (some ⟨b2, o2, none⟩) nc ac2) hs2 ∧ ck.RI m f c hs2 ∧ Below w8.heap.size w8 wr ∧ ck.hAt hs2 k = X ∧ (ch2 = false → hs2 = hs ∧ ch = false) ∧ ∀ i, i < j + 1 → nx.getD i 0 < nc ∧ ck.hAt hs2 (nx.getD i 0) = Y) := Lib.hid (by
                            refine ⟨HA.out.1, HA.out.2.1, HA.out.2.2.1, HA.out.2.2.2.1, HA.out.2.2.2.2.1, fun i hi => ?_⟩
                            by_cases e : i = j
                            · subst e
                              rw [HTN.out]
                              exact ⟨by have := HTC.out; rw [HNC.out] at this; exact this, HY.out⟩
                            · exact HA.out.2.2.2.2.2 i (by omega))
                          clear HPUT HA HMEM HTN HTC HY HBS HBG
                          go_wp2_with fail
                          go_roundg (LL.length - (j + 1))
                          case measure => omega
                          case rel => exact ⟨hs2, _, ac2, ch2, j + 1, rfl, rfl, by go_num, by omega, Nat.le_refl _, hch2, hule2, HB2⟩
                        · have e1 : (Y != sv) = true := by simpa using hYs
                          have h0Y : 0 ≤ Y := by omega
                          have HRR := Lib.hid (HNONE.out (HA.out.2.1.fail2 HK.out.1 HK2.out HMEM.out (.inr ⟨HTC.out, by rw [HY.out]; exact h0Y, by rw [HY.out, HBS.out]; exact hYs⟩)))
                          clear HPUT
                          go_wp2_with fail
                          go_ret2
                          exact RefHAns.none_ HBW.out HRR.out
                · have HLE := Lib.hid hl
                  clear hl
                  clear hv27
                  obtain ⟨L1, hL1⟩ : ∃ L1 : List Int, [nn] = L1 := ⟨_, rfl⟩
                  have HL1 := Lib.hid hL1
                  have HL2 : Hid (L1 ++ [(k : Int) + 1] = LL) := Lib.hid (by rw [← hL1, HLE.out]; rfl)
                  have HL3 : Hid (L1.length ≤ 1000) := Lib.hid (by rw [← hL1]; simp)
                  clear hL1
                  go_upto_region 21 with fail
                  clear i0 i1 hli ch0 hlh
                  generalize w6.alloc (.cells #[] 3) = w7 at *
                  have HE7 : Hid (NR w6.heap.size w6 w7 (.slice (some ⟨w6.heap.size, 0, none⟩) 0 0) []) := Lib.hid hempty.out.1
                  have hx := HI0.out w7 hempty.out.2
                  have i0 : w7.cell? ⟨qi, 0, none⟩ = some (.int .i64 25) := (cell_of_heap hx).trans rfl
                  have i1 : w7.cell? ⟨qi, 1, none⟩ = some (.int .i64 nn) := (cell_of_heap hx).trans rfl
                  have hli := heap_lt hx
                  clear hx
                  go_wp2_with (at_builtin; go_loud (refine wpList_num w7 nn rfl _ _ rfl w6.heap.size (.slice (some ⟨w6.heap.size, 0, none⟩) 0 0) [] L1 HL1.out rfl HE7.out.own w7.heap.size rfl rfl (Nat.zero_le _) HE7.out.bel.size ?_))
                  intro V' w8 r1 r2
                  have Hw8 : Hid (NR w6.heap.size w6 w8 V' L1) := Lib.hid (HE7.out.push HE7.out.bel.size r1 r2)
                  obtain ⟨ao8, ac8, rfl⟩ := own_slice r1
                  clear r1 r2
                  clear i0 i1 hli
                  have hx := HI0.out w8 Hw8.out.bel
                  have i0 : w8.cell? ⟨qi, 0, none⟩ = some (.int .i64 25) := (cell_of_heap hx).trans rfl
                  have i1 : w8.cell? ⟨qi, 1, none⟩ = some (.int .i64 nn) := (cell_of_heap hx).trans rfl
                  have hli := heap_lt hx
                  clear hx
                  go_wp2_with (at_builtin; go_loud (refine wpList_num w8 ((k : Int) + 1) rfl _ _ rfl w6.heap.size (.slice ao8 L1.length ac8) L1 LL HL2.out rfl Hw8.out.own w8.heap.size rfl rfl HL3.out Hw8.out.bel.size ?_))
                  intro V' w9 r1 r2
                  have Hw9 : Hid (NR w6.heap.size w6 w9 V' LL) := Lib.hid (Hw8.out.push Hw8.out.bel.size r1 r2)
                  obtain ⟨ao9, ac9, rfl⟩ := own_slice r1
                  clear r1 r2
                  clear i0 i1 hli
                  have hx := HI0.out w9 Hw9.out.bel
                  have i0 : w9.cell? ⟨qi, 0, none⟩ = some (.int .i64 25) := (cell_of_heap hx).trans rfl
                  have i1 : w9.cell? ⟨qi, 1, none⟩ = some (.int .i64 nn) := (cell_of_heap hx).trans rfl
                  have hli := heap_lt hx
                  clear hx
                  go_upto_region 25 with fail
                  have HS9 : Hid (NR W1.heap.size W1 w9 (.slice (some ⟨bh, oh, none⟩) nc ac) hs) := Lib.hid (H7.out.1.next H7.out.1.bel.size Hw9.out.bel)
                  have HLN : Hid (nx.length = LL.length) := Lib.hid (by have := congrArg List.length HLL.out; simp only [ck.L4, List.length_map] at this; rw [this])
                  have hLL2 : LL.length ≤ 2 := by rw [HLE.out]; simp
                  have HB9 : Hid (NsIn w9 (fun _ => True) (.slice ao9 LL.length ac9) (ck.L4 nx)) := Lib.hid (by rw [HLL.out]; exact Hw9.out.in_)
                  clear i0 i1 hli
                  go_loopg [7, 9, 17] LL.length (fun gg s7 s9 s17 wx => ∃ (hs2 : List Int) (ao2 : Option Addr) (ac2 : Nat) (ch2 : Bool) (j : Nat), s7 = .slice ao2 nc ac2 ∧ s9 = .bool ch2 ∧ s17 = .int .i64 j ∧ j ≤ LL.length ∧ LL.length - j ≤ gg ∧ (ch2 = true → ck.unr hs2 + 1 ≤ ck.unr hs0) ∧ ck.unr hs2 ≤ ck.unr hs0 ∧ Hid (NR W1.heap.size W1 wx (.slice ao2 nc ac2) hs2 ∧ ck.RI m f c hs2 ∧ Below w9.heap.size w9 wx ∧ ck.hAt hs2 k = X ∧ (ch2 = false → hs2 = hs ∧ ch = false) ∧ ∀ i, i < j → nx.getD i 0 < nc ∧ ck.hAt hs2 (nx.getD i 0) = sv))
                  case atStart => exact ⟨hs, _, ac, ch, 0, rfl, rfl, rfl, Nat.zero_le _, by omega, hch, hule, Lib.hid ⟨HS9.out, HRC.out.1, Below.refl _ _, HX.out, (fun h => ⟨rfl, h⟩), fun i hi => absurd hi (Nat.not_lt_zero i)⟩⟩
                  case round =>
                    obtain ⟨hs2, ao2, ac2, ch2, j, rfl, rfl, rfl, hj, hgj, hch2, hule2, HA⟩ := hrel
                    by_cases hjt : j < LL.length
                    case neg =>
                      have hji : ¬ (j : Int) < (LL.length : Int) := by omega
                      have HDN : Hid (ch2 = false → ∀ j, j < k + 1 → 0 ≤ ck.hAt hs2 j → ck.Done m f c hs2 j) := Lib.hid (by
                        intro hc i hi h0
                        obtain ⟨g1, g2⟩ := HA.out.2.2.2.2.1 hc
                        have g3 := HBG.out
                        have g4 := HRC.out.2 g2
                        rw [← g1] at g3 g4
                        by_cases e : i = k
                        · subst e
                          refine ⟨by rw [g3], fun t ht => ?_⟩
                          rw [HNX.out] at ht
                          obtain ⟨n, hn, rfl⟩ := List.mem_iff_getElem.1 ht
                          have := HA.out.2.2.2.2.2 n (by have := HLN.out; omega)
                          rw [List.getD_eq_getElem?_getD, List.getElem?_eq_getElem hn, Option.getD_some] at this
                          rw [g3, HNC.out]
                          exact this
                        · exact g4 i (by omega) h0)
                      have HFIN : Hid (NR W1.heap.size W1 wr (.slice ao2 nc ac2) hs2 ∧ ck.RI m f c hs2 ∧ (ch2 = false → ∀ j, j < k + 1 → 0 ≤ ck.hAt hs2 j → ck.Done m f c hs2 j)) := Lib.hid ⟨HA.out.1, HA.out.2.1, HDN.out⟩
                      clear HA HDN
                      go_wp2_with fail
                      go_roundg (nc - (k + 1))
                      case measure => omega
                      case rel => exact ⟨hs2, ao2, ac2, ch2, k + 1, rfl, rfl, by go_num, by omega, Nat.le_refl _, hch2, hule2, HFIN⟩
                    case pos =>
                      have hji : (j : Int) < (LL.length : Int) := by omega
                      have hjn : j < nx.length := by have := HLN.out; omega
                      obtain ⟨tn, htn⟩ : ∃ tn, nx.getD j 0 = tn := ⟨_, rfl⟩
                      have HTN := Lib.hid htn
                      have HMEM : Hid (tn ∈ ck.next (ck.insAt c k) k) := Lib.hid (by
                        rw [HNX.out, ← htn, List.getD_eq_getElem?_getD, List.getElem?_eq_getElem hjn, Option.getD_some]
                        exact List.getElem_mem _)
                      have hjl : j < (ck.L4 nx).length := by simp only [ck.L4, List.length_map]; exact hjn
                      obtain ⟨b9, o9, rfl, hl9, c9⟩ := NsIn.cell (RowIn.below HB9.out HA.out.2.2.1) j hjl
                      rw [ck.L4_at hjl, htn] at c9
                      clear htn hjl hjn
                      have HHS : Hid (hs2.length = nc) := Lib.hid (HA.out.2.1.len.trans HNC.out)
                      have HPUT := Lib.hid (put_any (fun _ => True) (.slice ao2 nc ac2) hs2 tn sv wr HA.out.1.in_ (by rw [HHS.out]; omega))
                      have HBS : Hid (ck.behind m f (ck.insAt c k) (ck.hAt hs2 k) = (sv, true)) := Lib.hid (by rw [HA.out.2.2.2.1, ← HX.out]; exact HBG.out)
                      have HK2 : Hid (0 ≤ ck.hAt hs2 k) := Lib.hid (by rw [HA.out.2.2.2.1]; exact hkx)
                      have HBW : Hid (Below w.heap.size w wr) := Lib.hid (HB1.out.trans (HA.out.1.bel.mono (by rw [HSZ.out]; omega)))
                      by_cases hge : nc ≤ tn
                      · have hgi : (nc : Int) ≤ (tn : Int) := by omega
                        have HRR := Lib.hid (HNONE.out (HA.out.2.1.fail2 HK.out.1 HK2.out HMEM.out (.inl (by rw [HNC.out]; exact hge))))
                        clear HPUT
                        go_wp2_with fail
                        go_ret2
                        exact RefHAns.none_ HBW.out HRR.out
                      have hlti : (tn : Int) < (nc : Int) := by omega
                      have hnge : ¬ (nc : Int) ≤ (tn : Int) := by omega
                      have hth : tn < hs2.length := by rw [HHS.out]; omega
                      have htc : tn < c.length := by rw [HNC.out]; omega
                      have HTC := Lib.hid htc
                      obtain ⟨b2, o2, rfl, hl2, c2⟩ := NsIn.cell HA.out.1.in_ tn hth
                      rw [← ck.hAt_lt hth] at c2
                      obtain ⟨Y, hY⟩ : ∃ Y, ck.hAt hs2 tn = Y := ⟨_, rfl⟩
                      rw [hY] at c2
                      have HY := Lib.hid hY
                      clear hY hth htc
                      by_cases hY0 : Y < 0
                      · have hn0 : ¬ 0 ≤ Y := by omega
                        have hput := HA.out.2.1.put HPT.out.fns HK.out.1 HK2.out (by rw [HBS.out]) HMEM.out HTC.out (by rw [HY.out]; exact hY0)
                        rw [HBS.out] at hput
                        have HP := Lib.hid hput
                        have hun2 := hput.2.1
                        clear hput
                        go_wp2_with fail
                        refine HPUT.out.mono ?_
                        rintro e wp ⟨V', rfl, hown, hbp⟩
                        obtain ⟨ao', ac', rfl⟩ : ∃ ao ac, V' = .slice ao nc ac := by
                          obtain ⟨ao, ac, e⟩ := own_slice hown
                          exact ⟨ao, ac, by rw [e, List.length_set, HHS.out]⟩
                        have HB2 : Hid (NR W1.heap.size W1 wp (.slice ao' nc ac') (hs2.set tn sv) ∧ ck.RI m f c (hs2.set tn sv) ∧ Below w9.heap.size w9 wp ∧ ck.hAt (hs2.set tn sv) k = X ∧ (true = false → hs2.set tn sv = hs ∧ ch = false) ∧ ∀ i, i < j + 1 → nx.getD i 0 < nc ∧ ck.hAt (hs2.set tn sv) (nx.getD i 0) = sv) := Lib.hid (by
                          refine ⟨⟨own_base hown HA.out.1.bel.size, HA.out.1.bel.trans (hbp.mono HA.out.1.bel.size)⟩, HP.out.1, HA.out.2.2.1.trans (hbp.mono HA.out.2.2.1.size), ?_, (fun h => by cases h), fun i hi => ?_⟩
                          · rw [HP.out.2.2, if_neg (fun e => ?_)]
                            · exact HA.out.2.2.2.1
                            · have := HK2.out
                              rw [e, HY.out] at this
                              omega
                          · rw [HP.out.2.2]
                            by_cases e : i = j
                            · subst e
                              rw [HTN.out, if_pos rfl]
                              exact ⟨by have := HTC.out; rw [HNC.out] at this; exact this, rfl⟩
                            · obtain ⟨g1, g2⟩ := HA.out.2.2.2.2.2 i (by omega)
                              refine ⟨g1, ?_⟩
                              split
                              · rfl
                              · exact g2)
                        clear hown hbp HPUT HA HP HMEM HTN HTC HY c2 hl2 c9 hl9
                        go_wp2_with fail
                        go_roundg (LL.length - (j + 1))
                        case measure => omega
                        case rel => exact ⟨hs2.set tn sv, ao', ac', true, j + 1, rfl, rfl, by go_num, by omega, Nat.le_refl _, (fun _ => by omega), by omega, HB2⟩
                      · by_cases hYs : Y = sv
                        · subst hYs
                          have e1 : (Y != Y) = false := by simp
                          have h0Y : 0 ≤ Y := by omega
                          have HB2 : Hid (NR W1.heap.size W1 wr (.slice (some ⟨b2, o2, none⟩) nc ac2) hs2 ∧ ck.RI m f c hs2 ∧ Below w9.heap.size w9 wr ∧ ck.hAt hs2 k = X ∧ (ch2 = false → hs2 = hs ∧ ch = false) ∧ ∀ i, i < j + 1 → nx.getD i 0 < nc ∧ ck.hAt hs2 (nx.getD i 0) = Y) := Lib.hid (by
                            refine ⟨HA.out.1, HA.out.2.1, HA.out.2.2.1, HA.out.2.2.2.1, HA.out.2.2.2.2.1, fun i hi => ?_⟩
                            by_cases e : i = j
                            · subst e
                              rw [HTN.out]
                              exact ⟨by have := HTC.out; rw [HNC.out] at this; exact this, HY.out⟩
                            · exact HA.out.2.2.2.2.2 i (by omega))
                          clear HPUT HA HMEM HTN HTC HY HBS HBG
                          go_wp2_with fail
                          go_roundg (LL.length - (j + 1))
                          case measure => omega
                          case rel => exact ⟨hs2, _, ac2, ch2, j + 1, rfl, rfl, by go_num, by omega, Nat.le_refl _, hch2, hule2, HB2⟩
                        · have e1 : (Y != sv) = true := by simpa using hYs
                          have h0Y : 0 ≤ Y := by omega
                          have HRR := Lib.hid (HNONE.out (HA.out.2.1.fail2 HK.out.1 HK2.out HMEM.out (.inr ⟨HTC.out, by rw [HY.out]; exact h0Y, by rw [HY.out, HBS.out]; exact hYs⟩)))
                          clear HPUT
                          go_wp2_with fail
                          go_ret2
                          exact RefHAns.none_ HBW.out HRR.out
                · have HLE := Lib.hid hl
                  clear hl
                  have hz : hv = 0 := by have := hv27 rfl; simpa using this
                  clear hv27
                  subst hz
                  go_upto_region 25 with fail
                  clear i0 i1 hli ch0 hlh
                  generalize w6.alloc (.cells #[] 3) = w7 at *
                  have HE7 : Hid (NR w6.heap.size w6 w7 (.slice (some ⟨w6.heap.size, 0, none⟩) 0 0) []) := Lib.hid hempty.out.1
                  have hx := HI0.out w7 hempty.out.2
                  have i0 : w7.cell? ⟨qi, 0, none⟩ = some (.int .i64 27) := (cell_of_heap hx).trans rfl
                  have i1 : w7.cell? ⟨qi, 1, none⟩ = some (.int .i64 nn) := (cell_of_heap hx).trans rfl
                  have hli := heap_lt hx
                  clear hx
                  have HS9 : Hid (NR W1.heap.size W1 w7 (.slice (some ⟨bh, oh, none⟩) nc ac) hs) := Lib.hid (H7.out.1.next H7.out.1.bel.size HE7.out.bel)
                  have HLN : Hid (nx.length = 0) := Lib.hid (by have := congrArg List.length HLL.out; simp only [ck.L4, List.length_map] at this; rw [this, HLE.out]; rfl)
                  clear i0 i1 hli
                  go_loopg [7, 9, 17] 0 (fun gg s7 s9 s17 wx => ∃ (hs2 : List Int) (ao2 : Option Addr) (ac2 : Nat) (ch2 : Bool) (j : Nat), s7 = .slice ao2 nc ac2 ∧ s9 = .bool ch2 ∧ s17 = .int .i64 j ∧ j ≤ 0 ∧ 0 - j ≤ gg ∧ (ch2 = true → ck.unr hs2 + 1 ≤ ck.unr hs0) ∧ ck.unr hs2 ≤ ck.unr hs0 ∧ Hid (NR W1.heap.size W1 wx (.slice ao2 nc ac2) hs2 ∧ ck.RI m f c hs2 ∧ Below w7.heap.size w7 wx ∧ ck.hAt hs2 k = X ∧ (ch2 = false → hs2 = hs ∧ ch = false) ∧ ∀ i, i < j → nx.getD i 0 < nc ∧ ck.hAt hs2 (nx.getD i 0) = sv))
                  case atStart => exact ⟨hs, _, ac, ch, 0, rfl, rfl, rfl, Nat.zero_le _, by omega, hch, hule, Lib.hid ⟨HS9.out, HRC.out.1, Below.refl _ _, HX.out, (fun h => ⟨rfl, h⟩), fun i hi => absurd hi (Nat.not_lt_zero i)⟩⟩
                  case round =>
                    obtain ⟨hs2, ao2, ac2, ch2, j, rfl, rfl, rfl, hj, hgj, hch2, hule2, HA⟩ := hrel
                    by_cases hjt : j < 0
                    case neg =>
                      have hji : ¬ (j : Int) < (0 : Int) := by omega
                      have HDN : Hid (ch2 = false → ∀ j, j < k + 1 → 0 ≤ ck.hAt hs2 j → ck.Done m f c hs2 j) := Lib.hid (by
                        intro hc i hi h0
                        obtain ⟨g1, g2⟩ := HA.out.2.2.2.2.1 hc
                        have g3 := HBG.out
                        have g4 := HRC.out.2 g2
                        rw [← g1] at g3 g4
                        by_cases e : i = k
                        · subst e
                          refine ⟨by rw [g3], fun t ht => ?_⟩
                          rw [HNX.out] at ht
                          obtain ⟨n, hn, rfl⟩ := List.mem_iff_getElem.1 ht
                          have := HA.out.2.2.2.2.2 n (by have := HLN.out; omega)
                          rw [List.getD_eq_getElem?_getD, List.getElem?_eq_getElem hn, Option.getD_some] at this
                          rw [g3, HNC.out]
                          exact this
                        · exact g4 i (by omega) h0)
                      have HFIN : Hid (NR W1.heap.size W1 wr (.slice ao2 nc ac2) hs2 ∧ ck.RI m f c hs2 ∧ (ch2 = false → ∀ j, j < k + 1 → 0 ≤ ck.hAt hs2 j → ck.Done m f c hs2 j)) := Lib.hid ⟨HA.out.1, HA.out.2.1, HDN.out⟩
                      clear HA HDN
                      go_wp2_with fail
                      go_roundg (nc - (k + 1))
                      case measure => omega
                      case rel => exact ⟨hs2, ao2, ac2, ch2, k + 1, rfl, rfl, by go_num, by omega, Nat.le_refl _, hch2, hule2, HFIN⟩
                    case pos =>
                      exact absurd hjt (Nat.not_lt_zero _)
                · have HLE := Lib.hid hl
                  clear hl
                  clear hv27
                  go_upto_region 25 with fail
                  clear i0 i1 hli ch0 hlh
                  generalize w6.alloc (.cells #[] 3) = w7 at *
                  have HE7 : Hid (NR w6.heap.size w6 w7 (.slice (some ⟨w6.heap.size, 0, none⟩) 0 0) []) := Lib.hid hempty.out.1
                  have hx := HI0.out w7 hempty.out.2
                  have i0 : w7.cell? ⟨qi, 0, none⟩ = some (.int .i64 29) := (cell_of_heap hx).trans rfl
                  have i1 : w7.cell? ⟨qi, 1, none⟩ = some (.int .i64 nn) := (cell_of_heap hx).trans rfl
                  have hli := heap_lt hx
                  clear hx
                  have HS9 : Hid (NR W1.heap.size W1 w7 (.slice (some ⟨bh, oh, none⟩) nc ac) hs) := Lib.hid (H7.out.1.next H7.out.1.bel.size HE7.out.bel)
                  have HLN : Hid (nx.length = 0) := Lib.hid (by have := congrArg List.length HLL.out; simp only [ck.L4, List.length_map] at this; rw [this, HLE.out]; rfl)
                  clear i0 i1 hli
                  go_loopg [7, 9, 17] 0 (fun gg s7 s9 s17 wx => ∃ (hs2 : List Int) (ao2 : Option Addr) (ac2 : Nat) (ch2 : Bool) (j : Nat), s7 = .slice ao2 nc ac2 ∧ s9 = .bool ch2 ∧ s17 = .int .i64 j ∧ j ≤ 0 ∧ 0 - j ≤ gg ∧ (ch2 = true → ck.unr hs2 + 1 ≤ ck.unr hs0) ∧ ck.unr hs2 ≤ ck.unr hs0 ∧ Hid (NR W1.heap.size W1 wx (.slice ao2 nc ac2) hs2 ∧ ck.RI m f c hs2 ∧ Below w7.heap.size w7 wx ∧ ck.hAt hs2 k = X ∧ (ch2 = false → hs2 = hs ∧ ch = false) ∧ ∀ i, i < j → nx.getD i 0 < nc ∧ ck.hAt hs2 (nx.getD i 0) = sv))
                  case atStart => exact ⟨hs, _, ac, ch, 0, rfl, rfl, rfl, Nat.zero_le _, by omega, hch, hule, Lib.hid ⟨HS9.out, HRC.out.1, Below.refl _ _, HX.out, (fun h => ⟨rfl, h⟩), fun i hi => absurd hi (Nat.not_lt_zero i)⟩⟩
                  case round =>
                    obtain ⟨hs2, ao2, ac2, ch2, j, rfl, rfl, rfl, hj, hgj, hch2, hule2, HA⟩ := hrel
                    by_cases hjt : j < 0
                    case neg =>
                      have hji : ¬ (j : Int) < (0 : Int) := by omega
                      have HDN : Hid (ch2 = false → ∀ j, j < k + 1 → 0 ≤ ck.hAt hs2 j → ck.Done m f c hs2 j) := Lib.hid (by
                        intro hc i hi h0
                        obtain ⟨g1, g2⟩ := HA.out.2.2.2.2.1 hc
                        have g3 := HBG.out
                        have g4 := HRC.out.2 g2
                        rw [← g1] at g3 g4
                        by_cases e : i = k
                        · subst e
                          refine ⟨by rw [g3], fun t ht => ?_⟩
                          rw [HNX.out] at ht
                          obtain ⟨n, hn, rfl⟩ := List.mem_iff_getElem.1 ht
                          have := HA.out.2.2.2.2.2 n (by have := HLN.out; omega)
                          rw [List.getD_eq_getElem?_getD, List.getElem?_eq_getElem hn, Option.getD_some] at this
                          rw [g3, HNC.out]
                          exact this
                        · exact g4 i (by omega) h0)
                      have HFIN : Hid (NR W1.heap.size W1 wr (.slice ao2 nc ac2) hs2 ∧ ck.RI m f c hs2 ∧ (ch2 = false → ∀ j, j < k + 1 → 0 ≤ ck.hAt hs2 j → ck.Done m f c hs2 j)) := Lib.hid ⟨HA.out.1, HA.out.2.1, HDN.out⟩
                      clear HA HDN
                      go_wp2_with fail
                      go_roundg (nc - (k + 1))
                      case measure => omega
                      case rel => exact ⟨hs2, ao2, ac2, ch2, k + 1, rfl, rfl, by go_num, by omega, Nat.le_refl _, hch2, hule2, HFIN⟩
                    case pos =>
                      exact absurd hjt (Nat.not_lt_zero _)
                · have HLE := Lib.hid hl
                  clear hl
                  clear hv27
                  have e24 : (op == 24) = false := by simp; omega
                  have e25 : (op == 25) = false := by simp; omega
                  have e27 : (op == 27) = false := by simp; omega
                  have n24 : (op != 24) = true := by simp; omega
                  have n27 : (op != 27) = true := by simp; omega
                  have n29 : (op != 29) = true := by simp; omega
                  go_upto_region 23 with fail
                  clear i0 i1 hli ch0 hlh
                  generalize w6.alloc (.cells #[] 3) = w7 at *
                  have HE7 : Hid (NR w6.heap.size w6 w7 (.slice (some ⟨w6.heap.size, 0, none⟩) 0 0) []) := Lib.hid hempty.out.1
                  have hx := HI0.out w7 hempty.out.2
                  have i0 : w7.cell? ⟨qi, 0, none⟩ = some (.int .i64 op) := (cell_of_heap hx).trans rfl
                  have i1 : w7.cell? ⟨qi, 1, none⟩ = some (.int .i64 nn) := (cell_of_heap hx).trans rfl
                  have hli := heap_lt hx
                  clear hx
                  go_wp2_with (at_builtin; go_loud (refine wpList_num w7 ((k : Int) + 1) rfl _ _ rfl w6.heap.size (.slice (some ⟨w6.heap.size, 0, none⟩) 0 0) [] LL HLE.out.symm rfl HE7.out.own w7.heap.size rfl rfl (Nat.zero_le _) HE7.out.bel.size ?_))
                  intro V' w8 r1 r2
                  have Hw8 : Hid (NR w6.heap.size w6 w8 V' LL) := Lib.hid (HE7.out.push HE7.out.bel.size r1 r2)
                  obtain ⟨ao8, ac8, rfl⟩ := own_slice r1
                  clear r1 r2
                  clear i0 i1 hli
                  have hx := HI0.out w8 Hw8.out.bel
                  have i0 : w8.cell? ⟨qi, 0, none⟩ = some (.int .i64 op) := (cell_of_heap hx).trans rfl
                  have i1 : w8.cell? ⟨qi, 1, none⟩ = some (.int .i64 nn) := (cell_of_heap hx).trans rfl
                  have hli := heap_lt hx
                  clear hx
                  go_upto_region 25 with fail
                  have HS9 : Hid (NR W1.heap.size W1 w8 (.slice (some ⟨bh, oh, none⟩) nc ac) hs) := Lib.hid (H7.out.1.next H7.out.1.bel.size Hw8.out.bel)
                  have HLN : Hid (nx.length = LL.length) := Lib.hid (by have := congrArg List.length HLL.out; simp only [ck.L4, List.length_map] at this; rw [this])
                  have hLL2 : LL.length ≤ 2 := by rw [HLE.out]; simp
                  have HB9 : Hid (NsIn w8 (fun _ => True) (.slice ao8 LL.length ac8) (ck.L4 nx)) := Lib.hid (by rw [HLL.out]; exact Hw8.out.in_)
                  clear i0 i1 hli
                  go_loopg [7, 9, 17] LL.length (fun gg s7 s9 s17 wx => ∃ (hs2 : List Int) (ao2 : Option Addr) (ac2 : Nat) (ch2 : Bool) (j : Nat), s7 = .slice ao2 nc ac2 ∧ s9 = .bool ch2 ∧ s17 = .int .i64 j ∧ j ≤ LL.length ∧ LL.length - j ≤ gg ∧ (ch2 = true → ck.unr hs2 + 1 ≤ ck.unr hs0) ∧ ck.unr hs2 ≤ ck.unr hs0 ∧ Hid (NR W1.heap.size W1 wx (.slice ao2 nc ac2) hs2 ∧ ck.RI m f c hs2 ∧ Below w8.heap.size w8 wx ∧ ck.hAt hs2 k = X ∧ (ch2 = false → hs2 = hs ∧ ch = false) ∧ ∀ i, i < j → nx.getD i 0 < nc ∧ ck.hAt hs2 (nx.getD i 0) = sv))
                  case atStart => exact ⟨hs, _, ac, ch, 0, rfl, rfl, rfl, Nat.zero_le _, by omega, hch, hule, Lib.hid ⟨HS9.out, HRC.out.1, Below.refl _ _, HX.out, (fun h => ⟨rfl, h⟩), fun i hi => absurd hi (Nat.not_lt_zero i)⟩⟩
                  case round =>
                    obtain ⟨hs2, ao2, ac2, ch2, j, rfl, rfl, rfl, hj, hgj, hch2, hule2, HA⟩ := hrel
                    by_cases hjt : j < LL.length
                    case neg =>
                      have hji : ¬ (j : Int) < (LL.length : Int) := by omega
                      have HDN : Hid (ch2 = false → ∀ j, j < k + 1 → 0 ≤ ck.hAt hs2 j → ck.Done m f c hs2 j) := Lib.hid (by
                        intro hc i hi h0
                        obtain ⟨g1, g2⟩ := HA.out.2.2.2.2.1 hc
                        have g3 := HBG.out
                        have g4 := HRC.out.2 g2
                        rw [← g1] at g3 g4
                        by_cases e : i = k
                        · subst e
                          refine ⟨by rw [g3], fun t ht => ?_⟩
                          rw [HNX.out] at ht
                          obtain ⟨n, hn, rfl⟩ := List.mem_iff_getElem.1 ht
                          have := HA.out.2.2.2.2.2 n (by have := HLN.out; omega)
                          rw [List.getD_eq_getElem?_getD, List.getElem?_eq_getElem hn, Option.getD_some] at this
                          rw [g3, HNC.out]
                          exact this
                        · exact g4 i (by omega) h0)
                      have HFIN : Hid (NR W1.heap.size W1 wr (.slice ao2 nc ac2) hs2 ∧ ck.RI m f c hs2 ∧ (ch2 = false → ∀ j, j < k + 1 → 0 ≤ ck.hAt hs2 j → ck.Done m f c hs2 j)) := Lib.hid ⟨HA.out.1, HA.out.2.1, HDN.out⟩
                      clear HA HDN
                      go_wp2_with fail
                      go_roundg (nc - (k + 1))
                      case measure => omega
                      case rel => exact ⟨hs2, ao2, ac2, ch2, k + 1, rfl, rfl, by go_num, by omega, Nat.le_refl _, hch2, hule2, HFIN⟩
                    case pos =>
                      have hji : (j : Int) < (LL.length : Int) := by omega
                      have hjn : j < nx.length := by have := HLN.out; omega
                      obtain ⟨tn, htn⟩ : ∃ tn, nx.getD j 0 = tn := ⟨_, rfl⟩
                      have HTN := Lib.hid htn
                      have HMEM : Hid (tn ∈ ck.next (ck.insAt c k) k) := Lib.hid (by
                        rw [HNX.out, ← htn, List.getD_eq_getElem?_getD, List.getElem?_eq_getElem hjn, Option.getD_some]
                        exact List.getElem_mem _)
                      have hjl : j < (ck.L4 nx).length := by simp only [ck.L4, List.length_map]; exact hjn
                      obtain ⟨b9, o9, rfl, hl9, c9⟩ := NsIn.cell (RowIn.below HB9.out HA.out.2.2.1) j hjl
                      rw [ck.L4_at hjl, htn] at c9
                      clear htn hjl hjn
                      have HHS : Hid (hs2.length = nc) := Lib.hid (HA.out.2.1.len.trans HNC.out)
                      have HPUT := Lib.hid (put_any (fun _ => True) (.slice ao2 nc ac2) hs2 tn sv wr HA.out.1.in_ (by rw [HHS.out]; omega))
                      have HBS : Hid (ck.behind m f (ck.insAt c k) (ck.hAt hs2 k) = (sv, true)) := Lib.hid (by rw [HA.out.2.2.2.1, ← HX.out]; exact HBG.out)
                      have HK2 : Hid (0 ≤ ck.hAt hs2 k) := Lib.hid (by rw [HA.out.2.2.2.1]; exact hkx)
                      have HBW : Hid (Below w.heap.size w wr) := Lib.hid (HB1.out.trans (HA.out.1.bel.mono (by rw [HSZ.out]; omega)))
                      by_cases hge : nc ≤ tn
                      · have hgi : (nc : Int) ≤ (tn : Int) := by omega
                        have HRR := Lib.hid (HNONE.out (HA.out.2.1.fail2 HK.out.1 HK2.out HMEM.out (.inl (by rw [HNC.out]; exact hge))))
                        clear HPUT
                        go_wp2_with fail
                        go_ret2
                        exact RefHAns.none_ HBW.out HRR.out
                      have hlti : (tn : Int) < (nc : Int) := by omega
                      have hnge : ¬ (nc : Int) ≤ (tn : Int) := by omega
                      have hth : tn < hs2.length := by rw [HHS.out]; omega
                      have htc : tn < c.length := by rw [HNC.out]; omega
                      have HTC := Lib.hid htc
                      obtain ⟨b2, o2, rfl, hl2, c2⟩ := NsIn.cell HA.out.1.in_ tn hth
                      rw [← ck.hAt_lt hth] at c2
                      obtain ⟨Y, hY⟩ : ∃ Y, ck.hAt hs2 tn = Y := ⟨_, rfl⟩
                      rw [hY] at c2
                      have HY := Lib.hid hY
                      clear hY hth htc
                      by_cases hY0 : Y < 0
                      · have hn0 : ¬ 0 ≤ Y := by omega
                        have hput := HA.out.2.1.put HPT.out.fns HK.out.1 HK2.out (by rw [HBS.out]) HMEM.out HTC.out (by rw [HY.out]; exact hY0)
                        rw [HBS.out] at hput
                        have HP := Lib.hid hput
                        have hun2 := hput.2.1
                        clear hput
                        go_wp2_with fail
                        refine HPUT.out.mono ?_
                        rintro e wp ⟨V', rfl, hown, hbp⟩
                        obtain ⟨ao', ac', rfl⟩ : ∃ ao ac, V' = .slice ao nc ac := by
                          obtain ⟨ao, ac, e⟩ := own_slice hown
                          exact ⟨ao, ac, by rw [e, List.length_set, HHS.out]⟩
                        have HB2 : Hid (NR W1.heap.size W1 wp (.slice ao' nc ac') (hs2.set tn sv) ∧ ck.RI m f c (hs2.set tn sv) ∧ Below w8.heap.size w8 wp ∧ ck.hAt (hs2.set tn sv) k = X ∧ (true = false → hs2.set tn sv = hs ∧ ch = false) ∧ ∀ i, i < j + 1 → nx.getD i 0 < nc ∧ ck.hAt (hs2.set tn sv) (nx.getD i 0) = sv) := Lib.hid (by
                          refine ⟨⟨own_base hown HA.out.1.bel.size, HA.out.1.bel.trans (hbp.mono HA.out.1.bel.size)⟩, HP.out.1, HA.out.2.2.1.trans (hbp.mono HA.out.2.2.1.size), ?_, (fun h => by cases h), fun i hi => ?_⟩
                          · rw [HP.out.2.2, if_neg (fun e => ?_)]
                            · exact HA.out.2.2.2.1
                            · have := HK2.out
                              rw [e, HY.out] at this
                              omega
                          · rw [HP.out.2.2]
                            by_cases e : i = j
                            · subst e
                              rw [HTN.out, if_pos rfl]
                              exact ⟨by have := HTC.out; rw [HNC.out] at this; exact this, rfl⟩
                            · obtain ⟨g1, g2⟩ := HA.out.2.2.2.2.2 i (by omega)
                              refine ⟨g1, ?_⟩
                              split
                              · rfl
                              · exact g2)
                        clear hown hbp HPUT HA HP HMEM HTN HTC HY c2 hl2 c9 hl9
                        go_wp2_with fail
                        go_roundg (LL.length - (j + 1))
                        case measure => omega
                        case rel => exact ⟨hs2.set tn sv, ao', ac', true, j + 1, rfl, rfl, by go_num, by omega, Nat.le_refl _, (fun _ => by omega), by omega, HB2⟩
                      · by_cases hYs : Y = sv
                        · subst hYs
                          have e1 : (Y != Y) = false := by simp
                          have h0Y : 0 ≤ Y := by omega
                          have HB2 : Hid (NR W1.heap.size W1 wr (.slice (some ⟨b2, o2, none⟩) nc ac2) hs2 ∧ ck.RI m f c hs2 ∧ Below w8.heap.size w8 wr ∧ ck.hAt hs2 k = X ∧ (ch2 = false → hs2 = hs ∧ ch = false) ∧ ∀ i, i < j + 1 → nx.getD i 0 < nc ∧ ck.hAt hs2 (nx.getD i 0) = Y) := Lib.hid (by
                            refine ⟨HA.out.1, HA.out.2.1, HA.out.2.2.1, HA.out.2.2.2.1, HA.out.2.2.2.2.1, fun i hi => ?_⟩
                            by_cases e : i = j
                            · subst e
                              rw [HTN.out]
                              exact ⟨by have := HTC.out; rw [HNC.out] at this; exact this, HY.out⟩
                            · exact HA.out.2.2.2.2.2 i (by omega))
                          clear HPUT HA HMEM HTN HTC HY HBS HBG
                          go_wp2_with fail
                          go_roundg (LL.length - (j + 1))
                          case measure => omega
                          case rel => exact ⟨hs2, _, ac2, ch2, j + 1, rfl, rfl, by go_num, by omega, Nat.le_refl _, hch2, hule2, HB2⟩
                        · have e1 : (Y != sv) = true := by simpa using hYs
                          have h0Y : 0 ≤ Y := by omega
                          have HRR := Lib.hid (HNONE.out (HA.out.2.1.fail2 HK.out.1 HK2.out HMEM.out (.inr ⟨HTC.out, by rw [HY.out]; exact h0Y, by rw [HY.out, HBS.out]; exact hYs⟩)))
                          clear HPUT
                          go_wp2_with fail
                          go_ret2
                          exact RefHAns.none_ HBW.out HRR.out
end Go.Proofs.YtoknolljfeaapaaDoor
