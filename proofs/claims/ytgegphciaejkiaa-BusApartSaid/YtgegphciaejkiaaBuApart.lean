/- BusApart. -/
import Derived.Test.YtgegphciaejkiaaBuLift2
import Derived.Laws.StructEq
namespace Go.Proofs.Ytgegphciaejkiaa
open Go.RowKit
theorem ops_len : ∀ l : List bu.Op, (l.flatMap opC).length = l.length * 8
  | [] => rfl
  | x :: l => by rw [List.flatMap_cons, List.length_append, ops_len l, List.length_cons]; simp [opC]; omega
theorem ops_at : ∀ (l : List bu.Op) (i k : Nat) (h : i < l.length) (v : Value), (opC l[i])[k]? = some v → (l.flatMap opC)[i * 8 + k]? = some v
  | x :: l, 0, k, h, v, hv => by
    rw [List.flatMap_cons, Nat.zero_mul, Nat.zero_add, List.getElem?_append_left (show k < (opC x).length from (List.getElem?_eq_some_iff.1 hv).1)]
    exact hv
  | x :: l, i + 1, k, h, v, hv => by
    have hl : (opC x).length = 8 := rfl
    rw [List.flatMap_cons, List.getElem?_append_right (by rw [hl]; omega), hl, show (i + 1) * 8 + k - 8 = i * 8 + k by omega]
    exact ops_at l i k (by simpa using h) v hv
theorem OpIn.cell {w : World} {D : Nat → Prop} {o : Option Addr} {m cap : Nat} {l : List bu.Op} (h : OpIn w D (.slice o m cap) l) (i : Nat) (hi : i < l.length) : ∃ b off, o = some ⟨b, off, none⟩ ∧ b < w.heap.size ∧ ∀ k v, (opC l[i])[k]? = some v → w.cell? ⟨b, off + i * 8 + k, none⟩ = some v := by
  obtain ⟨b, off, e, -, hb, hc⟩ := RowIn.at_ h i hi
  exact ⟨b, off, e, hb, fun k v hv => by rw [Nat.add_assoc]; exact hc _ _ (ops_at l i k hi v hv)⟩
theorem B2.new (w : World) : B2 w.heap.size w w.heap.size (w.heap.size + 1) [] bu.S0 bu.S0 0 ((w.alloc busO).alloc busO) := by
  have b1 := below_one w busO
  have b2 := below_one (w.alloc busO) busO
  have h1 := (bus_new w).below b2
  have h2 := bus_new (w.alloc busO)
  rw [World.size_alloc] at h2
  have no : ∀ q y, Own q (fun _ => Value.slice none 0 0) y → y = q := fun q y hy => by
    rcases hy with e | ⟨i, -, e⟩
    · exact e
    · cases e
  refine ⟨⟨_, _, h1, h2, fun y a b => ?_, fun _ h => by cases h⟩, Nat.le_refl _, Nat.le_succ _, b1.trans (b2.mono b1.size), bu.Good.zero (by omega), bu.Good.zero (by omega), Int.le_refl _⟩
  have := no _ _ a
  have := no _ _ b
  omega
/-- does at the second bus, whose own bound is n -/
theorem does_two {B : Nat} {w0 w : World} {q1 q2 : Nat} {K : List (Nat × Obj)} {S1 S2 : Nat → bu.Slot} {m : Int} (g : B2 B w0 q1 q2 K S1 S2 m w) {n : Int} (hn : 0 ≤ n) (hg : bu.Good S1 n) (hm : n < 9223372036854775807) (hnm : n + 1 ≤ m) {w1 : World} (hb : Below w.heap.size w w1) (VM : Value) (hv : RowIn w1 (fun k => w.heap.size ≤ k) VM 4 4 (rsC fun _ => RSl.zero)) (x : bu.Op) (hk : x.kind ≠ 4) : Calls Try.prog 10 #[.pointer (some ⟨q1, 0, none⟩), .agg #[VM], opV x] w1 fun e w' => (∃ v b, e = .returned (.tuple #[v, .bool b])) ∧ B2 B w0 q1 q2 K (bu.doesS S1 x) S2 m w' := by
  obtain ⟨V1, V2, h1, h2, hd, hx⟩ := g.at_
  have g1 := g.below hb
  exact (does_any q1 S1 V1 VM x w1 (h1.below hb) (RowIn.wide hv fun k hk _ z => by have := (h1.own_lt z).2; omega) hk (fun i hi => (hg i hi).1) (fun i hi => ⟨(hg i hi).2.1, by have := (hg i hi).2.2; omega⟩)).mono fun e w' ⟨a, r⟩ => ⟨a, g1.one (h1.below hb) (h2.below hb) hd (fun x h => ⟨(hb.block _ (heap_lt (hx x h).1)).trans (hx x h).1, (hx x h).2⟩) r ((hg.does hn x).more hnm) (Int.le_refl _)⟩
section tells
variable {B : Nat} {w0 w : World} {q1 q2 : Nat} {K : List (Nat × Obj)} {S1 S2 : Nat → bu.Slot} {m : Int}
theorem len_1 (g : B2 B w0 q1 q2 K S1 S2 m w) (p : Int) (n : Int) (hn : ((bu.lenA S1 p : Nat) : Int) = n) : Calls Try.prog 12 #[.pointer (some ⟨q1, 0, none⟩), .int .i64 p] w fun e w' => e = .returned (.int .i64 n) ∧ w' = w := by
  subst hn
  obtain ⟨V1, V2, h1, -⟩ := g.at_
  exact lenP_any q1 S1 V1 p w h1
theorem drop_1 (g : B2 B w0 q1 q2 K S1 S2 m w) (p : Int) (n : Int) (hn : bu.dropA S1 p = n) : Calls Try.prog 13 #[.pointer (some ⟨q1, 0, none⟩), .int .i64 p] w fun e w' => e = .returned (.int .i64 n) ∧ w' = w := by
  subst hn
  obtain ⟨V1, V2, h1, -⟩ := g.at_
  exact dropP_any q1 S1 V1 p w h1
theorem kinds_1 (g : B2 B w0 q1 q2 K S1 S2 m w) (p : Int) (l : List Int) (hl : bu.kindsA S1 p = l) : Calls Try.prog 15 #[.pointer (some ⟨q1, 0, none⟩), .int .i64 p] w fun e w' => IntsAns w w' e l := by
  subst hl
  obtain ⟨V1, V2, h1, -⟩ := g.at_
  exact kindsP_any q1 S1 V1 p w h1
theorem take_1 (g : B2 B w0 q1 q2 K S1 S2 m w) (p : Int) (ev : bu.Ev) (S' : Nat → bu.Slot) (hR : bu.takeR S1 p = (some ev, S')) : Calls Try.prog 20 #[.pointer (some ⟨q1, 0, none⟩), .int .i64 p] w fun e w' => e = .returned (.tuple #[.agg #[.int .i64 ev.kind, .int .i64 ev.a, .int .i64 ev.b, .string ev.text], .bool true]) ∧ B2 B w0 q1 q2 K S' S2 m w' := by
  refine (b2_one (P := fun e => e = .returned (.tuple #[evV ((bu.takeR S1 p).1.getD bu.evZ), .bool (bu.takeR S1 p).1.isSome])) g (g.good1.take p) (Int.le_refl _) fun V hV => (takeP_any q1 S1 V p w hV fun i hi => (g.good1 i hi).1).mono fun e w' ⟨a, r⟩ => ⟨a, r.toR⟩).mono ?_
  rw [hR]
  exact fun e w' h => h
theorem hSEv : Try.prog.underlying 31 = some (.struct (Try.prog.fieldsOf 31)) := by kernel_rfl
theorem hpEv : Try.prog.stoodInHeld 31 = false := by kernel_rfl
theorem eqgEv : Try.prog.eqGuardType Try.prog.depth 31 = false := by kernel_rfl
theorem event_neq (a b c : Int) (t : ByteArray) (w : World) : (binOp .neq 31 (.agg #[.int .i64 a, .int .i64 b, .int .i64 c, .string t]) (.agg #[.int .i64 a, .int .i64 b, .int .i64 c, .string t])).run Try.prog w = .ok (.bool false) w := by
  have u3 := Try.underlying3
  have a3 := Try.isAgg3
  have z3 := Try.sizeOf3
  have u4 := Try.underlying2
  have a4 := Try.isAgg2
  have z4 := Try.sizeOf2
  have u5 := Try.underlying9
  have a5 := Try.isAgg9
  have z5 := Try.sizeOf9
  rw [run_neq_struct, show (10000 : Nat) = 9999 + 1 from rfl, run_equalIn_agg w 9999 31 _ _ hSEv hpEv]
  simp only [Program.fieldsOf, Try.underlying31]
  go_simp
end tells
set_option maxRecDepth 100000 in
set_option maxHeartbeats 3200000 in
theorem busApart_any (V : Value) (l : List bu.Op) (w : World) (hO : OpIn w (fun b => b < w.heap.size) V l) : Calls Try.prog 5 #[V] w fun e w' => e = .returned (.bool true) ∧ Below w.heap.size w w' := by
  obtain ⟨oK, cK, rfl, hk1, hk2, -, -⟩ := id hO
  have HN := Lib.hid (newP_any w)
  go_enter Try.func5, Try.ntmps5
  go_wp2_with fail
  refine HN.out.mono ?_
  rintro e x ⟨rfl, rfl⟩
  have HN2 := Lib.hid (newP_any (w.alloc busO))
  go_wp2_with fail
  refine HN2.out.mono ?_
  rintro e x2 ⟨rfl, hx2⟩
  rw [World.size_alloc]
  have G0 : Hid (B2 w.heap.size w w.heap.size (w.heap.size + 1) [] bu.S0 bu.S0 0 x2) := Lib.hid (by rw [hx2]; exact B2.new w)
  have HC := Lib.hid (alive_any x2)
  clear hx2 HN HN2
  go_wp2_with fail
  refine HC.out.mono ?_
  rintro e x3 ⟨rfl, hb⟩
  have G1 := Lib.hid (And.intro (G0.out.below hb) (rfl : bu.S0 0 = bu.S0 0))
  clear hb HC G0
  go_wp2_with fail
  go_loopg [25] l.length (fun gg s25 wr => ∃ (i : Nat) (S1 S2 : Nat → bu.Slot), s25 = .int .i64 i ∧ i ≤ l.length ∧ l.length - i ≤ gg ∧ Hid (B2 w.heap.size w w.heap.size (w.heap.size + 1) [] S1 S2 (i : Int) wr ∧ S1 0 = S2 0))
  case atStart => exact ⟨0, bu.S0, bu.S0, rfl, Nat.zero_le _, Nat.le_refl _, Lib.hid ⟨G1.out.1, rfl⟩⟩
  case round =>
    clear G1
    obtain ⟨i, S1, S2, rfl, hi, hgg, HT⟩ := hrel
    by_cases hi2 : (i : Int) < (l.length : Int)
    · obtain ⟨bK, offK, rfl, hbK, hcK⟩ := OpIn.cell (RowIn.below hO HT.out.1.bel) i (by omega)
      obtain ⟨y, hy⟩ : ∃ y, l[i]'(by omega) = y := ⟨_, rfl⟩
      rw [hy] at hcK
      clear hy
      have d0 := hcK 0 _ rfl
      have d1 := hcK 1 _ rfl
      have d2 := hcK 2 _ rfl
      have d3 := hcK 3 _ rfl
      have d4 := hcK 4 _ rfl
      have d5 := hcK 5 _ rfl
      have d6 := hcK 6 _ rfl
      have d7 := hcK 7 _ rfl
      simp only [Nat.add_zero] at d0
      clear hcK
      have hib : (i : Int) < 9223372036854775807 := by omega
      have hi0 : (0 : Int) ≤ (i : Int) := by omega
      go_upto_region 7 with fail
      have GX := HT.out.1.box (opO y)
      have HS0 := Lib.hid HT.out.2
      obtain ⟨W, hW⟩ : ∃ W, wr.alloc (opO y) = W := ⟨_, rfl⟩
      rw [hW] at GX
      change Code.wp _ _ _ _ (wr.alloc (opO y))
      rw [hW]
      clear hW HT d0 d1 d2 d3 d4 d5 d6 d7 hbK
      generalize wr.heap.size = bx at *
      have hbx : W.heap[bx]? = some (opO y) := GX.here
      have x0 : W.cell? ⟨bx, 0, none⟩ = some (.int .i64 y.kind) := (cell_of_heap hbx).trans rfl
      have x4 : W.cell? ⟨bx, 4, none⟩ = some (.int .i64 y.e.kind) := (cell_of_heap hbx).trans rfl
      have x5 : W.cell? ⟨bx, 5, none⟩ = some (.int .i64 y.e.a) := (cell_of_heap hbx).trans rfl
      have x6 : W.cell? ⟨bx, 6, none⟩ = some (.int .i64 y.e.b) := (cell_of_heap hbx).trans rfl
      have x7 : W.cell? ⟨bx, 7, none⟩ = some (.string y.e.text) := (cell_of_heap hbx).trans rfl
      have lx := heap_lt hbx
      have HX := Lib.hid GX
      clear GX hbx
      by_cases hk4 : y.kind = 4
      · have HC := Lib.hid (b2_one (P := fun e => e = .returned (.int .i64 ((bu.pub S1 y.e 4).1 : Nat))) HX.out (HX.out.good1.pub y.e 4) (by omega) (fun V hV => pubP_any _ S1 V y.e W hV (fun i hi => (HX.out.good1 i hi).1) fun i hi => ⟨(HX.out.good1 i hi).2.1, by have := (HX.out.good1 i hi).2.2; omega⟩))
        go_wp2_with fail
        refine HC.out.mono ?_
        rintro e w5 ⟨rfl, g⟩
        have hbx : w5.heap[bx]? = some (opO y) := g.here
        have v4 : w5.cell? ⟨bx, 4, none⟩ = some (.int .i64 y.e.kind) := (cell_of_heap hbx).trans rfl
        have v5 : w5.cell? ⟨bx, 5, none⟩ = some (.int .i64 y.e.a) := (cell_of_heap hbx).trans rfl
        have v6 : w5.cell? ⟨bx, 6, none⟩ = some (.int .i64 y.e.b) := (cell_of_heap hbx).trans rfl
        have v7 : w5.cell? ⟨bx, 7, none⟩ = some (.string y.e.text) := (cell_of_heap hbx).trans rfl
        have lx' := heap_lt hbx
        have HY := Lib.hid g.symm
        have HC2 := Lib.hid (b2_one (P := fun e => e = .returned (.int .i64 ((bu.pub S2 y.e 4).1 : Nat))) HY.out (HX.out.good2.pub y.e 4) (Int.le_refl _) (fun V hV => pubP_any _ S2 V y.e w5 hV (fun i hi => (HX.out.good2 i hi).1) fun i hi => ⟨(HX.out.good2 i hi).2.1, by have := (HX.out.good2 i hi).2.2; omega⟩))
        clear g hbx HC x0 x4 x5 x6 x7 lx HX
        go_wp2_with fail
        refine HC2.out.mono ?_
        rintro e w6 ⟨rfl, g⟩
        have HZ := Lib.hid (And.intro g.symm.drop (bu.pub_same HS0.out y.e))
        clear g HC2 HY v4 v5 v6 v7 lx'
        go_wp2_with fail
        go_roundg (l.length - (i + 1))
        case measure => omega
        case rel => exact ⟨i + 1, _, _, (by first | rfl | (simp; done) | (simp; omega)), by omega, Nat.le_refl _, Lib.hid ⟨by have := HZ.out.1; rwa [show (i : Int) + 1 = ((i + 1 : Nat) : Int) by omega] at this, HZ.out.2⟩⟩
      · have hkb : (y.kind == 4) = false := beq_eq_false_iff_ne.2 hk4
        have HK4 := Lib.hid hk4
        clear hk4
        go_upto_region 10 with fail
        clear x0 x4 x5 x6 x7 lx
        have hSD : W.drew.heap[bx]? = some (opO y) := HX.out.here
        have GD1 := Lib.hid (HX.out.below (below_dN (Below.refl _ _) 1 : Below W.heap.size W W.drew))
        refine wp_region_noPanic ?_
        refine wp_region_held_drew (S := (fun X => X.heap[bx]? = some (opO y))) (by kernel_rfl) ?_ (fun hHeld => ?_)
        · exact hSD
        refine wpAnyH_take (i := 0) (v := ?_) rfl (by kernel_rfl) (by kernel_rfl) (by kernel_rfl) (fun _ _ _ h => h) (Or.inl ⟨by rfl, ?_⟩) (by assumption) ?_
        rotate_left
        · ((intro w hSw); (try dsimp only at hSw); (try simp only [List.getElem_toArray, List.getElem_cons_zero]); (go_simp); (try with_reducible rfl))
        (try simp only [Act.put, List.setIfInBounds_toArray, List.set_cons_zero, List.set_cons_succ, List.getElem_toArray, List.getElem_cons_zero])
        refine wpAnyH_take (i := 2) (v := ?_) rfl (by kernel_rfl) (by kernel_rfl) (by kernel_rfl) (fun _ _ _ h => h) (Or.inl ⟨by rfl, ?_⟩) (by assumption) ?_
        rotate_left
        · ((intro w hSw); (try dsimp only at hSw); (have z0 : w.cell? ⟨bx, 0, none⟩ = some (.int .i64 y.kind) := (cell_of_heap hSw).trans rfl); (have z1 : w.cell? ⟨bx, 1, none⟩ = some (.int .i64 y.p) := (cell_of_heap hSw).trans rfl); (have z2 : w.cell? ⟨bx, 2, none⟩ = some (.int .i64 y.n) := (cell_of_heap hSw).trans rfl); (have z3 : w.cell? ⟨bx, 3, none⟩ = some (.bool y.on) := (cell_of_heap hSw).trans rfl); (have z4 : w.cell? ⟨bx, 4, none⟩ = some (.int .i64 y.e.kind) := (cell_of_heap hSw).trans rfl); (have z5 : w.cell? ⟨bx, 5, none⟩ = some (.int .i64 y.e.a) := (cell_of_heap hSw).trans rfl); (have z6 : w.cell? ⟨bx, 6, none⟩ = some (.int .i64 y.e.b) := (cell_of_heap hSw).trans rfl); (have z7 : w.cell? ⟨bx, 7, none⟩ = some (.string y.e.text) := (cell_of_heap hSw).trans rfl); clear hSw; (try simp only [List.getElem_toArray, List.getElem_cons_succ, List.getElem_cons_zero]); (go_simp); (try with_reducible rfl))
        (try simp only [Act.put, List.setIfInBounds_toArray, List.set_cons_zero, List.set_cons_succ, List.getElem_toArray, List.getElem_cons_succ, List.getElem_cons_zero])
        refine wpAnyH_ready (rs := [1]) (by kernel_rfl) (by simp) ?_
        refine AllReadyH.cons rfl (fun K hK => ?_) AllReadyH.nil
        (try simp only [List.getElem_toArray, List.getElem_cons_succ, List.getElem_cons_zero])
        go_simp
        go_at_call 9
        refine (rnew_any _).mono ?_
        rintro e X1 ⟨VM, rfl, hVM, hbX⟩
        have hSX : X1.heap[bx]? = some (opO y) := (hbX.block _ (heap_lt hSD)).trans hSD
        (try go_wp2_with fail)
        refine hK.out _ _ ?_ (fun hHeld => ?_)
        · ((try dsimp only); exact hSX)
        clear hK K
        (try simp only [Act.put, List.setIfInBounds_toArray, List.set_cons_zero, List.set_cons_succ, List.getElem_toArray, List.getElem_cons_succ, List.getElem_cons_zero])
        refine wpAnyH_ready (rs := [3]) (by kernel_rfl) (by simp) ?_
        refine AllReadyH.cons rfl (fun K hK => ?_) AllReadyH.nil
        (try simp only [List.getElem_toArray, List.getElem_cons_succ, List.getElem_cons_zero])
        go_simp
        go_at_call 10
        refine (does_one GD1.out (by omega) hbX VM hVM y HK4.out).mono ?_
        rintro e Y1 ⟨⟨v, bb, rfl⟩, gY⟩
        have hSY := gY.here
        (try go_wp2_with fail)
        refine hK.out _ _ ?_ (fun hHeld => ?_)
        · ((try dsimp only); exact hSY)
        clear hK K
        (try simp only [Act.put, List.setIfInBounds_toArray, List.set_cons_zero, List.set_cons_succ, List.getElem_toArray, List.getElem_cons_succ, List.getElem_cons_zero])
        refine wpAnyH_done (by kernel_rfl) ?_ _
        refine NoPanic.normal ?_
        have GY := Lib.hid gY
        have y1 : Y1.cell? ⟨bx, 1, none⟩ = some (.int .i64 y.p) := (cell_of_heap hSY).trans rfl
        have ly := heap_lt hSY
        clear hSY gY hSX hSD hHeld hVM hbX GD1
        by_cases hp : y.p = 1
        · have HP := Lib.hid hp
          clear hp
          have hpb : (y.p == 1) = true := beq_iff_eq.2 HP.out
          go_upto_region 12 with fail
          clear y1 ly
          have GS := Lib.hid GY.out.symm
          have hSD : Y1.drew.heap[bx]? = some (opO y) := GS.out.here
          have GD2 := Lib.hid (GS.out.below (below_dN (Below.refl _ _) 1 : Below Y1.heap.size Y1 Y1.drew))
          refine wp_region_noPanic ?_
          refine wp_region_held_drew (S := (fun X => X.heap[bx]? = some (opO y))) (by kernel_rfl) ?_ (fun hHeld => ?_)
          · exact hSD
          refine wpAnyH_take (i := 0) (v := ?_) rfl (by kernel_rfl) (by kernel_rfl) (by kernel_rfl) (fun _ _ _ h => h) (Or.inl ⟨by rfl, ?_⟩) (by assumption) ?_
          rotate_left
          · ((intro w hSw); (try dsimp only at hSw); (try simp only [List.getElem_toArray, List.getElem_cons_zero]); (go_simp); (try with_reducible rfl))
          (try simp only [Act.put, List.setIfInBounds_toArray, List.set_cons_zero, List.set_cons_succ, List.getElem_toArray, List.getElem_cons_zero])
          refine wpAnyH_take (i := 2) (v := ?_) rfl (by kernel_rfl) (by kernel_rfl) (by kernel_rfl) (fun _ _ _ h => h) (Or.inl ⟨by rfl, ?_⟩) (by assumption) ?_
          rotate_left
          · ((intro w hSw); (try dsimp only at hSw); (have z0 : w.cell? ⟨bx, 0, none⟩ = some (.int .i64 y.kind) := (cell_of_heap hSw).trans rfl); (have z1 : w.cell? ⟨bx, 1, none⟩ = some (.int .i64 y.p) := (cell_of_heap hSw).trans rfl); (have z2 : w.cell? ⟨bx, 2, none⟩ = some (.int .i64 y.n) := (cell_of_heap hSw).trans rfl); (have z3 : w.cell? ⟨bx, 3, none⟩ = some (.bool y.on) := (cell_of_heap hSw).trans rfl); (have z4 : w.cell? ⟨bx, 4, none⟩ = some (.int .i64 y.e.kind) := (cell_of_heap hSw).trans rfl); (have z5 : w.cell? ⟨bx, 5, none⟩ = some (.int .i64 y.e.a) := (cell_of_heap hSw).trans rfl); (have z6 : w.cell? ⟨bx, 6, none⟩ = some (.int .i64 y.e.b) := (cell_of_heap hSw).trans rfl); (have z7 : w.cell? ⟨bx, 7, none⟩ = some (.string y.e.text) := (cell_of_heap hSw).trans rfl); clear hSw; (try simp only [List.getElem_toArray, List.getElem_cons_succ, List.getElem_cons_zero]); (go_simp); (try with_reducible rfl))
          (try simp only [Act.put, List.setIfInBounds_toArray, List.set_cons_zero, List.set_cons_succ, List.getElem_toArray, List.getElem_cons_succ, List.getElem_cons_zero])
          refine wpAnyH_ready (rs := [1]) (by kernel_rfl) (by simp) ?_
          refine AllReadyH.cons rfl (fun K hK => ?_) AllReadyH.nil
          (try simp only [List.getElem_toArray, List.getElem_cons_succ, List.getElem_cons_zero])
          go_simp
          go_at_call 9
          refine (rnew_any _).mono ?_
          rintro e X2 ⟨VM, rfl, hVM, hbX⟩
          have hSX : X2.heap[bx]? = some (opO y) := (hbX.block _ (heap_lt hSD)).trans hSD
          (try go_wp2_with fail)
          refine hK.out _ _ ?_ (fun hHeld => ?_)
          · ((try dsimp only); exact hSX)
          clear hK K
          (try simp only [Act.put, List.setIfInBounds_toArray, List.set_cons_zero, List.set_cons_succ, List.getElem_toArray, List.getElem_cons_succ, List.getElem_cons_zero])
          refine wpAnyH_ready (rs := [3]) (by kernel_rfl) (by simp) ?_
          refine AllReadyH.cons rfl (fun K hK => ?_) AllReadyH.nil
          (try simp only [List.getElem_toArray, List.getElem_cons_succ, List.getElem_cons_zero])
          go_simp
          go_at_call 10
          refine (does_two GD2.out hi0 (HX.out.good2) (by omega) (Int.le_refl _) hbX VM hVM y HK4.out).mono ?_
          rintro e Y2 ⟨⟨v, bb, rfl⟩, gY⟩
          have hSY := gY.here
          (try go_wp2_with fail)
          refine hK.out _ _ ?_ (fun hHeld => ?_)
          · ((try dsimp only); exact hSY)
          clear hK K
          (try simp only [Act.put, List.setIfInBounds_toArray, List.set_cons_zero, List.set_cons_succ, List.getElem_toArray, List.getElem_cons_succ, List.getElem_cons_zero])
          refine wpAnyH_done (by kernel_rfl) ?_ _
          refine NoPanic.normal ?_
          have HZ := Lib.hid (And.intro gY.symm.drop (bu.doesS_same HS0.out y HP.out))
          clear hSY gY hSX hSD hHeld hVM hbX GD2 GS GY
          go_wp2_with fail
          go_roundg (l.length - (i + 1))
          case measure => omega
          case rel => exact ⟨i + 1, _, _, (by first | rfl | (simp; done) | (simp; omega)), by omega, Nat.le_refl _, Lib.hid ⟨by have := HZ.out.1; rwa [show (i : Int) + 1 = ((i + 1 : Nat) : Int) by omega] at this, HZ.out.2⟩⟩
        · have hpb : (y.p == 1) = false := beq_eq_false_iff_ne.2 hp
          have HZ := Lib.hid (And.intro GY.out.drop ((bu.doesS_other S1 y hp).trans HS0.out))
          clear hp
          go_wp2_with fail
          go_roundg (l.length - (i + 1))
          case measure => omega
          case rel => exact ⟨i + 1, _, _, (by first | rfl | (simp; done) | (simp; omega)), by omega, Nat.le_refl _, Lib.hid ⟨by have := HZ.out.1; rwa [show (i : Int) + 1 = ((i + 1 : Nat) : Int) by omega] at this, HZ.out.2⟩⟩
    · obtain rfl : i = l.length := by omega
      obtain ⟨m, hm⟩ : ∃ m : Int, ((l.length : Nat) : Int) = m := ⟨_, rfl⟩
      have GT := Lib.hid (show B2 w.heap.size w w.heap.size (w.heap.size + 1) [] S1 S2 m wr ∧ S1 0 = S2 0 from hm ▸ HT.out)
      have HL1 := Lib.hid (len_1 GT.out.1 1 _ rfl)
      have HL2 := Lib.hid (len_1 GT.out.1.symm 1 _ (congrArg (fun n : Nat => (n : Int)) (bu.lenA_same GT.out.2.symm)))
      have HD1 := Lib.hid (drop_1 GT.out.1 1 _ rfl)
      have HD2 := Lib.hid (drop_1 GT.out.1.symm 1 _ (bu.dropA_same GT.out.2.symm))
      have HK1 := Lib.hid (kinds_1 GT.out.1 1 _ rfl)
      clear HT
      generalize ((bu.lenA S1 1 : Nat) : Int) = nL at HL1 HL2
      generalize bu.dropA S1 1 = nD at HD1 HD2
      go_wp2_with fail
      refine HL1.out.mono ?_
      rintro e w' ⟨rfl, hw⟩
      replace hw := hw.symm
      subst hw
      go_wp2_with fail
      refine HL2.out.mono ?_
      rintro e w' ⟨rfl, hw⟩
      replace hw := hw.symm
      subst hw
      go_wp2_with fail
      refine HD1.out.mono ?_
      rintro e w' ⟨rfl, hw⟩
      replace hw := hw.symm
      subst hw
      go_wp2_with fail
      refine HD2.out.mono ?_
      rintro e w' ⟨rfl, hw⟩
      replace hw := hw.symm
      subst hw
      clear HL1 HL2 HD1 HD2
      go_wp2_with fail
      refine HK1.out.mono ?_
      rintro e w5 ⟨V5, rfl, hr5, hb5⟩
      obtain ⟨o5, c5, rfl⟩ := own_slice hr5
      have HR5 := Lib.hid (show NsIn w5 (fun _ => True) (.slice o5 _ c5) (bu.kindsA S1 1) from RowIn.of_own hr5 (by simp [inC]) _ (fun _ _ => trivial))
      have G5 := Lib.hid (And.intro (GT.out.1.below hb5) GT.out.2)
      have HK2 := Lib.hid (kinds_1 G5.out.1.symm 1 _ (bu.kindsA_same G5.out.2.symm))
      clear hr5 hb5 HK1 GT
      generalize bu.kindsA S1 1 = kL at HR5 HK2
      go_wp2_with fail
      refine HK2.out.mono ?_
      rintro e w6 ⟨V6, rfl, hr6, hb6⟩
      obtain ⟨o6, c6, rfl⟩ := own_slice hr6
      have HST := Lib.hid (sameInts_eq _ _ _ _ kL w6 (RowIn.below HR5.out hb6) (show NsIn w6 (fun _ => True) (.slice o6 _ c6) kL from RowIn.of_own hr6 (by simp [inC]) _ (fun _ _ => trivial)))
      have G6 := Lib.hid (And.intro (G5.out.1.below hb6) G5.out.2)
      clear hr6 hb6 HK2 G5 HR5
      go_wp2_with fail
      refine HST.out.mono ?_
      rintro e w7 ⟨rfl, hb7⟩
      have G7 := Lib.hid (And.intro (G6.out.1.below hb7) G6.out.2)
      clear hb7 HST G6
      go_wp2_with fail
      go_loopg [] (bu.lenA S1 1) (fun gg wr => ∃ (S1 S2 : Nat → bu.Slot), bu.lenA S1 1 ≤ gg ∧ Hid (B2 w.heap.size w w.heap.size (w.heap.size + 1) [] S1 S2 m wr ∧ S1 0 = S2 0))
      case atStart => exact ⟨S1, S2, Nat.le_refl _, G7⟩
      case round =>
        clear G7
        obtain ⟨S1, S2, hgg, HT⟩ := hrel
        have HL1 := Lib.hid (len_1 HT.out.1 1 _ rfl)
        rcases bu.takeR_len S1 with ⟨h0, ht⟩ | ⟨ev, S1', ht, hl⟩
        · rw [h0] at HL1
          have GE := Lib.hid HT.out.1.bel
          clear HT ht h0
          go_wp2_with fail
          refine HL1.out.mono ?_
          rintro e w' ⟨rfl, hw⟩
          replace hw := hw.symm
          subst hw
          go_wp2_with fail
          go_ret
          exact ⟨rfl, GE.out⟩
        · obtain ⟨S2', ht2, hs2⟩ : ∃ S2', bu.takeR S2 1 = (some ev, S2') ∧ S1' 0 = S2' 0 := by
            have h1 := bu.takeR_same HT.out.2
            rw [ht] at h1
            exact ⟨(bu.takeR S2 1).2, Prod.ext h1.1.symm rfl, h1.2⟩
          have hpos : (0 : Int) < ((bu.lenA S1 1 : Nat) : Int) := by omega
          have HC1 := Lib.hid (take_1 HT.out.1 1 ev S1' ht)
          have HS := Lib.hid (And.intro hs2 (And.intro ht2 (show bu.lenA S1' 1 < gk by omega)))
          generalize ((bu.lenA S1 1 : Nat) : Int) = nL at HL1 hpos
          clear HT ht ht2 hs2 hl hgg
          go_wp2_with fail
          refine HL1.out.mono ?_
          rintro e w' ⟨rfl, hw⟩
          replace hw := hw.symm
          subst hw
          go_wp2_with fail
          refine HC1.out.mono ?_
          rintro e w8 ⟨rfl, g8⟩
          have G8 := Lib.hid g8
          clear g8 HC1 HL1
          go_upto_region 18 with fail
          have GX := G8.out.box (evO ev)
          obtain ⟨W, hW⟩ : ∃ W, w8.alloc (evO ev) = W := ⟨_, rfl⟩
          rw [hW] at GX
          change Code.wp _ _ _ _ (w8.alloc (evO ev))
          rw [hW]
          generalize w8.heap.size = b1 at *
          have lx := heap_lt GX.here
          have HX := Lib.hid GX
          have HC2 := Lib.hid (take_1 HX.out.symm 1 ev S2' HS.out.2.1)
          clear hW G8 GX
          go_wp2_with fail
          refine HC2.out.mono ?_
          rintro e w9 ⟨rfl, g9⟩
          have GY := g9.box (evO ev)
          have c4 := below_one w9 (evO ev)
          obtain ⟨b2, hb2⟩ : ∃ b2, w9.heap.size = b2 := ⟨_, rfl⟩
          have hbx : (w9.alloc (evO ev)).heap[b1]? = some (evO ev) := (c4.block _ (heap_lt g9.here)).trans g9.here
          rw [hb2] at GY
          have hby : (w9.alloc (evO ev)).heap[b2]? = some (evO ev) := GY.here
          go_upto_region 19 with fail
          obtain ⟨W2, hW2⟩ : ∃ W2, w9.alloc (evO ev) = W2 := ⟨_, rfl⟩
          rw [hW2] at GY hbx hby
          change Code.wp _ _ _ _ (w9.alloc (evO ev))
          rw [hW2]
          have HZ := Lib.hid (GY.drop.symm)
          clear hW2 hb2 GY c4 g9 HC2 HX
          have x0 : W2.cell? ⟨b1, 0, none⟩ = some (.int .i64 ev.kind) := (cell_of_heap hbx).trans rfl
          have x1 : W2.cell? ⟨b1, 1, none⟩ = some (.int .i64 ev.a) := (cell_of_heap hbx).trans rfl
          have x2 : W2.cell? ⟨b1, 2, none⟩ = some (.int .i64 ev.b) := (cell_of_heap hbx).trans rfl
          have x3 : W2.cell? ⟨b1, 3, none⟩ = some (.string ev.text) := (cell_of_heap hbx).trans rfl
          have z0 : W2.cell? ⟨b2, 0, none⟩ = some (.int .i64 ev.kind) := (cell_of_heap hby).trans rfl
          have z1 : W2.cell? ⟨b2, 1, none⟩ = some (.int .i64 ev.a) := (cell_of_heap hby).trans rfl
          have z2 : W2.cell? ⟨b2, 2, none⟩ = some (.int .i64 ev.b) := (cell_of_heap hby).trans rfl
          have z3 : W2.cell? ⟨b2, 3, none⟩ = some (.string ev.text) := (cell_of_heap hby).trans rfl
          have zn := event_neq ev.kind ev.a ev.b ev.text
          have zg := eqgEv
          clear hbx hby lx
          go_wp2_with fail
          go_roundg (bu.lenA S1' 1)
          case measure => exact HS.out.2.2
          case rel => exact ⟨S1', S2', Nat.le_refl _, Lib.hid ⟨HZ.out, HS.out.1⟩⟩
end Go.Proofs.Ytgegphciaejkiaa
