/- The document's examples of layer 2 hold: alive returns true, at every input and in every memory. -/
import Derived.Test.YtpmggljdcbbdfaaCoverA
import Derived.Test.YtpmggljdcbbdfaaWalks4
namespace Go.Proofs.Ytpmggljdcbbdfaa
open Go.RowKit rm
attribute [local go_sem ↓] Go.wp_at_zero Go.wp_at_succ

set_option maxHeartbeats 400000 in
theorem at_any (x y ww h : Int) (w : World) :
    Calls Try.prog 37 #[.int .i64 x, .int .i64 y, .int .i64 ww, .int .i64 h] w fun e w' => e = .returned (.agg #[.int .i64 x, .int .i64 y, .int .i64 ww, .int .i64 h]) ∧ Below w.heap.size w w' := by
  go_enter Try.func37, Try.ntmps37
  go_wp2
  simp [bodyPost, results, Try.results37, go_sem]
  exact (Below.refl _ _).alloc (Nat.le_refl _) _

theorem four {a b c d a' b' c' d' : Int} (h : (⟨a, b, c, d⟩ : RR) = ⟨a', b', c', d'⟩) : a = a' ∧ b = b' ∧ c = c' ∧ d = d' := by cases h; exact ⟨rfl, rfl, rfl, rfl⟩
theorem meet_al (w : World) : Calls Try.prog 32 #[(.agg #[.int .i64 0, .int .i64 0, .int .i64 5, .int .i64 5]), (.agg #[.int .i64 3, .int .i64 3, .int .i64 5, .int .i64 5])] w fun e w' => e = .returned (.agg #[.int .i64 3, .int .i64 3, .int .i64 2, .int .i64 2]) ∧ Below w.heap.size w w' :=
  (meet_any 0 0 5 5 3 3 5 5 w).mono fun e w' ⟨a, b, c, d, he, hi, hb⟩ => by
    obtain ⟨rfl, rfl, rfl, rfl⟩ := four (Eq.trans hi (show meet (clean ⟨0, 0, 5, 5⟩) (clean ⟨3, 3, 5, 5⟩) = ⟨3, 3, 2, 2⟩ by decide))
    exact ⟨he, hb⟩
theorem into_al (w : World) : Calls Try.prog 35 #[(.agg #[.int .i64 8, .int .i64 8, .int .i64 4, .int .i64 4]), (.agg #[.int .i64 0, .int .i64 0, .int .i64 10, .int .i64 10])] w fun e w' => e = .returned (.agg #[.int .i64 6, .int .i64 6, .int .i64 4, .int .i64 4]) ∧ Below w.heap.size w w' :=
  (into_any 8 8 4 4 0 0 10 10 w).mono fun e w' ⟨a, b, c, d, he, hi, hb⟩ => by
    obtain ⟨rfl, rfl, rfl, rfl⟩ := four (Eq.trans hi (show into (clean ⟨8, 8, 4, 4⟩) (clean ⟨0, 0, 10, 10⟩) = ⟨6, 6, 4, 4⟩ by decide))
    exact ⟨he, hb⟩
theorem cut_al (b : Nat) (w : World) (h0 : w.cell? ⟨b, 0, none⟩ = some (.int .i64 4)) (h1 : w.cell? ⟨b, 1, none⟩ = some (.int .i64 9)) (h2 : w.cell? ⟨b, 2, none⟩ = some (.int .i64 2)) (hb : b < w.heap.size) :
    Calls Try.prog 27 #[(.agg #[.int .i64 0, .int .i64 0, .int .i64 10, .int .i64 3]), .slice (some ⟨b, 0, none⟩) 3 3, .bool false] w fun e w' => ∃ g cap, e = .returned (.slice (some ⟨g, 0, none⟩) 3 cap) ∧ RowL w' g [⟨0, 0, 4, 3⟩, ⟨4, 0, 6, 3⟩, ⟨0, 0, 0, 0⟩] ∧ g < w'.heap.size ∧ Below w.heap.size w w' :=
  (cut_some 0 0 10 3 b 0 3 3 [4, 9, 2] false w (fun k hk => by
    match k, hk with
    | 0, _ => simpa using h0
    | 1, _ => simpa using h1
    | 2, _ => simpa using h2) hb rfl (Nat.le_refl _)).mono fun e w' ⟨v, he, ho, hbl⟩ => by
    have e1 : cutL false (clean ⟨0, 0, 10, 3⟩) ([4, 9, 2].take 16) = [⟨0, 0, 4, 3⟩, ⟨4, 0, 6, 3⟩, ⟨0, 0, 0, 0⟩] := by decide
    rw [e1] at ho
    obtain ⟨g, cap, rfl, _, hlt⟩ := ho.form (by decide)
    exact ⟨g, cap, he, row_of_own (L := [⟨0, 0, 4, 3⟩, ⟨4, 0, 6, 3⟩, ⟨0, 0, 0, 0⟩]) ho, hlt, hbl⟩
theorem minus_al (w : World) : Calls Try.prog 31 #[(.agg #[.int .i64 0, .int .i64 0, .int .i64 3, .int .i64 3]), (.agg #[.int .i64 1, .int .i64 1, .int .i64 1, .int .i64 1])] w fun e w' => ∃ g cap r1 r2 r4, e = .returned (.slice (some ⟨g, 0, none⟩) 4 cap) ∧ RowL w' g [r1, r2, ⟨2, 1, 1, 1⟩, r4] ∧ g < w'.heap.size ∧ Below w.heap.size w w' :=
  (minus_any 0 0 3 3 1 1 1 1 w).mono fun e w' ⟨g, cap, he, hr, _, hlt, hbl⟩ => by
    have e1 : minus ⟨0, 0, 3, 3⟩ ⟨1, 1, 1, 1⟩ = [⟨0, 0, 3, 1⟩, ⟨0, 1, 1, 1⟩, ⟨2, 1, 1, 1⟩, ⟨0, 2, 3, 1⟩] := by decide
    rw [e1] at he hr
    exact ⟨g, cap, _, _, _, he, hr, hlt, hbl⟩
theorem sum_al (w : World) : Calls Try.prog 14 #[.int .i64 9223372036854775807, .int .i64 1] w fun e w' => e = .returned (.int .i64 9223372036854775807) ∧ w = w' :=
  (sum_any 9223372036854775807 1 (by omega) (by omega) w).mono fun e w' ⟨he, hw⟩ => ⟨by rw [he]; exact ret_int (by decide), hw⟩
theorem sorted2 (a b : RR) (L : List RR) (hp : L.Perm [a, b]) (hs : L.Pairwise (fun a b => a.x ≤ b.x)) (h : a.x < b.x) : L = [a, b] := by
  match L, hp.length_eq with
  | [c, d], _ =>
    have hc := hp.mem_iff.1 (show c ∈ [c, d] by simp)
    have hd := hp.mem_iff.1 (show d ∈ [c, d] by simp)
    have ha := hp.mem_iff.2 (show a ∈ [a, b] by simp)
    have hb := hp.mem_iff.2 (show b ∈ [a, b] by simp)
    have hcd : c.x ≤ d.x := by simpa using hs
    simp at hc hd ha hb
    rcases hc with rfl | rfl
    · rcases hb with hb | rfl
      · subst hb; omega
      · rfl
    · rcases ha with ha | rfl
      · subst ha; omega
      · omega
theorem sorted_edges : (edges [⟨0, 0, 2, 2⟩, ⟨1, 1, 2, 2⟩]).mergeSort (fun x y => decide (x ≤ y)) = [0, 1, 2, 3] := by
  simp [edges, List.mergeSort, List.MergeSort.Internal.splitInTwo]
theorem cover_al (b : Nat) (w : World) (hr : RowC w b 0 [⟨0, 0, 2, 2⟩, ⟨1, 1, 2, 2⟩]) (hb : b < w.heap.size) : Calls Try.prog 29 #[.slice (some ⟨b, 0, none⟩) 2 2] w fun e w' => e = .returned (.int .i64 7) ∧ Below w.heap.size w w' :=
  (cover_some b 0 2 2 [⟨0, 0, 2, 2⟩, ⟨1, 1, 2, 2⟩] w hr hb rfl (by decide) (Nat.le_refl _) (by decide)).mono fun e w' ⟨L', hp, hs, he, hbl⟩ => by
    have e1 : (([⟨0, 0, 2, 2⟩, ⟨1, 1, 2, 2⟩] : List RR).take 24).map clean = [⟨0, 0, 2, 2⟩, ⟨1, 1, 2, 2⟩] := by decide
    rw [e1] at hp he
    have e2 := sorted2 _ _ _ hp hs (by decide)
    rw [sorted_edges, e2] at he
    exact ⟨by rw [he]; exact ret_int (by decide), hbl⟩

theorem eq4_self (a b c d : Int) : eq4 a b c d a b c d = true := by simp [eq4]
theorem alloc_two (w : World) (o : Obj) : (w.alloc o).heap.size = w.heap.size + 1 := by simp

theorem aliveS {w w1 w2 : World} {gc gm : Nat} (hb : Below w1.heap.size w1 w2) (hS : Below w.heap.size w w1 ∧ gc < w1.heap.size ∧ gm < w1.heap.size ∧ w1.cell? ⟨gc, 4, none⟩ = some (.int .i64 4) ∧ w1.cell? ⟨gc, 5, none⟩ = some (.int .i64 0) ∧ w1.cell? ⟨gc, 6, none⟩ = some (.int .i64 6) ∧ w1.cell? ⟨gc, 7, none⟩ = some (.int .i64 3) ∧ w1.cell? ⟨gc, 8, none⟩ = some (.int .i64 0) ∧ w1.cell? ⟨gc, 9, none⟩ = some (.int .i64 0) ∧ w1.cell? ⟨gc, 10, none⟩ = some (.int .i64 0) ∧ w1.cell? ⟨gc, 11, none⟩ = some (.int .i64 0) ∧ w1.cell? ⟨gm, 8, none⟩ = some (.int .i64 2) ∧ w1.cell? ⟨gm, 9, none⟩ = some (.int .i64 1) ∧ w1.cell? ⟨gm, 10, none⟩ = some (.int .i64 1) ∧ w1.cell? ⟨gm, 11, none⟩ = some (.int .i64 1)) : Below w.heap.size w w2 ∧ gc < w2.heap.size ∧ gm < w2.heap.size ∧ w2.cell? ⟨gc, 4, none⟩ = some (.int .i64 4) ∧ w2.cell? ⟨gc, 5, none⟩ = some (.int .i64 0) ∧ w2.cell? ⟨gc, 6, none⟩ = some (.int .i64 6) ∧ w2.cell? ⟨gc, 7, none⟩ = some (.int .i64 3) ∧ w2.cell? ⟨gc, 8, none⟩ = some (.int .i64 0) ∧ w2.cell? ⟨gc, 9, none⟩ = some (.int .i64 0) ∧ w2.cell? ⟨gc, 10, none⟩ = some (.int .i64 0) ∧ w2.cell? ⟨gc, 11, none⟩ = some (.int .i64 0) ∧ w2.cell? ⟨gm, 8, none⟩ = some (.int .i64 2) ∧ w2.cell? ⟨gm, 9, none⟩ = some (.int .i64 1) ∧ w2.cell? ⟨gm, 10, none⟩ = some (.int .i64 1) ∧ w2.cell? ⟨gm, 11, none⟩ = some (.int .i64 1) := by
  obtain ⟨h1, h2, h3, a1, a2, a3, a4, a5, a6, a7, a8, a9, b1, b2, b3⟩ := hS
  have hc : ∀ i, w2.cell? ⟨gc, i, none⟩ = w1.cell? ⟨gc, i, none⟩ := fun i => hb.cell (p := ⟨gc, i, none⟩) h2
  have hm : ∀ i, w2.cell? ⟨gm, i, none⟩ = w1.cell? ⟨gm, i, none⟩ := fun i => hb.cell (p := ⟨gm, i, none⟩) h3
  exact ⟨h1.trans (hb.mono h1.size), Nat.lt_of_lt_of_le h2 hb.size, Nat.lt_of_lt_of_le h3 hb.size, (hc 4).trans a1, (hc 5).trans a2, (hc 6).trans a3, (hc 7).trans a4, (hc 8).trans a5, (hc 9).trans a6, (hc 10).trans a7, (hc 11).trans a8, (hm 8).trans a9, (hm 9).trans b1, (hm 10).trans b2, (hm 11).trans b3⟩
theorem cover_al2 (W : World) : Calls Try.prog 29 #[.slice (some ⟨W.heap.size, 0, none⟩) 2 2] (W.alloc (.cells #[.int .i64 0, .int .i64 0, .int .i64 2, .int .i64 2, .int .i64 1, .int .i64 1, .int .i64 2, .int .i64 2] 23)) fun e w' => e = .returned (.int .i64 7) ∧ Below (W.alloc (.cells #[.int .i64 0, .int .i64 0, .int .i64 2, .int .i64 2, .int .i64 1, .int .i64 1, .int .i64 2, .int .i64 2] 23)).heap.size (W.alloc (.cells #[.int .i64 0, .int .i64 0, .int .i64 2, .int .i64 2, .int .i64 1, .int .i64 1, .int .i64 2, .int .i64 2] 23)) w' :=
  cover_al _ _ (fun t r ht => by
    match t, ht with
    | 0, ht => simp at ht; subst ht; simp
    | 1, ht => simp at ht; subst ht; simp
    | t + 2, ht => simp at ht) (by simp)

set_option maxRecDepth 100000 in
set_option maxHeartbeats 4000000 in
theorem alive_any (w : World) : Calls Try.prog 12 #[] w fun e w' => e = .returned (.bool true) ∧ Below w.heap.size w w' := by
  have g1 := eqg23
  have g2 := run_eq_rr
  have g3 := eq4_self
  go_enter Try.func12, Try.ntmps12
  go_wp2_with fail
  refine (at_any _ _ _ _ _).mono ?_
  rintro e w1 ⟨rfl, hb1⟩
  go_wp2_with fail
  refine (cut_al w1.heap.size _ (by simp) (by simp) (by simp) (by simp)).mono ?_
  rintro e w2 ⟨gc, cc, rfl, hrc, hgc, hb2⟩
  have hB2 := (hb1.alloc hb1.size (.cells #[.int .i64 4, .int .i64 9, .int .i64 2] 3)).trans (hb2.mono (by rw [alloc_two]; have := hb1.size; omega))
  clear hb1 hb2
  go_wp2_with fail
  refine (at_any _ _ _ _ _).mono ?_
  rintro e w3 ⟨rfl, hb3⟩
  go_wp2_with fail
  refine (at_any _ _ _ _ _).mono ?_
  rintro e w4 ⟨rfl, hb4⟩
  go_wp2_with fail
  refine (minus_al _).mono ?_
  rintro e w5 ⟨gm, cm, r1, r2, r4, rfl, hrm, hgm, hb5⟩
  have hs3 := hb3.size; have hs4 := hb4.size; have hs5 := hb5.size
  have hrc5 := ((hrc.below hb3 hgc).below hb4 (by omega)).below hb5 (by omega)
  have hB5 := ((hB2.trans (hb3.mono hB2.size)).trans (hb4.mono (Nat.le_trans hB2.size hs3))).trans (hb5.mono (Nat.le_trans hB2.size (Nat.le_trans hs3 hs4)))
  have hgc5 : gc < w5.heap.size := by omega
  clear hb3 hb4 hb5 hs3 hs4 hs5 hrc hB2
  have HRC := Lib.hid hrc5; have HRM := Lib.hid hrm
  clear hrc5 hrm
  obtain ⟨k0, k1, k2, k3, _, _, _, _⟩ := HRC.out 1 _ rfl
  obtain ⟨l0, l1, l2, l3, _, _, _, _⟩ := HRC.out 2 _ rfl
  obtain ⟨m0, m1, m2, m3, _, _, _, _⟩ := HRM.out 2 _ rfl
  simp only [Nat.reduceMul, Nat.reduceAdd] at k0 k1 k2 k3 l0 l1 l2 l3 m0 m1 m2 m3
  have s0 := aliveS (w1 := w5) (w2 := w5.drew) (gc := gc) (gm := gm) (w := w) (Below.refl _ _).drew ⟨hB5, hgc5, hgm, k0, k1, k2, k3, l0, l1, l2, l3, m0, m1, m2, m3⟩
  clear k0 k1 k2 k3 l0 l1 l2 l3 m0 m1 m2 m3 hB5 hgc hgm hgc5
  obtain ⟨s1, s2, s3, k0, k1, k2, k3, l0, l1, l2, l3, m0, m1, m2, m3⟩ := (id s0 : _ ∧ _)
  go_wp2_with fail
  go_region_held3 (fun w' => Below w.heap.size w w' ∧ gc < w'.heap.size ∧ gm < w'.heap.size ∧ w'.cell? ⟨gc, 4, none⟩ = some (.int .i64 4) ∧ w'.cell? ⟨gc, 5, none⟩ = some (.int .i64 0) ∧ w'.cell? ⟨gc, 6, none⟩ = some (.int .i64 6) ∧ w'.cell? ⟨gc, 7, none⟩ = some (.int .i64 3) ∧ w'.cell? ⟨gc, 8, none⟩ = some (.int .i64 0) ∧ w'.cell? ⟨gc, 9, none⟩ = some (.int .i64 0) ∧ w'.cell? ⟨gc, 10, none⟩ = some (.int .i64 0) ∧ w'.cell? ⟨gc, 11, none⟩ = some (.int .i64 0) ∧ w'.cell? ⟨gm, 8, none⟩ = some (.int .i64 2) ∧ w'.cell? ⟨gm, 9, none⟩ = some (.int .i64 1) ∧ w'.cell? ⟨gm, 10, none⟩ = some (.int .i64 1) ∧ w'.cell? ⟨gm, 11, none⟩ = some (.int .i64 1)) (first | exact s0 | assumption | exact aliveS (by assumption) (by assumption) | exact aliveS ((Below.refl _ _).alloc (Nat.le_refl _) _) (by assumption))
    (first
      | (go_at_call 37; refine (at_any _ _ _ _ _).mono ?_; rintro e wn ⟨rfl, hbn⟩)
      | (go_at_call 32; refine (meet_al _).mono ?_; rintro e wn ⟨rfl, hbn⟩)
      | (go_at_call 35; refine (into_al _).mono ?_; rintro e wn ⟨rfl, hbn⟩)
      | (go_at_call 14; refine (sum_al _).mono ?_; rintro e wn ⟨rfl, rfl⟩)
      | (go_at_call 29; refine (cover_al2 _).mono ?_; rintro e wn ⟨rfl, hbn⟩))
  go_wp2
  go_ret
  have hS : Below w.heap.size w wn ∧ gc < wn.heap.size ∧ gm < wn.heap.size ∧ wn.cell? ⟨gc, 4, none⟩ = some (.int .i64 4) ∧ wn.cell? ⟨gc, 5, none⟩ = some (.int .i64 0) ∧ wn.cell? ⟨gc, 6, none⟩ = some (.int .i64 6) ∧ wn.cell? ⟨gc, 7, none⟩ = some (.int .i64 3) ∧ wn.cell? ⟨gc, 8, none⟩ = some (.int .i64 0) ∧ wn.cell? ⟨gc, 9, none⟩ = some (.int .i64 0) ∧ wn.cell? ⟨gc, 10, none⟩ = some (.int .i64 0) ∧ wn.cell? ⟨gc, 11, none⟩ = some (.int .i64 0) ∧ wn.cell? ⟨gm, 8, none⟩ = some (.int .i64 2) ∧ wn.cell? ⟨gm, 9, none⟩ = some (.int .i64 1) ∧ wn.cell? ⟨gm, 10, none⟩ = some (.int .i64 1) ∧ wn.cell? ⟨gm, 11, none⟩ = some (.int .i64 1) := by assumption
  exact ⟨rfl, hS.1⟩
end Go.Proofs.Ytpmggljdcbbdfaa
