/- What the first loop of package rect's Cover does, and the whole of Cover at one rectangle or more. -/
import Derived.Test.YtpmggljdcbbdfaaSort
import Derived.Deep.AppendLies
namespace Go.Proofs.Ytpmggljdcbbdfaa
open Go.RowKit rm
attribute [local go_sem ↓] Go.wp_at_zero Go.wp_at_succ
attribute [local go_sem ↓ 10000] run_mn run_mx

/-- rectangles in the cells of a slice that came in -/
def RowC (w : World) (b off : Nat) (L : List RR) : Prop := ∀ (t : Nat) r, L[t]? = some r → w.cell? ⟨b, off + t * 4, none⟩ = some (.int .i64 r.x) ∧ w.cell? ⟨b, off + t * 4 + 1, none⟩ = some (.int .i64 r.y) ∧ w.cell? ⟨b, off + t * 4 + 2, none⟩ = some (.int .i64 r.w) ∧ w.cell? ⟨b, off + t * 4 + 3, none⟩ = some (.int .i64 r.h)
theorem RowC.below {w w' : World} {b off : Nat} {L : List RR} (H : RowC w b off L) {B : Nat} (hb : Below B w w') (hB : b < B) : RowC w' b off L := fun t r ht =>
  ⟨(hb.cell (p := ⟨b, off + t * 4, none⟩) hB).trans (H t r ht).1, (hb.cell (p := ⟨b, off + t * 4 + 1, none⟩) hB).trans (H t r ht).2.1, (hb.cell (p := ⟨b, off + t * 4 + 2, none⟩) hB).trans (H t r ht).2.2.1, (hb.cell (p := ⟨b, off + t * 4 + 3, none⟩) hB).trans (H t r ht).2.2.2⟩

def edges (l : List RR) : List Int := l.flatMap fun r => [r.y, r.y + r.h]
theorem edges_length (l : List RR) : (edges l).length = 2 * l.length := by
  induction l with
  | nil => rfl
  | cons r t ih => simp [edges] at *; omega
theorem edges_snoc (l : List RR) (r : RR) : edges (l ++ [r]) = edges l ++ [r.y, r.y + r.h] := by simp [edges]
def vals (l : List Int) : List Value := l.map (Value.int .i64)
theorem infoI : (Try.prog.info? 3).map (fun i => (i.zero, i.size, i.bytes)) = some (some (.int .i64 0), 1, 8) := by kernel_rfl
theorem own_ne {w : World} {b b' : Nat} {e e' : TypeId} {s s' : Nat} {v v' : Value} {n n' : Nat} {xs xs' : List Value} (h : w.ownsRow b e s v n xs) (h' : w.ownsRow b' e' s' v' n' xs') (hne : e ≠ e') (k : Nat) (hk : v.ownBlock = some k) : v'.ownBlock ≠ some k := by
  rcases h.2 with ⟨rfl, _⟩ | ⟨g, cap, cur, rfl, _, hh, _⟩
  · simp [Value.ownBlock] at hk
  · rcases h'.2 with ⟨rfl, _⟩ | ⟨g', cap', cur', rfl, _, hh', _⟩
    · simp [Value.ownBlock]
    · intro e
      simp [Value.ownBlock] at hk e
      subst hk e
      rw [hh] at hh'
      cases hh'
      exact hne rfl

theorem news_two (W : World) (a b : Int) (j : Nat) (u : Value) (h : [Value.int .i64 a, Value.int .i64 b][j]? = some u) : (W.alloc (.cells #[.int .i64 a, .int .i64 b] 3)).cell? ((⟨W.heap.size, 0, none⟩ : Addr).add j) = some u := by
  match j, h with
  | 0, h => simp at h; subst h; simp [Addr.add]
  | 1, h => simp at h; subst h; simp [Addr.add]
  | j + 2, h => simp at h
theorem two_one (a b : Int) (u : Value) (h : u ∈ [Value.int .i64 a, Value.int .i64 b]) : u.oneCell' = true := by
  simp at h; rcases h with rfl | rfl <;> rfl

theorem own_cap {w : World} {base g cap n size : Nat} {e : TypeId} {xs : List Value} (h : w.ownsRow base e size (.slice (some ⟨g, 0, none⟩) n cap) n xs) : n ≤ cap := by
  rcases h.2 with ⟨h', _⟩ | ⟨g', cap', cur, h', _, _, hn, _⟩
  · cases h'
  · cases h'; exact hn
theorem RowL.drew {w : World} {g : Nat} {D : List RR} (H : RowL w g D) : RowL w.drew g D := fun t r ht => ⟨(H t r ht).k0, (H t r ht).k1, (H t r ht).k2, (H t r ht).k3, (H t r ht).f0, (H t r ht).f1, (H t r ht).f2, (H t r ht).f3⟩
theorem wr_big (n : Int) (h : -1000000000000 ≤ n ∧ n ≤ 1000000000000) : IntKind.i64.wrap n = n := by rw [IntKind.wrap_i64]; omega
theorem mul_bd (a c : Int) (h1 : -10200 ≤ a ∧ a ≤ 10200) (h2 : 0 ≤ c ∧ c ≤ 4800) : -48960000 ≤ a * c ∧ a * c ≤ 48960000 := by
  have p1 : 0 ≤ (a + 10200) * c := Int.mul_nonneg (by omega) h2.1
  have p2 : 0 ≤ (10200 - a) * c := Int.mul_nonneg (by omega) h2.1
  rw [Int.add_mul] at p1
  rw [Int.sub_mul] at p2
  omega
theorem edges_bd (C : List RR) (h : ∀ r ∈ C, Bd r) : ∀ z ∈ edges C, -5000 ≤ z ∧ z ≤ 5200 := by
  intro z hz
  unfold edges at hz
  obtain ⟨r, hr, hz⟩ := List.mem_flatMap.1 hz
  have := h r hr
  unfold Bd at this
  simp at hz
  omega
theorem flat_append (a b : List RR) : flat (a ++ b) = flat a ++ flat b := by simp [flat]
theorem edges_append (a b : List RR) : edges (a ++ b) = edges a ++ edges b := by simp [edges]
theorem flat_get : ∀ (L : List RR) (t : Nat) (r : RR), L[t]? = some r → (flat L)[t * 4]? = some (.int .i64 r.x) ∧ (flat L)[t * 4 + 1]? = some (.int .i64 r.y) ∧ (flat L)[t * 4 + 2]? = some (.int .i64 r.w) ∧ (flat L)[t * 4 + 3]? = some (.int .i64 r.h)
  | [], t, r, h => by simp at h
  | q :: L, 0, r, h => by simp at h; subst h; simp [flat, encR]
  | q :: L, t + 1, r, h => by
    have := flat_get L t r (by simpa using h)
    have e : flat (q :: L) = encR q ++ flat L := by simp [flat]
    have l4 : (encR q).length = 4 := rfl
    rw [e]
    simp only [List.getElem?_append_right (show (encR q).length ≤ (t + 1) * 4 by rw [l4]; omega), List.getElem?_append_right (show (encR q).length ≤ (t + 1) * 4 + 1 by rw [l4]; omega), List.getElem?_append_right (show (encR q).length ≤ (t + 1) * 4 + 2 by rw [l4]; omega), List.getElem?_append_right (show (encR q).length ≤ (t + 1) * 4 + 3 by rw [l4]; omega), l4]
    rw [show (t + 1) * 4 - 4 = t * 4 by omega, show (t + 1) * 4 + 1 - 4 = t * 4 + 1 by omega, show (t + 1) * 4 + 2 - 4 = t * 4 + 2 by omega, show (t + 1) * 4 + 3 - 4 = t * 4 + 3 by omega]
    exact this
theorem row_of_own {w : World} {base g cap : Nat} {e : TypeId} {L : List RR} (h : w.ownsRow base e 4 (.slice (some ⟨g, 0, none⟩) L.length cap) L.length (flat L)) : RowL w g L := by
  intro t r ht
  have hlt := (List.getElem?_eq_some_iff.1 ht).1
  obtain ⟨h0, h1, h2, h3⟩ := flat_get L t r ht
  exact ⟨(h.cellAt _ (by omega)).trans h0, (h.cellAt _ (by omega)).trans h1, (h.cellAt _ (by omega)).trans h2, (h.cellAt _ (by omega)).trans h3, h.frozenAt _, h.frozenAt _, h.frozenAt _, h.frozenAt _⟩
theorem rowZ_of_own {w : World} {base g cap : Nat} {e : TypeId} {zs : List Int} (h : w.ownsRow base e 1 (.slice (some ⟨g, 0, none⟩) zs.length cap) zs.length (vals zs)) : RowZ w g zs := by
  intro t z ht
  have hlt := (List.getElem?_eq_some_iff.1 ht).1
  exact ⟨(h.cellAt t (by omega)).trans (by simp [vals, ht]), h.frozenAt t⟩

/-- the total over rows between edges -/
def totTo (E : List Int) (L : List RR) : Nat → Int
  | 0 => 0
  | k + 1 => totTo E L k + (E.getD (k + 1) 0 - E.getD k 0) * (cov (E.getD k 0) L).1

set_option maxHeartbeats 400000 in
theorem cover_some (b off len cap : Nat) (L : List RR) (w : World) (hL : RowC w b off L) (hb : b < w.heap.size) (hl : L.length = len) (hpos : 0 < len) (hcap : len ≤ cap) (hmax : len ≤ 9223372036854775807) :
    Calls Try.prog 29 #[.slice (some ⟨b, off, none⟩) len cap] w fun e w' =>
      ∃ L' : List RR, L'.Perm ((L.take 24).map clean) ∧ L'.Pairwise (fun a b => a.x ≤ b.x) ∧ e = .returned (.int .i64 (totTo ((edges ((L.take 24).map clean)).mergeSort fun x y => decide (x ≤ y)) L' (2 * min len 24 - 1))) ∧ Below w.heap.size w w' := by
  obtain ⟨i0, hi, hz0, hz1, hz2⟩ := info_parts info23
  obtain ⟨i3, hi3, hz3, hz4, hz5⟩ := info_parts infoI
  have hm16 : mn (len : Int) 24 = ((min len 24 : Nat) : Int) := by unfold mn; omega
  generalize hmm : min len 24 = m at *
  have hmlen : m ≤ len := by omega
  have hm24 : m ≤ 24 := by omega
  have hm0 : 0 < m := by omega
  have HMM := Lib.hid hmm; clear hmm
  have HL := Lib.hid hl; clear hl
  have HRC := Lib.hid hL; clear hL
  have hzl : (L.take 24).length = m := by rw [List.length_take, HL.out, ← HMM.out]; omega
  have HZ := Lib.hid hzl; clear hzl
  go_enter Try.func29, Try.ntmps29
  go_wp2_with fail
  go_loopg [3, 4, 15] m (fun gg s3 s4 i wr => ∃ (k : Nat) (v1 v2 : Value), v1 = s3 ∧ v2 = s4 ∧ k ≤ m ∧ m - k ≤ gg ∧ i = .int .i64 k ∧ wr.ownsRow w.heap.size 23 4 v1 k (flat (((L.take 24).take k).map clean)) ∧
    wr.ownsRow w.heap.size 3 1 v2 (2 * k) (vals (edges (((L.take 24).take k).map clean))) ∧ Below w.heap.size w wr)
  case atStart => exact ⟨0, _, _, rfl, rfl, Nat.zero_le _, by omega, rfl, World.ownsRow_nil _ _ _ _, World.ownsRow_nil _ _ _ _, Below.refl _ _⟩
  case round =>
    obtain ⟨k, v1, v2, rfl, rfl, hk, hgg, rfl, hown1, hown2, hbel⟩ := hrel
    by_cases hlt : k < m
    · obtain ⟨r, hr⟩ : ∃ r, (L.take 24)[k]? = some r := ⟨_, List.getElem?_eq_getElem (by rw [HZ.out]; exact hlt)⟩
      have hr' : L[k]? = some r := by rw [List.getElem?_take_of_lt (by omega)] at hr; exact hr
      have hts : (L.take 24).take (k + 1) = (L.take 24).take k ++ [r] := by
        obtain ⟨h1, h2⟩ := List.getElem?_eq_some_iff.1 hr
        rw [List.take_succ_eq_append_getElem h1, h2]
      have HTS := Lib.hid hts; clear hts hr
      obtain ⟨k0, k1, k2, k3⟩ := (HRC.out.below hbel hb) k r hr'
      clear hr'
      obtain ⟨rx, ry, rw', rh⟩ := r
      dsimp only at k0 k1 k2 k3
      go_wp2_with fail
      have hlt1 := hown1.lt
      have hlt2 := hown2.lt
      have hw0 := hbel.size
      have hsa : (wr.alloc (rc rx ry rw' rh)).heap.size = wr.heap.size + 1 := by simp
      have HSA := Lib.hid hsa; clear hsa
      refine (clean_any _ _ _ _ _).mono ?_
      rintro e w2 ⟨a, b', c, d, rfl, hcl, hb2⟩
      obtain ⟨cb1, cb2, cb3, cb4, cb5, cb6, cb7, cb8, cb9, cb10⟩ := hcl.bounds
      have q := (RectAt.new wr rx ry rw' rh 23).below hb2 (by rw [HSA.out]; omega)
      have o1 := own_below (hown1.alloc (rc rx ry rw' rh)) hb2 (Nat.le_refl _)
      have o2 := own_below (hown2.alloc (rc rx ry rw' rh)) hb2 (Nat.le_refl _)
      have hbel2 := (hbel.alloc hbel.size (rc rx ry rw' rh)).trans (hb2.mono (by rw [HSA.out]; omega))
      have hne1 : v1.ownBlock ≠ some wr.heap.size := fun e => by have := hlt1 _ e; omega
      have hne2 : v2.ownBlock ≠ some wr.heap.size := fun e => by have := hlt2 _ e; omega
      have hne12 : v2.ownBlock = none ∨ v2.ownBlock ≠ v1.ownBlock := by
        rcases hv : v2.ownBlock with _ | kk
        · exact .inl rfl
        · refine .inr (fun e => own_ne hown2 hown1 (by decide) kk hv e.symm)
      clear k0 k1 k2 k3 hown1 hown2 hbel hlt1 hlt2 hb2
      generalize wr.heap.size = N at *
      obtain ⟨v0, l0, l1, l2, l3, g0, g1, g2, g3⟩ := (id q : RectAt _ _ _ _ _ _)
      have x1 := own_put o1 hne1 a b' c d
      have x2 := own_put o2 hne2 a b' c d
      have xq := q.put a b' c d
      have xb := below_put hbel2 (b := N) hw0 a b' c d
      have hxs : (((((World.setCell w2 ⟨N, 0, none⟩ (.int .i64 a)).setCell ⟨N, 1, none⟩ (.int .i64 b')).setCell ⟨N, 2, none⟩ (.int .i64 c)).setCell ⟨N, 3, none⟩ (.int .i64 d))).heap.size = w2.heap.size := by simp [World.setCell]
      have hnews := news_cells (((((World.setCell w2 ⟨N, 0, none⟩ (.int .i64 a)).setCell ⟨N, 1, none⟩ (.int .i64 b')).setCell ⟨N, 2, none⟩ (.int .i64 c)).setCell ⟨N, 3, none⟩ (.int .i64 d))) ⟨a, b', c, d⟩ w2.heap.size hxs.symm
      have HN := Lib.hid hnews; have H1 := Lib.hid x1; have H2 := Lib.hid x2; have HX := Lib.hid hxs
      clear hnews x1 x2 hxs o1 o2 q hbel2
      have hwN : w.heap.size < w2.heap.size := by omega
      have hsz' : w.heap.size ≤ ((((((World.setCell w2 ⟨N, 0, none⟩ (.int .i64 a)).setCell ⟨N, 1, none⟩ (.int .i64 b')).setCell ⟨N, 2, none⟩ (.int .i64 c)).setCell ⟨N, 3, none⟩ (.int .i64 d))).alloc (rc a b' c d)).heap.size := Nat.le_trans xb.size (by rw [World.size_alloc]; exact Nat.le_succ _)
      have HSZ := Lib.hid hsz'; clear hsz'
      have tok1 : True := trivial
      go_wp2_with (first
        | (at_builtin; have _t := tok1; refine wpList_append_own _ rfl (.tmp 21) (.tmp 23) 36 rfl w.heap.size 23 i0 _ 4 32 Try.underlying36 hi hz0 hz1 hz2 rfl (by decide) _ k _ rfl (H1.out.alloc _) ⟨w2.heap.size, 0, none⟩ 1 1 (encR ⟨a, b', c, d⟩) rfl rfl HN.out (encR_one _) (by unfold maxLen; omega) (by omega) HSZ.out ?_; intro v1' w3 hown1' hgrow1 _; clear tok1; have q3 := (xq.alloc (rc a b' c d)).grown hgrow1 (fun e => hne1 e.symm); obtain ⟨y0, m0, m1, m2, m3, j0, j1, j2, j3⟩ := q3; have o2' := (H2.out.alloc (rc a b' c d)).kept hgrow1 hne12; have xb3 := (xb.alloc xb.size (rc a b' c d)).grown hgrow1 HSZ.out (fun kk hkk => (H1.out.lt kk hkk).1); have hs3 := xb3.size; have O2 := Lib.hid o2'; have O1 := Lib.hid hown1'; clear o2' hown1')
        | (at_builtin; have _t := O2; refine wpList_append_own _ rfl (.tmp 25) (.tmp 33) 32 rfl w.heap.size 3 i3 _ 1 8 Try.underlying32 hi3 hz3 hz4 hz5 rfl (by decide) _ (2 * k) _ rfl (O2.out.alloc _) ⟨w3.heap.size, 0, none⟩ 2 2 [.int .i64 b', .int .i64 (b' + d)] rfl rfl (news_two w3 b' (b' + d)) (two_one _ _) (by unfold maxLen; omega) (by omega) (by rw [World.size_alloc]; omega) ?_; intro v2' w4 hown2' hgrow2 _))
      go_roundg (m - (k + 1))
      case measure => omega
      case rel =>
        have hd12 : v1'.ownBlock = none ∨ v1'.ownBlock ≠ v2.ownBlock := by
          rcases hv : v1'.ownBlock with _ | kk
          · exact .inl rfl
          · exact .inr (fun e => own_ne O1.out O2.out (by decide) kk hv e.symm)
        refine ⟨k + 1, v1', v2', rfl, rfl, by omega, Nat.le_refl _, by go_num, ?_, ?_, ?_⟩
        · rw [HTS.out, List.map_append, flat_append, List.map_cons, List.map_nil, ← show _ = _ from hcl]
          have := (O1.out.alloc (.cells #[.int .i64 b', .int .i64 (b' + d)] 3)).kept hgrow2 hd12
          simpa [flat] using this
        · rw [HTS.out, List.map_append, edges_append, List.map_cons, List.map_nil, ← show _ = _ from hcl]
          simpa [vals, edges, Nat.mul_add] using hown2'
        · exact (xb3.alloc xb3.size _).grown hgrow2 (by rw [World.size_alloc]; omega) (fun kk hkk => (O2.out.lt kk hkk).1)
    · obtain rfl : k = m := by omega
      have e16 : (L.take 24).take k = L.take 24 := List.take_of_length_le (by rw [HZ.out]; exact Nat.le_refl _)
      rw [e16] at hown1 hown2
      obtain ⟨g1, c1, rfl, hg1, hlt1⟩ := hown1.form (by omega)
      obtain ⟨g2, c2, rfl, hg2, hlt2⟩ := hown2.form (by omega)
      have hcl : ((L.take 24).map clean).length = k := by rw [List.length_map, HZ.out]
      have hel : (edges ((L.take 24).map clean)).length = 2 * k := by rw [edges_length, hcl]
      generalize hC : (L.take 24).map clean = C at *
      have hbdC : ∀ r ∈ C, Bd r := by
        intro r hr; rw [← hC] at hr
        obtain ⟨q, _, rfl⟩ := List.mem_map.1 hr
        exact bd_clean q
      have HC := Lib.hid hC; clear hC e16
      have hrow1 := row_of_own (L := C) (by rw [hcl]; exact hown1)
      have hrow2 := rowZ_of_own (zs := edges C) (by rw [hel]; exact hown2)
      have hne : g1 ≠ g2 := fun e => own_ne hown1 hown2 (by decide) g1 (by simp [Value.ownBlock]) (by simp [Value.ownBlock, e])
      have hs1 := sortRects_any g1 c1 C wr hrow1 hlt1 (by omega)
      rw [hcl] at hs1
      have hcapL : k ≤ c1 := own_cap hown1
      have HS1 := Lib.hid hs1; have HR2 := Lib.hid hrow2; have HCL := Lib.hid hcl; have HEL := Lib.hid hel; have HBC := Lib.hid hbdC
      clear hs1 hrow1 hrow2 hcl hel hbdC hown1 hown2
      go_wp2_with fail
      refine HS1.out.mono ?_
      rintro e w1 ⟨rfl, L', hperm, hsorted, hrowL, hgb1⟩
      have HP := Lib.hid hperm; have HSO := Lib.hid hsorted; have HRL := Lib.hid hrowL
      clear hperm hsorted hrowL
      have hs2 := sortInts_any g2 c2 (edges C) w1 (HR2.out.keep (hgb1.block g2 hlt2 (fun e => hne (by cases e; rfl)))) (by have := hgb1.size; omega) (by rw [HEL.out]; omega)
      rw [HEL.out] at hs2
      have HS2 := Lib.hid hs2; clear hs2
      go_wp2_with fail
      refine HS2.out.mono ?_
      rintro e w2 ⟨rfl, hrowE, hgb2⟩
      have hrowL2 := HRL.out.keep (hgb2.block g1 (by have := hgb1.size; omega) (fun e => hne (by cases e; rfl)))
      have hbel2 := (hbel.trans (below_of_gb hgb1 hbel.size hg1)).trans (below_of_gb hgb2 (by have := hbel.size; have := hgb1.size; omega) hg2)
      have hlt1' : g1 < w2.heap.size := by have := hgb1.size; have := hgb2.size; omega
      have hlt2' : g2 < w2.heap.size := by have := hgb1.size; have := hgb2.size; omega
      clear hgb1 hgb2 hbel
      go_wp2_with fail
      have hEl : ((edges C).mergeSort fun x y => decide (x ≤ y)).length = 2 * k := by rw [List.length_mergeSort, HEL.out]
      have hEb : ∀ j, j < 2 * k → -5000 ≤ ((edges C).mergeSort fun x y => decide (x ≤ y)).getD j 0 ∧ ((edges C).mergeSort fun x y => decide (x ≤ y)).getD j 0 ≤ 5200 := by
        intro j hj
        have h1 : j < ((edges C).mergeSort fun x y => decide (x ≤ y)).length := by rw [hEl]; exact hj
        have h2 : ((edges C).mergeSort fun x y => decide (x ≤ y)).getD j 0 ∈ edges C := by
          rw [List.getD, List.getElem?_eq_getElem h1]
          exact (List.mergeSort_perm (edges C) _).mem_iff.1 (List.getElem_mem h1)
        exact edges_bd C HBC.out _ h2
      have hEc : ∀ j, j < 2 * k → w2.cell? ⟨g2, j, none⟩ = some (.int .i64 (((edges C).mergeSort fun x y => decide (x ≤ y)).getD j 0)) := by
        intro j hj
        have h1 : j < ((edges C).mergeSort fun x y => decide (x ≤ y)).length := by rw [hEl]; exact hj
        rw [List.getD, List.getElem?_eq_getElem h1]
        exact (hrowE j _ (List.getElem?_eq_getElem h1)).1
      generalize hE : ((edges C).mergeSort fun x y => decide (x ≤ y)) = E at *
      have HE := Lib.hid hE; clear hE
      have hLl : L'.length = k := by rw [HP.out.length_eq, HCL.out]
      have hbdL : ∀ r ∈ L', Bd r := fun r hr => HBC.out r (HP.out.mem_iff.1 hr)
      have HEB := Lib.hid hEb; have HEC := Lib.hid hEc; have HLL := Lib.hid hLl; have HBL := Lib.hid hbdL; have HRL2 := Lib.hid hrowL2
      clear hEb hEc hEl hLl hbdL hrowL2 hrowE HR2 HS1 HS2 HRL HEL HCL HRC
      go_loopg [7, 8] (2 * k) (fun gg s7 s8 wr => ∃ (j : Nat) (T : Int), s8 = .int .i64 ((j : Int) + 1) ∧ s7 = .int .i64 T ∧ j + 1 ≤ 2 * k ∧ 2 * k - j ≤ gg ∧ Hid (T = totTo E L' j) ∧ -48960000 * (j : Int) ≤ T ∧ T ≤ 48960000 * (j : Int) ∧ Below w2.heap.size w2 wr)
      case atStart => exact ⟨0, 0, rfl, rfl, by omega, by omega, Lib.hid rfl, by omega, by omega, Below.refl _ _⟩
      case round =>
        obtain ⟨j, T, rfl, rfl, hj, hgg', hT, hT1, hT2, hbl⟩ := hrel
        by_cases hlt : j + 1 < 2 * k
        · have e1 := (hbl.cell (p := ⟨g2, j + 1, none⟩) hlt2').trans (HEC.out (j + 1) hlt)
          have e0 := (hbl.cell (p := ⟨g2, j, none⟩) hlt2').trans (HEC.out j (by omega))
          have b1 := HEB.out (j + 1) hlt
          have b0 := HEB.out j (by omega)
          have hTS : totTo E L' (j + 1) = totTo E L' j + (E.getD (j + 1) 0 - E.getD j 0) * (cov (E.getD j 0) L').1 := rfl
          have HTS := Lib.hid hTS; clear hTS
          generalize E.getD (j + 1) 0 = z1 at *
          generalize E.getD j 0 = z0 at *
          have hcv := covered_any g1 c1 L' z0 wr.drew (HRL2.out.below hbl hlt1').drew (by show g1 < wr.heap.size; have := hbl.size; omega) (by rw [HLL.out]; exact hcapL) (by rw [HLL.out]; omega) HBL.out
          rw [HLL.out] at hcv
          have hcb := cov_bd z0 L' HBL.out
          rw [HLL.out] at hcb
          obtain ⟨cb1, cb2, _, _⟩ := hcb
          have cb2' : (cov z0 L').1 ≤ 4800 := by omega
          generalize (cov z0 L').1 = cv at *
          have hmb := mul_bd (z1 - z0) cv (by omega) ⟨cb1, cb2'⟩
          have HCV := Lib.hid hcv; clear hcv
          have i1 : (0 : Int) ≤ (j : Int) + 1 := by omega
          have i2 : (j : Int) + 1 < ((2 * k : Nat) : Int) := by omega
          have i3 : (0 : Int) ≤ (j : Int) := by omega
          have i4 : (j : Int) < ((2 * k : Nat) : Int) := by omega
          have i4' : (j : Int) < 2 * (k : Int) := by omega
          have i2' : (j : Int) + 1 < 2 * (k : Int) := by omega
          have wj : IntKind.i64.wrap (j : Int) = j := wr_big _ (by omega)
          have wj' : IntKind.i64.wrap ((j : Int) + 1 - 1) = j := by rw [show (j : Int) + 1 - 1 = j by omega]; exact wj
          have wz : IntKind.i64.wrap (z1 - z0) = z1 - z0 := wr_big _ (by omega)
          have wm : IntKind.i64.wrap ((z1 - z0) * cv) = (z1 - z0) * cv := wr_big _ (by omega)
          have wt : IntKind.i64.wrap (T + (z1 - z0) * cv) = T + (z1 - z0) * cv := wr_big _ (by omega)
          have tn : ((j : Int) + 1).toNat = j + 1 := by omega
          go_wp2_with fail
          go_region_held3 (fun w' => w'.cell? ⟨g2, j + 1, none⟩ = some (.int .i64 z1) ∧ w'.cell? ⟨g2, j, none⟩ = some (.int .i64 z0)) (first | go_keep | (refine ⟨?_, ?_⟩ <;> assumption))
            ((go_at_call 48; refine (HCV.out).mono ?_; rintro e w5 ⟨rfl, hb5⟩; have f1 := (hb5.cell (p := ⟨g2, j + 1, none⟩) (by show g2 < wr.heap.size; have := hbl.size; omega)).trans e1; have f0 := (hb5.cell (p := ⟨g2, j, none⟩) (by show g2 < wr.heap.size; have := hbl.size; omega)).trans e0))
          all_goals
            go_wp2_with fail
            go_roundg (2 * k - (j + 1))
            case measure => omega
            case rel => exact ⟨j + 1, _, by go_num, rfl, by omega, Nat.le_refl _, Lib.hid (by rw [HTS.out, ← hT.out]), by omega, by omega, (hbl.drew).trans (hb5.mono (by show w2.heap.size ≤ wr.heap.size; exact hbl.size))⟩
        · have hjk : j = 2 * k - 1 := by omega
          go_wp2_with fail
          go_ret
          rw [HC.out, HE.out, ← hjk]
          exact ⟨L', HP.out, HSO.out, ret_int hT.out, hbel2.trans (hbl.mono hbel2.size)⟩
end Go.Proofs.Ytpmggljdcbbdfaa
