/- RingStack returns true at every input: what is pushed is popped in the opposite order. No condition. -/
import Derived.Test.YtaklkhjgdopbgaaRingLaw
import Derived.Test.YtaklkhjgdopbgaaRingListL
namespace Go.Proofs.Ytaklkhjgdopbgaa
open Go.RowKit
attribute [local go_sem ↓ 10000] run_mn run_mx

/-- a slice of the two numbers i, v -/
def El (w : World) (x : Value) (i v : Int) : Prop := ∃ blk, x = .slice (some ⟨blk, 0, none⟩) 2 2 ∧ w.heap[blk]? = some (.cells #[.int .i64 i, .int .i64 v] 3 (0, 0))
/-- slices of places and numbers -/
def Els (w : World) (L : List Value) (zs : List Int) : Prop := ∀ (i : Nat) (x : Value), L[i]? = some x → El w x (i : Int) (zs.getD i 0)
theorem El.keep {w w' : World} {x : Value} {i v : Int} (h : El w x i v) (hk : ∀ (k : Nat) o, w.heap[k]? = some o → (∃ c, o = .cells c 3 (0, 0)) → w'.heap[k]? = some o) : El w' x i v := by
  obtain ⟨blk, rfl, hb⟩ := h
  exact ⟨blk, rfl, hk blk _ hb ⟨_, rfl⟩⟩
theorem Els.keep {w w' : World} {L : List Value} {zs : List Int} (h : Els w L zs) (hk : ∀ (k : Nat) o, w.heap[k]? = some o → (∃ c, o = .cells c 3 (0, 0)) → w'.heap[k]? = some o) : Els w' L zs := fun i x hx => (h i x hx).keep hk
theorem keep_below {w w' : World} (hb : Below w.heap.size w w') : ∀ (k : Nat) o, w.heap[k]? = some o → (∃ c, o = .cells c 3 (0, 0)) → w'.heap[k]? = some o := fun k _ hk _ => (hb.block k (Array.getElem?_eq_some_iff.1 hk).1).trans hk
theorem keep_ring {w w' : World} {b : Nat} {pv : Value} {L : List Value} {most gone : Nat} (hi : rL.Is w b pv L most gone) (hk : Kept w w' (Tch b pv)) : ∀ (k : Nat) o, w.heap[k]? = some o → (∃ c, o = .cells c 3 (0, 0)) → w'.heap[k]? = some o := by
  rintro k o ho ⟨c, rfl⟩
  obtain ⟨ps, first, hr, _⟩ := hi
  refine hk.same ho (fun h => ?_)
  rcases h with rfl | h
  · rw [hr.blk] at ho
    simp [ringObj] at ho
  · rcases hr.own.2 with ⟨hv, _⟩ | ⟨g, cap, cur, hv, _, hg, _⟩
    · rw [hv] at h; simp [Value.ownBlock] at h
    · rw [hv] at h
      simp [Value.ownBlock] at h
      subst h
      rw [hg] at ho
      simp at ho
theorem Els.snoc {w : World} {L : List Value} {zs : List Int} {x : Value} {k : Nat} (h : Els w L zs) (hl : L.length = k) (hx : El w x k (zs.getD k 0)) : Els w (L ++ [x]) zs := by
  intro i y hy
  rcases Nat.lt_trichotomy i L.length with hi | hi | hi
  · rw [List.getElem?_append_left hi] at hy
    exact h i y hy
  · subst hi
    simp at hy
    subst hy
    rw [hl]
    exact hx
  · rw [List.getElem?_append_right (by omega)] at hy
    obtain ⟨j, hj⟩ : ∃ j, i - L.length = j + 1 := ⟨i - L.length - 1, by omega⟩
    rw [hj] at hy
    simp at hy
theorem Els.init {w : World} {L : List Value} {zs : List Int} {x : Value} (h : Els w (L ++ [x]) zs) : Els w L zs := fun i y hy => h i y (by
  have hi : i < L.length := by
    rcases Nat.lt_or_ge i L.length with h' | h'
    · exact h'
    · rw [List.getElem?_eq_none h'] at hy; simp at hy
  rw [List.getElem?_append_left hi]; exact hy)
theorem Els.last {w : World} {L : List Value} {zs : List Int} {x : Value} {k : Nat} (h : Els w (L ++ [x]) zs) (hl : L.length = k) : El w x k (zs.getD k 0) := by
  have := h L.length x (by simp)
  rwa [hl] at this
theorem pushL_below {w w' : World} {b B : Nat} {pv : Value} {L : List Value} {most gone : Nat} (h : rL.Is w b pv L most gone) (hk : Kept w w' (Tch b pv)) (hB : B ≤ b) : Below B w w' := by
  have hlt := h.lt
  refine hk.below (by omega) (fun k hk' => ?_)
  rcases hk' with rfl | hk'
  · exact hB
  · have := h.own k hk'; omega
theorem lenL_law {w : World} {b : Nat} {pv : Value} {L : List Value} {most gone l : Nat} (h : rL.Is w b pv L most gone) (hl : L.length = l) :
    Calls Try.prog 31 #[.pointer (some ⟨b, 0, none⟩)] w fun e w' => e = .returned (.int .i64 (l : Int)) ∧ w = w' := by
  obtain ⟨ps, first, hr, _⟩ := h
  have := rL.len_any b pv first L.length most gone w (ringCells hr.blk)
  rwa [hl] at this
theorem goneL_is {w : World} {b : Nat} {pv : Value} {L : List Value} {most gone : Nat} (h : rL.Is w b pv L most gone) :
    Calls Try.prog 32 #[.pointer (some ⟨b, 0, none⟩)] w fun e w' => e = .returned (.int .i64 (gone : Int)) ∧ w = w' := by
  obtain ⟨ps, first, hr, _⟩ := h
  exact rL.gone_any b pv first L.length most gone w (ringCells hr.blk)
theorem isL_drewN {w : World} {b : Nat} {pv : Value} {L : List Value} {most gone : Nat} (h : rL.Is w b pv L most gone) (j : Nat) : rL.Is (w.drewN j) b pv L most gone := by
  obtain ⟨ps, first, hr, hL⟩ := h
  exact ⟨ps, first, hr.drewN j, hL⟩

set_option maxRecDepth 100000 in
set_option maxHeartbeats 8000000 in
theorem stack_any (m : Int) (o : Option Addr) (n cap : Nat) (vs : List Int) (w : World) (hv : Ints w o n cap vs) (_hn : n < 2305843009213693952) :
    Calls Try.prog 5 #[.int .i64 m, .slice o n cap] w fun e w' => e = .returned (.bool true) ∧ Below w.heap.size w w' := by
  have hcap : cap ≤ 9223372036854775807 := hv.max
  have hle := hv.le
  obtain ⟨T, hT⟩ : ∃ T, T = rI.top m := ⟨_, rfl⟩
  have hT1 : T ≤ 1000 := by rw [hT]; exact rI.top_le m
  have hTL : rL.top m = T := by rw [hT]; rfl
  have e1 : mn (mx m 0) 1000 = (T : Int) := by rw [hT]; exact mn_top m
  obtain ⟨N, hN⟩ : ∃ N, N = min n T := ⟨_, rfl⟩
  obtain ⟨zs, hz⟩ : ∃ zs, zs = vs.take N := ⟨_, rfl⟩
  have hiz : Ints w o N cap zs := by rw [hz]; exact (slice_hi hv N (by omega) N rfl).2
  have hsl : T < n → ∀ (k : IntKind) (wx : World), (Instr.slice 26 (.slice o n cap) none (some (.int k (T : Int))) none).run Try.prog wx = .ok (.slice o N cap) wx := fun h => (slice_hi hv N (by omega) (T : Int) (by omega)).1
  have hN2 : N ≤ cap := by omega
  have hNT : N ≤ T := by omega
  have hNn : n ≤ T → N = n := by omega
  generalize hB : w.heap.size = B at *
  have HB := Lib.hid hB; have HT := Lib.hid hTL; have HZ := Lib.hid hiz; have HSL := Lib.hid hsl; have HNN := Lib.hid hNn; have E1 := Lib.hid e1
  clear hB hT hTL hiz hsl hNn hv hz hN e1
  have hbig : T < n ∨ N = n := by
    rcases Nat.lt_or_ge T n with h | h
    · exact .inl h
    · exact .inr (HNN.out h)
  go_enter Try.func5, Try.ntmps5
  go_wp2_with fail
  refine (rL.new_any _ _).mono ?_
  rintro e w1 ⟨rfl, his, hb1⟩
  rw [HB.out, HT.out] at his
  rw [HB.out] at hb1
  rw [HB.out]
  have hlt1 := his.lt
  have H1 := Lib.hid his; clear his
  go_wp2_with fail
  refine (alive_any _).mono ?_
  rintro e w2 ⟨rfl, hb2'⟩
  have hb2 := hb1.trans (hb2'.mono (by omega))
  have H2 := Lib.hid (H1.out.below hb2')
  clear H1 hb2' hb1 hlt1
  have HSL0 := HSL.out
  have e1 := E1.out
  have HB2 := Lib.hid hbig; clear hbig
  rcases HB2.out with hbig | rfl
  all_goals first | (have hs1 := HSL0 hbig; have hd : decide (T < n) = true := decide_eq_true hbig; clear HSL0 HSL HNN HB2) | (have hd : decide (T < N) = false := decide_eq_false (by omega); clear HSL0 HSL HNN HB2)
  all_goals go_wp2_with fail
  all_goals
    go_loopg [34] N (fun gg s34 wr => ∃ (k : Nat) (pv : Value) (L : List Value), s34 = .int .i64 k ∧ k ≤ N ∧ N - k ≤ gg ∧ Hid (L.length = k) ∧ Hid (rL.Is wr B pv L T 0) ∧ Hid (Els wr L zs) ∧ Below B w wr)
    case atStart => exact ⟨0, _, [], rfl, Nat.zero_le _, by omega, Lib.hid rfl, H2, Lib.hid (fun i x hx => by simp at hx), hb2⟩
    case round =>
      obtain ⟨k, pv, L, rfl, hk, hgg, HL, HI, HE, hbel⟩ := hrel
      clear hb2 H2
      by_cases hlt : k < N
      · have hIv := HZ.out.below (HB.out.symm ▸ hbel)
        obtain ⟨vb, off, hob, hvb, hc⟩ := hIv.cell hlt
        subst hob
        generalize hzz : zs.getD k 0 = z at *
        have HZZ := Lib.hid hzz
        clear hzz hIv
        have hba : Below wr.heap.size wr (wr.alloc (.cells #[.int .i64 (k : Int), .int .i64 z] 3)) := (Below.refl _ _).alloc (Nat.le_refl _) _
        have hia := HI.out.below hba
        have hps := rL.push_room B pv L T 0 (some ⟨wr.heap.size, 0, none⟩) 2 2 _ hia (by rw [HL.out]; omega)
        have hel : Els (wr.alloc (.cells #[.int .i64 (k : Int), .int .i64 z] 3)) (L ++ [.slice (some ⟨wr.heap.size, 0, none⟩) 2 2]) zs :=
          (HE.out.keep (keep_below hba)).snoc HL.out ⟨wr.heap.size, rfl, by rw [HZZ.out]; exact heap_alloc_new wr _⟩
        have hbel0 := hbel.alloc (by have := hbel.size; have := HB.out; omega) (.cells #[.int .i64 (k : Int), .int .i64 z] 3)
        have HP := Lib.hid hps; have HEL := Lib.hid hel; have HIA := Lib.hid hia; have HB0 := Lib.hid hbel0
        clear hba hia hps hel HI HE hbel hbel0
        go_wp2_with fail
        refine HP.out.mono ?_
        rintro e w3 ⟨rfl, pv3, hi3, hk3, hm3⟩
        have hbel3 := HB0.out.trans (pushL_below HIA.out hk3 (Nat.le_refl B))
        have hel3 := HEL.out.keep (keep_ring HIA.out hk3)
        have H3 := Lib.hid hi3; have HE3 := Lib.hid hel3
        clear hi3 hk3 hm3 hel3 HP HEL HIA HB0 hc
        go_wp2_with fail
        go_roundg (N - (k + 1))
        case measure => omega
        case rel => exact ⟨k + 1, pv3, _, by go_num, by omega, Nat.le_refl _, Lib.hid (by rw [List.length_append, HL.out]; rfl), H3, HE3, hbel3⟩
      · obtain rfl : k = N := by omega
        clear hgg hlt
        go_wp2_with fail
        go_loopg [9] k (fun gg s9 wr => ∃ (q : Nat) (x : Int) (pv2 : Value) (L2 : List Value), s9 = .int .i64 x ∧ q ≤ gg ∧ q ≤ k ∧ x ≤ (q : Int) - 1 ∧ (q : Int) - 1 ≤ x ∧ Hid (L2.length = q) ∧ Hid (rL.Is wr B pv2 L2 T 0) ∧ Hid (Els wr L2 zs) ∧ Below B w wr)
        case atStart => exact ⟨k, (k : Int) - 1, _, _, rfl, Nat.le_refl _, Nat.le_refl _, by omega, by omega, HL, HI, HE, hbel⟩
        case round =>
          obtain ⟨q, x, pv2, L2, rfl, hq, hqk, hx1, hx2, HL2, HI2, HE2, hbel2⟩ := hrel
          clear HL HI HE hbel
          by_cases hq0 : q = 0
          · obtain rfl : x = -1 := by omega
            obtain rfl : L2 = [] := List.eq_nil_of_length_eq_zero (by rw [HL2.out, hq0])
            clear hq0 hx1 hx2
            go_wp2_with fail
            refine (rL.pop_none B pv2 T 0 _ HI2.out).mono ?_
            rintro e w3 ⟨rfl, rfl⟩
            go_wp2_with fail
            refine (goneL_is HI2.out).mono ?_
            rintro e w3 ⟨rfl, rfl⟩
            go_wp2_with fail
            refine (rL.all_any B pv2 [] T 0 _ HI2.out).mono ?_
            rintro e w3 ⟨av, rfl, hrow, hb3⟩
            obtain ⟨ao, ac, rfl⟩ := own_slice hrow
            have hbel3 := hbel2.trans (hb3.mono (by have := hbel2.size; have := HB.out; omega))
            clear hrow hb3
            go_wp2_with fail
            go_ret
            exact ⟨rfl, hbel3⟩
          · obtain ⟨j, rfl⟩ : ∃ j, q = j + 1 := ⟨q - 1, by omega⟩
            obtain rfl : x = (j : Int) := by omega
            have hne : L2 ≠ [] := fun h => by have := HL2.out; rw [h] at this; simp at this
            obtain ⟨L3, y, rfl⟩ : ∃ L3 y, L2 = L3 ++ [y] := ⟨_, _, (List.dropLast_concat_getLast hne).symm⟩
            have hl3 : L3.length = j := by have := HL2.out; simpa using this
            have hpop := rL.pop_some B pv2 L3 y T 0 _ HI2.out
            obtain ⟨vb, off, hob, hvb, hc⟩ := HZ.out.cell (k := j) (by omega)
            obtain ⟨blk, hy, hblk⟩ := HE2.out.last hl3
            subst hob
            subst hy
            generalize zs.getD j 0 = z at *
            have HP := Lib.hid hpop; have HL3 := Lib.hid hl3; have HBK := Lib.hid hblk; have HC := Lib.hid hc
            clear hpop hl3 hblk hc hq0 hx1 hx2 hne
            go_wp2_with fail
            refine HP.out.mono ?_
            rintro e w4 ⟨rfl, pv4, hi4, hk4, hm4⟩
            have hbel4 := hbel2.trans (pushL_below HI2.out hk4 (Nat.le_refl B))
            have hel4 := HE2.out.init.keep (keep_ring HI2.out hk4)
            have hblk4 := keep_ring HI2.out hk4 blk _ HBK.out ⟨_, rfl⟩
            have hcz := (hbel4.cell (p := ⟨vb, off + j, none⟩) (by show vb < B; rw [← HB.out]; exact hvb)).trans HC.out
            have hcb0 : w4.cell? ⟨blk, 0, none⟩ = some (.int .i64 (j : Int)) := by simp [World.cell?, hblk4]
            have hcb1 : w4.cell? ⟨blk, 1, none⟩ = some (.int .i64 z) := by simp [World.cell?, hblk4]
            have hln : ∀ jj, Calls Try.prog 31 #[.pointer (some ⟨B, 0, none⟩)] (w4.drewN jj) (fun e w' => e = .returned (.int .i64 (j : Int)) ∧ w' = w4.drewN jj) := fun jj => (lenL_law (isL_drewN hi4 jj) HL3.out).mono fun _ _ h => ⟨h.1, h.2.symm⟩
            have H4 := Lib.hid hi4; have HE4 := Lib.hid hel4; have HLN := Lib.hid hln
            have hjk : ((j : Int) < (k : Int)) := by omega
            clear hi4 hk4 hm4 hel4 hblk4 hln HP HI2 HE2 HBK HC hbel2
            go_wp2_with fail
            go_quiet ((go_at_call 31; exact Calls.quiet_of_same (HLN.out _)))
            have hbel5 := below_drewN hbel4 nq
            have H5 := Lib.hid (isL_drewN H4.out nq)
            have HE5 : Hid (Els (w4.drewN nq) L3 zs) := HE4.out
            clear hcz hcb0 hcb1 hbel4
            go_wp2_with fail
            go_roundg j
            case measure => omega
            case rel => exact ⟨j, (j : Int) - 1, pv4, L3, by go_num, Nat.le_refl _, by omega, by omega, by omega, HL3, H5, HE5, hbel5⟩
end Go.Proofs.Ytaklkhjgdopbgaa
