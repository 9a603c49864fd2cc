/- A clock's Set. -/
import Derived.Test.YtfelmnhhldgobaaTmCk
namespace Go.Proofs.Ytfelmnhhldgobaa
open Go.RowKit
theorem CK.setLast {w : World} {c : Nat} {now last : Int} {V : Value} {l : List tm.T} (h : CK w c now last V l) (x : Int) : CK (w.setCell ⟨c, 1, none⟩ (.int .i64 x)) c now x V l :=
  ⟨heap_setCell_same w c 1 _ _ _ h.ck, own_keep h.row fun g _ hB _ _ _ => Below.heap_setCell _ _ _ g (by simp only; omega)⟩
theorem CK.setNow {w : World} {c : Nat} {now last : Int} {V : Value} {l : List tm.T} (h : CK w c now last V l) (x : Int) : CK (w.setCell ⟨c, 0, none⟩ (.int .i64 x)) c x last V l :=
  ⟨heap_setCell_same w c 0 _ _ _ h.ck, own_keep h.row fun g _ hB _ _ _ => Below.heap_setCell _ _ _ g (by simp only; omega)⟩
set_option maxRecDepth 100000 in
set_option maxHeartbeats 3200000 in
theorem set_any (c : Nat) (V : Value) (s : tm.St) (owner i e : Int) (w : World) (h : CS w c V s) (hg : tm.Good s) (hlast : 0 ≤ s.last ∧ s.last < 4611686018427387904) (R : (Int × Int) × tm.St) (hR : tm.setR s owner i e = R) : Calls Try.prog 9 #[.pointer (some ⟨c, 0, none⟩), .int .i64 owner, .int .i64 i, .int .i64 e] w fun x w' => x = .returned (.tuple #[.int .i64 R.1.1, .int .i64 R.1.2]) ∧ CSR c V w w' R.2 := by
  obtain ⟨c0, c1, c2⟩ := h.cell
  have hlt := h.lt
  have hf1 : w.frozen? ⟨c, 1, none⟩ = false := thaw h.ck
  have HS := Lib.hid (CKR.same h)
  have n0 := hg.n0
  have n1 := hg.n1
  have hlen := hg.len
  obtain ⟨o, cap, hV⟩ := h.slice
  obtain ⟨n, hn⟩ : ∃ n, s.l.length = n := ⟨_, rfl⟩
  rw [hn] at hV hlen
  subst hV
  have HR := Lib.hid hR
  clear hR hg
  have key : ∀ r, tm.setR s owner i e = r → Hid (R = r) := fun r hr => Lib.hid (HR.out.symm.trans hr)
  unfold tm.setR at key
  by_cases ho : owner < 1
  · have HE := key _ (if_pos (.inl ho))
    obtain rfl := HE.out
    go_enter Try.func9, Try.ntmps9
    go_wp2_with fail
    go_ret2
    exact ⟨rfl, HS.out⟩
  cases hi : tm.isT i with
  | false =>
    have HE := key _ (if_pos (.inr (.inl hi)))
    obtain rfl := HE.out
    have H1 := Lib.hid (isTime_any i w _ hi)
    go_enter Try.func9, Try.ntmps9
    go_wp2_with fail
    refine H1.out.mono ?_
    rintro e w' ⟨rfl, hw⟩
    replace hw := hw.symm
    subst hw
    go_wp2_with fail
    go_ret2
    exact ⟨rfl, HS.out⟩
  | true =>
  have H1 := Lib.hid (isTime_any i w _ hi)
  cases he : tm.isT e with
  | false =>
    have HE := key _ (if_pos (.inr (.inr (.inl he))))
    obtain rfl := HE.out
    have H2 := Lib.hid (isTime_any e w _ he)
    go_enter Try.func9, Try.ntmps9
    go_wp2_with fail
    refine H1.out.mono ?_
    rintro e w' ⟨rfl, hw⟩
    replace hw := hw.symm
    subst hw
    go_wp2_with fail
    refine H2.out.mono ?_
    rintro e w' ⟨rfl, hw⟩
    replace hw := hw.symm
    subst hw
    go_wp2_with fail
    go_ret2
    exact ⟨rfl, HS.out⟩
  | true =>
  have H2 := Lib.hid (isTime_any e w _ he)
  have hib := (tm.isT_iff i).1 hi
  have ew : wrap64 (s.now + i) = s.now + i := by unfold wrap64; omega
  cases hs : tm.isT (s.now + i) with
  | false =>
    have HE := key _ (if_pos (.inr (.inr (.inr hs))))
    obtain rfl := HE.out
    have H3 := Lib.hid (isTime_any (s.now + i) w _ hs)
    go_enter Try.func9, Try.ntmps9
    go_wp2_with fail
    refine H1.out.mono ?_
    rintro e w' ⟨rfl, hw⟩
    replace hw := hw.symm
    subst hw
    go_wp2_with fail
    refine H2.out.mono ?_
    rintro e w' ⟨rfl, hw⟩
    replace hw := hw.symm
    subst hw
    go_wp2_with fail
    refine H3.out.mono ?_
    rintro e w' ⟨rfl, hw⟩
    replace hw := hw.symm
    subst hw
    go_wp2_with fail
    go_ret2
    exact ⟨rfl, HS.out⟩
  | true =>
  have H3 := Lib.hid (isTime_any (s.now + i) w _ hs)
  have key2 := fun r (hr : (if s.l.length = 64 then ((0, 3), s) else ((s.last + 1, 0), (⟨s.now, s.last + 1, tm.push s.l ⟨s.last + 1, owner, s.now + i, e⟩⟩ : tm.St))) = r) => key r ((if_neg (by rw [hi, he, hs]; simp [ho])).trans hr)
  clear key
  by_cases h64 : n = 64
  · have HE := key2 _ (if_pos (hn.trans h64))
    obtain rfl := HE.out
    subst h64
    go_enter Try.func9, Try.ntmps9
    go_wp2_with fail
    refine H1.out.mono ?_
    rintro e w' ⟨rfl, hw⟩
    replace hw := hw.symm
    subst hw
    go_wp2_with fail
    refine H2.out.mono ?_
    rintro e w' ⟨rfl, hw⟩
    replace hw := hw.symm
    subst hw
    go_wp2_with fail
    refine H3.out.mono ?_
    rintro e w' ⟨rfl, hw⟩
    replace hw := hw.symm
    subst hw
    go_wp2_with fail
    go_ret2
    exact ⟨rfl, HS.out⟩
  · have HE := key2 _ (if_neg (by omega))
    obtain rfl := HE.out
    have hne : ((n : Int) == 64) = false := beq_eq_false_iff_ne.2 (by omega)
    have el : wrap64 (s.last + 1) = s.last + 1 := by unfold wrap64; omega
    have HC := Lib.hid (h.setLast (s.last + 1))
    have HF : Hid (Fr (OwnC c (.slice o n cap)) w (w.setCell ⟨c, 1, none⟩ (.int .i64 (s.last + 1)))) := Lib.hid ((Fr.refl _ w).setCell _ _ (.inr (.inl rfl)))
    have HL : Hid (s.l.length = n ∧ n ≤ 64) := Lib.hid ⟨hn, hlen⟩
    clear h HS HR key2 hn h64
    go_enter Try.func9, Try.ntmps9
    go_wp2_with fail
    refine H1.out.mono ?_
    rintro e w' ⟨rfl, hw⟩
    replace hw := hw.symm
    subst hw
    go_wp2_with fail
    refine H2.out.mono ?_
    rintro e w' ⟨rfl, hw⟩
    replace hw := hw.symm
    subst hw
    go_wp2_with fail
    refine H3.out.mono ?_
    rintro e w' ⟨rfl, hw⟩
    replace hw := hw.symm
    subst hw
    clear H1 H2 H3
    go_upto_region 6 with fail
    obtain ⟨W, hW⟩ : ∃ W, w.setCell ⟨c, 1, none⟩ (.int .i64 (s.last + 1)) = W := ⟨_, rfl⟩
    rw [hW] at HC HF
    change Code.wp _ _ _ _ (w.setCell ⟨c, 1, none⟩ (.int .i64 (s.last + 1)))
    rw [hW]
    clear hW c0 c1 c2 hlt hf1
    obtain ⟨c0, c1, c2⟩ := HC.out.cell
    have hlt := HC.out.lt
    have HP := Lib.hid (fun k => hpush_any c s.now (s.last + 1) _ s.l ⟨s.last + 1, owner, s.now + i, e⟩ (W.drewN k) (HC.out.below (below_dN (Below.refl _ _) k)) (by have := HL.out; omega))
    have ew2 : IntKind.i64.wrap (s.now + i) = s.now + i := by rw [IntKind.wrap_i64]; omega
    have HB := Lib.hid (fun k => (HF.out.drewN k : Fr (OwnC c (.slice o n cap)) w (W.drewN k)))
    have hSD : c < W.drew.heap.size ∧ W.drew.cell? ⟨c, 0, none⟩ = some (.int .i64 s.now) ∧ W.drew.cell? ⟨c, 1, none⟩ = some (.int .i64 (s.last + 1)) := ⟨hlt, c0, c1⟩
    refine wp_region_noPanic ?_
    refine wp_region_held_drew (S := (fun X => c < X.heap.size ∧ X.cell? ⟨c, 0, none⟩ = some (.int .i64 s.now) ∧ X.cell? ⟨c, 1, none⟩ = some (.int .i64 (s.last + 1)))) (by kernel_rfl) ?_ (fun hHeld => ?_)
    · exact hSD
    refine wpAnyH_take (i := 0) (v := ?_) rfl (by kernel_rfl) (by kernel_rfl) (by kernel_rfl) (fun _ _ _ h => h) (Or.inl ⟨by rfl, ?_⟩) (by assumption) ?_
    rotate_left
    · ((intro w hSw); (try dsimp only at hSw); (obtain ⟨hl0, hc0, hc1⟩ := hSw); (try simp only [List.getElem_toArray, List.getElem_cons_zero]); (go_simp); (try with_reducible rfl))
    (try simp only [Act.put, List.setIfInBounds_toArray, List.set_cons_zero, List.set_cons_succ, List.getElem_toArray, List.getElem_cons_zero])
    refine wpAnyH_take (i := 1) (v := ?_) rfl (by kernel_rfl) (by kernel_rfl) (by kernel_rfl) (fun _ _ _ h => h) (Or.inl ⟨by rfl, ?_⟩) (by assumption) ?_
    rotate_left
    · ((intro w hSw); (try dsimp only at hSw); (obtain ⟨hl0, hc0, hc1⟩ := hSw); (try simp only [List.getElem_toArray, List.getElem_cons_succ, List.getElem_cons_zero]); (go_simp); (try with_reducible rfl))
    (try simp only [Act.put, List.setIfInBounds_toArray, List.set_cons_zero, List.set_cons_succ, List.getElem_toArray, List.getElem_cons_succ, List.getElem_cons_zero])
    refine wpAnyH_take (i := 2) (v := ?_) rfl (by kernel_rfl) (by kernel_rfl) (by kernel_rfl) (fun _ _ _ h => h) (Or.inl ⟨by rfl, ?_⟩) (by assumption) ?_
    rotate_left
    · ((intro w hSw); (try dsimp only at hSw); (obtain ⟨hl0, hc0, hc1⟩ := hSw); (try simp only [List.getElem_toArray, List.getElem_cons_succ, List.getElem_cons_zero]); (go_simp); (try with_reducible rfl))
    (try simp only [Act.put, List.setIfInBounds_toArray, List.set_cons_zero, List.set_cons_succ, List.getElem_toArray, List.getElem_cons_succ, List.getElem_cons_zero])
    refine wpAnyH_take (i := 3) (v := ?_) rfl (by kernel_rfl) (by kernel_rfl) (by kernel_rfl) (fun _ _ _ h => h) (Or.inl ⟨by rfl, ?_⟩) (by assumption) ?_
    rotate_left
    · ((intro w hSw); (try dsimp only at hSw); (obtain ⟨hl0, hc0, hc1⟩ := hSw); (try simp only [List.getElem_toArray, List.getElem_cons_succ, List.getElem_cons_zero]); (go_simp); (try with_reducible rfl))
    (try simp only [Act.put, List.setIfInBounds_toArray, List.set_cons_zero, List.set_cons_succ, List.getElem_toArray, List.getElem_cons_succ, List.getElem_cons_zero])
    refine wpAnyH_take (i := 4) (v := ?_) rfl (by kernel_rfl) (by kernel_rfl) (by kernel_rfl) (fun _ _ _ h => h) (Or.inl ⟨by rfl, ?_⟩) (by assumption) ?_
    rotate_left
    · ((intro w hSw); (try dsimp only at hSw); (obtain ⟨hl0, hc0, hc1⟩ := hSw); (try simp only [List.getElem_toArray, List.getElem_cons_succ, List.getElem_cons_zero]); (go_simp); (try with_reducible rfl))
    (try simp only [Act.put, List.setIfInBounds_toArray, List.set_cons_zero, List.set_cons_succ, List.getElem_toArray, List.getElem_cons_succ, List.getElem_cons_zero])
    refine wpAnyH_take (i := 5) (v := ?_) rfl (by kernel_rfl) (by kernel_rfl) (by kernel_rfl) (fun _ _ _ h => h) (Or.inl ⟨by rfl, ?_⟩) (by assumption) ?_
    rotate_left
    · ((intro w hSw); (try dsimp only at hSw); (obtain ⟨hl0, hc0, hc1⟩ := hSw); (try simp only [List.getElem_toArray, List.getElem_cons_succ, List.getElem_cons_zero]); (go_simp); (try with_reducible rfl))
    (try simp only [Act.put, List.setIfInBounds_toArray, List.set_cons_zero, List.set_cons_succ, List.getElem_toArray, List.getElem_cons_succ, List.getElem_cons_zero])
    refine wpAnyH_take (i := 6) (v := ?_) rfl (by kernel_rfl) (by kernel_rfl) (by kernel_rfl) (fun _ _ _ h => h) (Or.inl ⟨by rfl, ?_⟩) (by assumption) ?_
    rotate_left
    · ((intro w hSw); (try dsimp only at hSw); (obtain ⟨hl0, hc0, hc1⟩ := hSw); (try simp only [List.getElem_toArray, List.getElem_cons_succ, List.getElem_cons_zero]); (go_simp); (try with_reducible rfl))
    (try simp only [Act.put, List.setIfInBounds_toArray, List.set_cons_zero, List.set_cons_succ, List.getElem_toArray, List.getElem_cons_succ, List.getElem_cons_zero])
    refine wpAnyH_take (i := 7) (v := ?_) rfl (by kernel_rfl) (by kernel_rfl) (by kernel_rfl) (fun _ _ _ h => h) (Or.inl ⟨by rfl, ?_⟩) (by assumption) ?_
    rotate_left
    · ((intro w hSw); (try dsimp only at hSw); (obtain ⟨hl0, hc0, hc1⟩ := hSw); (try simp only [List.getElem_toArray, List.getElem_cons_succ, List.getElem_cons_zero]); (go_simp); (try with_reducible rfl))
    (try simp only [Act.put, List.setIfInBounds_toArray, List.set_cons_zero, List.set_cons_succ, List.getElem_toArray, List.getElem_cons_succ, List.getElem_cons_zero])
    refine wpAnyH_take (i := 8) (v := ?_) rfl (by kernel_rfl) (by kernel_rfl) (by kernel_rfl) (fun _ _ _ h => h) (Or.inl ⟨by rfl, ?_⟩) (by assumption) ?_
    rotate_left
    · ((intro w hSw); (try dsimp only at hSw); (obtain ⟨hl0, hc0, hc1⟩ := hSw); (try simp only [List.getElem_toArray, List.getElem_cons_succ, List.getElem_cons_zero]); (go_simp); (try with_reducible rfl))
    (try simp only [Act.put, List.setIfInBounds_toArray, List.set_cons_zero, List.set_cons_succ, List.getElem_toArray, List.getElem_cons_succ, List.getElem_cons_zero])
    refine wpAnyH_take (i := 9) (v := ?_) rfl (by kernel_rfl) (by kernel_rfl) (by kernel_rfl) (fun _ _ _ h => h) (Or.inl ⟨by rfl, ?_⟩) (by assumption) ?_
    rotate_left
    · ((intro w hSw); (try dsimp only at hSw); (obtain ⟨hl0, hc0, hc1⟩ := hSw); (try simp only [List.getElem_toArray, List.getElem_cons_succ, List.getElem_cons_zero]); (go_simp); (try with_reducible rfl))
    (try simp only [Act.put, List.setIfInBounds_toArray, List.set_cons_zero, List.set_cons_succ, List.getElem_toArray, List.getElem_cons_succ, List.getElem_cons_zero])
    refine wpAnyH_take (i := 10) (v := ?_) rfl (by kernel_rfl) (by kernel_rfl) (by kernel_rfl) (fun _ _ _ h => h) (Or.inl ⟨by rfl, ?_⟩) (by assumption) ?_
    rotate_left
    · ((intro w hSw); (try dsimp only at hSw); (obtain ⟨hl0, hc0, hc1⟩ := hSw); (try simp only [List.getElem_toArray, List.getElem_cons_succ, List.getElem_cons_zero]); (go_simp); (try with_reducible rfl))
    (try simp only [Act.put, List.setIfInBounds_toArray, List.set_cons_zero, List.set_cons_succ, List.getElem_toArray, List.getElem_cons_succ, List.getElem_cons_zero])
    refine wpAnyH_take (i := 11) (v := ?_) rfl (by kernel_rfl) (by kernel_rfl) (by kernel_rfl) (fun _ _ _ h => h) (Or.inl ⟨by rfl, ?_⟩) (by assumption) ?_
    rotate_left
    · ((intro w hSw); (try dsimp only at hSw); (obtain ⟨hl0, hc0, hc1⟩ := hSw); (try simp only [List.getElem_toArray, List.getElem_cons_succ, List.getElem_cons_zero]); (go_simp); (try with_reducible rfl))
    (try simp only [Act.put, List.setIfInBounds_toArray, List.set_cons_zero, List.set_cons_succ, List.getElem_toArray, List.getElem_cons_succ, List.getElem_cons_zero])
    refine wpAnyH_take (i := 12) (v := ?_) rfl (by kernel_rfl) (by kernel_rfl) (by kernel_rfl) (fun _ _ _ h => h) (Or.inl ⟨by rfl, ?_⟩) (by assumption) ?_
    rotate_left
    · ((intro w hSw); (try dsimp only at hSw); (obtain ⟨hl0, hc0, hc1⟩ := hSw); (try simp only [List.getElem_toArray, List.getElem_cons_succ, List.getElem_cons_zero]); (go_simp); (try with_reducible rfl))
    (try simp only [Act.put, List.setIfInBounds_toArray, List.set_cons_zero, List.set_cons_succ, List.getElem_toArray, List.getElem_cons_succ, List.getElem_cons_zero])
    refine wpAnyH_take (i := 13) (v := ?_) rfl (by kernel_rfl) (by kernel_rfl) (by kernel_rfl) (fun _ _ _ h => h) (Or.inl ⟨by rfl, ?_⟩) (by assumption) ?_
    rotate_left
    · ((intro w hSw); (try dsimp only at hSw); (obtain ⟨hl0, hc0, hc1⟩ := hSw); (try simp only [List.getElem_toArray, List.getElem_cons_succ, List.getElem_cons_zero]); (go_simp); (try with_reducible rfl))
    (try simp only [Act.put, List.setIfInBounds_toArray, List.set_cons_zero, List.set_cons_succ, List.getElem_toArray, List.getElem_cons_succ, List.getElem_cons_zero])
    refine wpAnyH_take (i := 14) (v := ?_) rfl (by kernel_rfl) (by kernel_rfl) (by kernel_rfl) (fun _ _ _ h => h) (Or.inl ⟨by rfl, ?_⟩) (by assumption) ?_
    rotate_left
    · ((intro w hSw); (try dsimp only at hSw); (obtain ⟨hl0, hc0, hc1⟩ := hSw); (try simp only [List.getElem_toArray, List.getElem_cons_succ, List.getElem_cons_zero]); (go_simp); (try with_reducible rfl))
    (try simp only [Act.put, List.setIfInBounds_toArray, List.set_cons_zero, List.set_cons_succ, List.getElem_toArray, List.getElem_cons_succ, List.getElem_cons_zero])
    refine wpAnyH_take (i := 15) (v := ?_) rfl (by kernel_rfl) (by kernel_rfl) (by kernel_rfl) (fun _ _ _ h => h) (Or.inl ⟨by rfl, ?_⟩) (by assumption) ?_
    rotate_left
    · ((intro w hSw); (try dsimp only at hSw); (obtain ⟨hl0, hc0, hc1⟩ := hSw); (try simp only [List.getElem_toArray, List.getElem_cons_succ, List.getElem_cons_zero]); (go_simp); (try with_reducible rfl))
    (try simp only [Act.put, List.setIfInBounds_toArray, List.set_cons_zero, List.set_cons_succ, List.getElem_toArray, List.getElem_cons_succ, List.getElem_cons_zero])
    refine wpAnyH_take (i := 16) (v := ?_) rfl (by kernel_rfl) (by kernel_rfl) (by kernel_rfl) (fun _ _ _ h => h) (Or.inl ⟨by rfl, ?_⟩) (by assumption) ?_
    rotate_left
    · ((intro w hSw); (try dsimp only at hSw); (obtain ⟨hl0, hc0, hc1⟩ := hSw); (try simp only [List.getElem_toArray, List.getElem_cons_succ, List.getElem_cons_zero]); (go_simp); (try with_reducible rfl))
    (try simp only [Act.put, List.setIfInBounds_toArray, List.set_cons_zero, List.set_cons_succ, List.getElem_toArray, List.getElem_cons_succ, List.getElem_cons_zero])
    refine wpAnyH_take (i := 17) (v := ?_) rfl (by kernel_rfl) (by kernel_rfl) (by kernel_rfl) (fun _ _ _ h => h) (Or.inl ⟨by rfl, ?_⟩) (by assumption) ?_
    rotate_left
    · ((intro w hSw); (try dsimp only at hSw); (obtain ⟨hl0, hc0, hc1⟩ := hSw); (try simp only [List.getElem_toArray, List.getElem_cons_succ, List.getElem_cons_zero]); (go_simp); (try with_reducible rfl))
    (try simp only [Act.put, List.setIfInBounds_toArray, List.set_cons_zero, List.set_cons_succ, List.getElem_toArray, List.getElem_cons_succ, List.getElem_cons_zero])
    refine wpAnyH_take (i := 18) (v := ?_) rfl (by kernel_rfl) (by kernel_rfl) (by kernel_rfl) (fun _ _ _ h => h) (Or.inl ⟨by rfl, ?_⟩) (by assumption) ?_
    rotate_left
    · ((intro w hSw); (try dsimp only at hSw); (obtain ⟨hl0, hc0, hc1⟩ := hSw); (try simp only [List.getElem_toArray, List.getElem_cons_succ, List.getElem_cons_zero]); (go_simp); (try with_reducible rfl))
    (try simp only [Act.put, List.setIfInBounds_toArray, List.set_cons_zero, List.set_cons_succ, List.getElem_toArray, List.getElem_cons_succ, List.getElem_cons_zero])
    refine wpAnyH_ready (rs := [19]) (by kernel_rfl) (by simp) ?_
    refine AllReadyH.cons rfl (fun K hK => ?_) AllReadyH.nil
    (try simp only [List.getElem_toArray, List.getElem_cons_succ, List.getElem_cons_zero])
    go_simp
    go_at_call 24
    (try rw [ew2])
    refine (HP.out 1).mono ?_
    rintro e X ⟨rfl, r⟩
    have hr0 := r
    obtain ⟨V2, h2, -, -⟩ := hr0
    have hSX : c < X.heap.size ∧ X.cell? ⟨c, 0, none⟩ = some (.int .i64 s.now) ∧ X.cell? ⟨c, 1, none⟩ = some (.int .i64 (s.last + 1)) := ⟨h2.lt, h2.cell.1, h2.cell.2.1⟩
    have HZ := Lib.hid (And.intro (CKR.then (HB.out 1) (fun _ x => .inl x) r) (And.intro h2 trivial))
    (try go_wp2_with fail)
    refine hK.out _ _ ?_ (fun hHeld => ?_)
    · ((try dsimp only); exact hSX)
    clear hK K
    (try simp only [Act.put, List.setIfInBounds_toArray, List.set_cons_zero, List.set_cons_succ, List.getElem_toArray, List.getElem_cons_succ, List.getElem_cons_zero])
    refine wpAnyH_done (by kernel_rfl) ?_ _
    refine NoPanic.normal ?_
    clear hSD hHeld hSX r h2 HP HB HC HF c0 c1 c2 hlt
    have c1 := HZ.out.2.1.cell.2.1
    have hlt := HZ.out.2.1.lt
    go_wp2_with fail
    go_ret2
    exact ⟨rfl, HZ.out.1⟩
end Go.Proofs.Ytfelmnhhldgobaa
