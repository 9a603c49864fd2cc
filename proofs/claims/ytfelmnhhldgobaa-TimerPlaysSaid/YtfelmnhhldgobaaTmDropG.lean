/- A clock's Stop and Drop, whatever it holds. -/
import Derived.Test.YtfelmnhhldgobaaTmDel
namespace Go.Proofs.Ytfelmnhhldgobaa
open Go.RowKit
set_option maxHeartbeats 400000 in
theorem index0_any (o : Option Addr) (cap : Nat) (f : Value) (w : World) : Calls Try.prog 27 #[.slice o 0 cap, f] w fun e w' => e = .returned (.int .i64 (-1)) ∧ w' = w := by
  go_enter Try.func27, Try.ntmps27
  go_wp2_with fail
  go_loopg [8] 0 (fun _ s8 wr => s8 = .int .i64 0 ∧ wr = w)
  case atStart => exact ⟨rfl, rfl⟩
  case round =>
    obtain ⟨rfl, rfl⟩ := hrel
    go_wp2_with fail
    go_ret
    exact ⟨rfl, rfl⟩
set_option maxHeartbeats 400000 in
theorem del0_any (o : Option Addr) (cap : Nat) (f : Value) (w : World) : Calls Try.prog 30 #[.slice o 0 cap, f] w fun e w' => e = .returned (.slice o 0 cap) ∧ w' = w := by
  have HI := Lib.hid (index0_any o cap f w)
  go_enter Try.func30, Try.ntmps30
  go_wp2_with fail
  with_reducible refine HI.out.mono ?_
  rintro e w' ⟨rfl, hw⟩
  replace hw := hw.symm
  subst hw
  go_wp2_with fail
  go_ret
  exact ⟨rfl, rfl⟩
set_option maxHeartbeats 800000 in
theorem stop_all (c : Nat) (V : Value) (s : tm.St) (x : Int) (w : World) (h : CS w c V s) (hlen : s.l.length ≤ 64) (R : Int × tm.St) (hR : tm.stopR s x = R) : Calls Try.prog 11 #[.pointer (some ⟨c, 0, none⟩), .int .i64 x] w fun e w' => e = .returned (.int .i64 R.1) ∧ CSR c V w w' R.2 := by
  by_cases hl : 0 < s.l.length
  · exact stop_any c V s x w h hlen hl R hR
  · have hl0 : s.l.length = 0 := by omega
    have b1 := below_one w (.cells #[.int .i64 x] 3)
    have h1 := h.below b1
    obtain ⟨-, -, c2⟩ := h1.cell
    have hlt := h1.lt
    obtain ⟨o, cap, rfl⟩ := h1.slice
    rw [hl0] at c2
    have HE : Hid (R = (5, s)) := Lib.hid (by rw [← hR]; unfold tm.stopR; rw [List.length_eq_zero_iff.1 hl0]; rfl)
    have HI := Lib.hid (index0_any o cap (.func (.func 28) #[] #[.pointer (some ⟨w.heap.size, 0, none⟩)]) (w.alloc (.cells #[.int .i64 x] 3)))
    have HH := Lib.hid (And.intro h1 b1)
    clear h h1 b1 hR
    go_enter Try.func11, Try.ntmps11
    go_wp2_with fail
    with_reducible refine HI.out.mono ?_
    rintro e w' ⟨rfl, hw⟩
    replace hw := hw.symm
    subst hw
    go_wp2_with fail
    go_ret
    obtain rfl := HE.out.symm
    exact ⟨rfl, CKR.after HH.out.2 (CKR.same HH.out.1)⟩
theorem CK.setQ {w : World} {c g n m cap cap0 : Nat} {now last : Int} {l L : List tm.T} {W : World} (h : CK w c now last (.slice (some ⟨g, 0, none⟩) n cap0) l) (hq : QIn W g m cap L) (hf : Fr (fun k => k = g) w W) (hcg : c < g) : W.heap[c]? = some (.cells #[.int .i64 now, .int .i64 last, .slice (some ⟨g, 0, none⟩) n cap0] 65 (0, 0)) ∧ CK (W.setCell ⟨c, 2, none⟩ (.slice (some ⟨g, 0, none⟩) m cap)) c now last (.slice (some ⟨g, 0, none⟩) m cap) L := by
  have hck : W.heap[c]? = some (.cells #[.int .i64 now, .int .i64 last, .slice (some ⟨g, 0, none⟩) n cap0] 65 (0, 0)) := (hf.block c h.lt (by omega)).trans h.ck
  exact ⟨hck, heap_setCell_same W c 2 _ _ _ hck, own_keep (hq.row (B := c + 1) (by omega)) fun g _ hB _ _ _ => Below.heap_setCell _ _ _ g (by simp only; omega)⟩
def tm.dropR (s : tm.St) (x : Int) : tm.St := ⟨s.now, s.last, tm.init (tm.kp x s.l)⟩
set_option maxRecDepth 100000 in
set_option maxHeartbeats 800000 in
theorem drop_all (c : Nat) (V : Value) (s : tm.St) (x : Int) (w : World) (h : CS w c V s) (hlen : s.l.length ≤ 64) (R : tm.St) (hR : tm.dropR s x = R) : Calls Try.prog 13 #[.pointer (some ⟨c, 0, none⟩), .int .i64 x] w fun e w' => e = .returned (.int .i64 ((s.l.length : Int) - ((tm.kp x s.l).length : Int))) ∧ CSR c V w w' R := by
  have b1 := below_one w (.cells #[.int .i64 x] 3)
  have a1 := heap_alloc_new w (.cells #[.int .i64 x] 3)
  have h1 := h.below b1
  have hkl : (tm.kp x s.l).length ≤ s.l.length := List.length_filter_le _ _
  obtain ⟨n, hn⟩ : ∃ n, s.l.length = n := ⟨_, rfl⟩
  obtain ⟨m, hm⟩ : ∃ m, (tm.kp x s.l).length = m := ⟨_, rfl⟩
  have HN := Lib.hid (And.intro hn hm)
  -- where the queue lies, and what DeleteFunc makes of it
  have HD : Hid (∃ o cap, V = .slice o n cap ∧ ∀ f : Value, f = .func (.func 31) #[] #[.pointer (some ⟨w.heap.size, 0, none⟩)] → Calls Try.prog 30 #[.slice o n cap, f] (w.alloc (.cells #[.int .i64 x] 3)) fun e w2 => e = .returned (.slice o m cap) ∧ w2.heap[c]? = some (.cells #[.int .i64 s.now, .int .i64 s.last, .slice o n cap] 65 (0, 0)) ∧ CK (w2.setCell ⟨c, 2, none⟩ (.slice o m cap)) c s.now s.last (.slice o m cap) (tm.kp x s.l) ∧ Fr (OwnC c (.slice o n cap)) w w2) := Lib.hid (by
    by_cases hl : 0 < s.l.length
    · obtain ⟨g, cap, rfl, hcg, hq⟩ := h1.hq hl
      refine ⟨_, cap, by rw [hn], fun f hf => ?_⟩
      subst hf
      rw [← hn]
      have hg := h.own_lt (y := g) (.inr rfl)
      refine (del_any g s.l.length cap s.l w.heap.size x _ hq.q ((cell_of_heap a1).trans rfl) (heap_lt a1) (by omega) (by omega)).mono ?_
      rintro e w2 ⟨rfl, q2, f2⟩
      obtain ⟨k1, k2⟩ := CK.setQ h1 q2 f2 hcg
      rw [hm] at k2 ⊢
      exact ⟨rfl, k1, k2, (Fr.of_below b1 _).then (fr_g_own f2)⟩
    · have hl0 : s.l = [] := List.length_eq_zero_iff.1 (by omega)
      obtain rfl : n = 0 := by rw [← hn, hl0]; rfl
      obtain rfl : m = 0 := by omega
      obtain ⟨o, cap, rfl⟩ := h1.slice
      have hls : s.l.length = 0 := hn
      refine ⟨o, cap, by rw [hls], fun f hf => (del0_any o cap f _).mono ?_⟩
      rintro e w2 ⟨rfl, rfl⟩
      have hk0 : tm.kp x s.l = [] := by rw [hl0]; rfl
      have hck := h1.ck
      rw [hls] at hck
      have hrow := h1.row
      rw [hls] at hrow
      refine ⟨rfl, hck, ⟨heap_setCell_same _ c 2 _ _ _ hck, ?_⟩, Fr.of_below b1 _⟩
      rw [hk0]
      rw [hl0] at hrow
      exact own_keep hrow fun g _ hB _ _ _ => Below.heap_setCell _ _ _ g (by simp only; omega))
  obtain ⟨o, cap, rfl, hD⟩ := HD.out
  have HDel := Lib.hid (hD _ rfl)
  obtain ⟨-, -, c2⟩ := h1.cell
  have hlt := h1.lt
  have HH := Lib.hid (And.intro h1 b1)
  have HRR := Lib.hid hR
  obtain ⟨K, hK⟩ : ∃ K, tm.kp x s.l = K := ⟨_, rfl⟩
  rw [hK] at HDel
  have HK := Lib.hid hK
  rw [hn] at hlen
  rw [hn, hm] at hkl ⊢
  clear h a1 hD HD hR hm hK hn
  go_enter Try.func13, Try.ntmps13
  go_upto_region 1 with fail
  obtain ⟨W, hW⟩ : ∃ W, w.alloc (.cells #[.int .i64 x] 3) = W := ⟨_, rfl⟩
  change Code.wp _ _ _ _ (w.alloc (.cells #[.int .i64 x] 3))
  rw [hW] at HDel HH c2 hlt ⊢
  clear hW b1 h1
  go_wp2_with fail
  with_reducible refine HDel.out.mono ?_
  rintro e w2 ⟨rfl, k1, k2, f2⟩
  have HS := Lib.hid (And.intro k1 k2)
  have HF : Hid (Fr (OwnC c (.slice o n cap)) w (w2.setCell ⟨c, 2, none⟩ (.slice o m cap))) := Lib.hid (f2.setCell _ _ (.inr (.inl rfl)))
  clear k1 k2 f2 c2 hlt HDel
  have c2 : w2.cell? ⟨c, 2, none⟩ = some (.slice o n cap) := (cell_of_heap HS.out.1).trans rfl
  have f2 := thaw (k := 2) HS.out.1
  have hlt := heap_lt HS.out.1
  go_upto_region 3 with fail
  obtain ⟨W3, hW⟩ : ∃ W, w2.setCell ⟨c, 2, none⟩ (.slice o m cap) = W := ⟨_, rfl⟩
  change Code.wp _ _ _ _ (w2.setCell ⟨c, 2, none⟩ (.slice o m cap))
  rw [hW] at HS HF ⊢
  clear hW c2 f2 hlt
  have hlt := HS.out.2.lt
  have HI := Lib.hid (hinit_any c s.now s.last _ K W3 HS.out.2 (by rw [← HK.out, HN.out.2]; omega))
  go_wp2_with fail
  with_reducible refine HI.out.mono ?_
  rintro e w4 ⟨rfl, V4, h4, f4, o4⟩
  have c4 := h4.cell.2.2
  obtain ⟨oV, cV, rfl⟩ := h4.slice
  have hli : (tm.init K).length = m := by rw [(tm.init_perm K).length_eq, ← HK.out]; exact HN.out.2
  rw [hli] at c4
  have hl4 := h4.lt
  have HZ : Hid (CSR c (.slice o n cap) w w4 R) := Lib.hid (by
    rw [← HRR.out]
    unfold tm.dropR
    rw [HK.out]
    have hob : (Value.slice o m cap).ownBlock = (Value.slice o n cap).ownBlock := by cases o <;> rfl
    refine ⟨_, h4, HF.out.trans f4 (fun k _ y => ?_), fun y hy => ?_⟩
    · rcases y with rfl | y
      · exact .inl rfl
      · exact .inr (hob ▸ y)
    · rcases o4 y hy with a | a
      · rcases a with rfl | a
        · exact .inl (.inl rfl)
        · exact .inl (.inr (hob ▸ a))
      · exact .inr (Nat.le_trans HF.out.size a))
  have ew : wrap64 ((n : Int) - (m : Int)) = (n : Int) - (m : Int) := by unfold wrap64; omega
  clear h4 f4 o4 HI hlt hli
  go_wp2_with fail
  go_ret
  exact ⟨rfl, HZ.out⟩
end Go.Proofs.Ytfelmnhhldgobaa
