/- What package rect's Cut does: a rectangle is parted by the first sizes. -/
import Derived.Test.YtpmggljdcbbdfaaWalks6
import Derived.Test.YtpmggljdcbbdfaaMath2
import Derived.OwnWalk
import Derived.LoopTactic
namespace Go.Proofs.Ytpmggljdcbbdfaa
open Go.RowKit rm
attribute [local go_sem ↓] Go.wp_at_zero Go.wp_at_succ
attribute [local go_sem ↓ 10000] run_mn run_mx

/-- a rectangle's cells -/
def encR (r : RR) : List Value := [.int .i64 r.x, .int .i64 r.y, .int .i64 r.w, .int .i64 r.h]
def flat (l : List RR) : List Value := l.flatMap encR
theorem flat_length (l : List RR) : (flat l).length = l.length * 4 := by
  induction l with
  | nil => rfl
  | cons r t ih => simp [flat, encR] at *; omega
theorem flat_snoc (l : List RR) (r : RR) : flat (l ++ [r]) = flat l ++ encR r := by simp [flat]
theorem own_mono {w : World} {b b' : Nat} {e : TypeId} {size : Nat} {v : Value} {n : Nat} {xs : List Value} (h : w.ownsRow b e size v n xs) (hb : b' ≤ b) : w.ownsRow b' e size v n xs :=
  ⟨h.1, h.2.imp id fun ⟨g, cap, cur, h1, h2, h3⟩ => ⟨g, cap, cur, h1, Nat.le_trans hb h2, h3⟩⟩
theorem own_below {w w' : World} {b : Nat} {e : TypeId} {size : Nat} {v : Value} {n : Nat} {xs : List Value} (h : w.ownsRow b e size v n xs) {B : Nat} (hb : Below B w w') (hB : w.heap.size ≤ B) : w'.ownsRow b e size v n xs :=
  ⟨h.1, h.2.imp id fun ⟨g, cap, cur, h1, h2, h3, h4⟩ => ⟨g, cap, cur, h1, h2, (hb.block g (Nat.lt_of_lt_of_le (by
    rcases Nat.lt_or_ge g w.heap.size with hlt | hge
    · exact hlt
    · rw [Array.getElem?_eq_none hge] at h3; cases h3) hB)).trans h3, h4⟩⟩
theorem own_setCell {w : World} {b : Nat} {e : TypeId} {size : Nat} {v : Value} {n : Nat} {xs : List Value} (h : w.ownsRow b e size v n xs) {p : Addr} (hne : v.ownBlock ≠ some p.block) (u : Value) : (w.setCell p u).ownsRow b e size v n xs :=
  ⟨h.1, h.2.imp id fun ⟨g, cap, cur, h1, h2, h3, h4⟩ => ⟨g, cap, cur, h1, h2, (Below.heap_setCell w p u g (fun e => hne (by subst h1; simp [Value.ownBlock, e]))).trans h3, h4⟩⟩
theorem own_put {w : World} {b : Nat} {e : TypeId} {size : Nat} {v : Value} {n : Nat} {xs : List Value} (h : w.ownsRow b e size v n xs) {k : Nat} (hne : v.ownBlock ≠ some k) (a1 a2 a3 a4 : Int) : (((((World.setCell w ⟨k, 0, none⟩ (.int .i64 a1)).setCell ⟨k, 1, none⟩ (.int .i64 a2)).setCell ⟨k, 2, none⟩ (.int .i64 a3)).setCell ⟨k, 3, none⟩ (.int .i64 a4))).ownsRow b e size v n xs :=
  own_setCell (own_setCell (own_setCell (own_setCell h (p := ⟨k, 0, none⟩) hne _) (p := ⟨k, 1, none⟩) hne _) (p := ⟨k, 2, none⟩) hne _) (p := ⟨k, 3, none⟩) hne _
theorem news_cells (W : World) (r : RR) (n : Nat) (hn : n = W.heap.size) (j : Nat) (u : Value) (h : (encR r)[j]? = some u) : (W.alloc (rc r.x r.y r.w r.h)).cell? ((⟨n, 0, none⟩ : Addr).add j) = some u := by
  subst hn
  have H := RectAt.new W r.x r.y r.w r.h 23
  match j, h with
  | 0, h => simp [encR] at h; subst h; simp [Addr.add]
  | 1, h => simp [encR] at h; subst h; simp [Addr.add]
  | 2, h => simp [encR] at h; subst h; simp [Addr.add]
  | 3, h => simp [encR] at h; subst h; simp [Addr.add]
  | j + 4, h => simp [encR] at h
theorem encR_one (r : RR) (u : Value) (h : u ∈ encR r) : u.oneCell' = true := by
  simp [encR] at h; rcases h with rfl | rfl | rfl | rfl <;> rfl
theorem RectAt.grown {w w' : World} {b : Nat} {x y ww h : Int} (H : RectAt w b x y ww h) {row : Option Nat} (hg : w.grownBy w' row) (hne : some b ≠ row) : RectAt w' b x y ww h := by
  have hbk := hg.block b H.lt hne
  have hc : ∀ i, w'.cell? ⟨b, i, none⟩ = w.cell? ⟨b, i, none⟩ := fun i => World.cell?_of_block hbk
  have hf : ∀ i, w'.frozen? ⟨b, i, none⟩ = w.frozen? ⟨b, i, none⟩ := fun i => World.frozen?_of_block hbk
  exact ⟨Nat.lt_of_lt_of_le H.lt hg.size, (hc 0).trans H.k0, (hc 1).trans H.k1, (hc 2).trans H.k2, (hc 3).trans H.k3, (hf 0).trans H.f0, (hf 1).trans H.f1, (hf 2).trans H.f2, (hf 3).trans H.f3⟩
theorem info23 : (Try.prog.info? 23).map (fun i => (i.zero, i.size, i.bytes)) = some (some (.agg #[.int .i64 0, .int .i64 0, .int .i64 0, .int .i64 0]), 4, 32) := by kernel_rfl

set_option maxHeartbeats 1600000 in
theorem cut_some (x y ww h : Int) (b off len cap : Nat) (zs : List Int) (ac : Bool) (w : World) (hc : ∀ k, k < len → w.cell? ⟨b, off + k, none⟩ = some (.int .i64 (zs.getD k 0))) (hb : b < w.heap.size) (hl : zs.length = len) (hcap : len ≤ cap) :
    Calls Try.prog 27 #[(.agg #[.int .i64 x, .int .i64 y, .int .i64 ww, .int .i64 h]), .slice (some ⟨b, off, none⟩) len cap, .bool ac] w fun e w' =>
      ∃ v, e = .returned v ∧ w'.ownsRow w.heap.size 23 4 v (min len 16) (flat (cutL ac (clean ⟨x, y, ww, h⟩) (zs.take 16))) ∧ Below w.heap.size w w' := by
  obtain ⟨i0, hi, hz0, hz1, hz2⟩ := info_parts info23
  have hm16 : mn (len : Int) 16 = ((min len 16 : Nat) : Int) := by unfold mn; omega
  generalize hmm : min len 16 = m at *
  have hmlen : m ≤ len := by omega
  have hm16' : m ≤ 16 := by omega
  have HMM := Lib.hid hmm; clear hmm
  have HL := Lib.hid hl; clear hl
  go_enter Try.func27, Try.ntmps27
  go_wp2_with fail
  refine (clean_any _ _ _ _ _).mono ?_
  rintro e w1 ⟨p, q, s, t, rfl, hc1, hb1⟩
  go_wp2_with fail
  have r1 := RectAt.new w1 p q s t 23
  have h1 := (((Below.refl _ _).alloc (Nat.le_refl _) (rc x y ww h)).trans (hb1.mono (by simp)))
  have hW := h1.alloc h1.size (rc p q s t)
  have hsz1 : w.heap.size < w1.heap.size := by have := hb1.size; simp at this; omega
  have hP : (w1.alloc (rc p q s t)).heap.size = w1.heap.size + 1 := by simp
  have HP := Lib.hid hP; clear hP
  have hbd : Bd ⟨p, q, s, t⟩ := by rw [show (⟨p, q, s, t⟩ : RR) = _ from hc1]; exact bd_clean _
  generalize (w1.alloc (rc p q s t)) = W at *
  generalize w1.heap.size = P7 at *
  clear hb1 h1
  have hzl : (zs.take 16).length = m := by rw [List.length_take, HL.out, ← HMM.out]; omega
  have HZ := Lib.hid hzl; clear hzl
  go_loopw [8, 20] (fun v i wr => ∃ (k : Nat) (vv : Value), vv = v ∧ k ≤ m ∧ i = .int .i64 k ∧ wr.ownsRow (P7 + 1) 23 4 vv k (flat (cutL ac ⟨p, q, s, t⟩ ((zs.take 16).take k))) ∧
      RectAt wr P7 (cutR ac ⟨p, q, s, t⟩ ((zs.take 16).take k)).x (cutR ac ⟨p, q, s, t⟩ ((zs.take 16).take k)).y (cutR ac ⟨p, q, s, t⟩ ((zs.take 16).take k)).w (cutR ac ⟨p, q, s, t⟩ ((zs.take 16).take k)).h ∧ Below w.heap.size w wr)
    (fun _ i _ => m - (intOf i).toNat)
  case atStart => exact ⟨0, _, rfl, Nat.zero_le _, rfl, World.ownsRow_nil _ _ _ _, by simpa [cutR] using r1, hW⟩
  case round =>
    obtain ⟨k, v, rfl, hk, rfl, hown, hr, hbel⟩ := hrel
    have hbk : Bd (cutR ac ⟨p, q, s, t⟩ ((zs.take 16).take k)) := bd_cutR ac _ _ hbd
    by_cases hlt : k < m
    · have hkz : k < (zs.take 16).length := by rw [HZ.out]; exact hlt
      have htk := Lib.hid (take_snoc (zs.take 16) k hkz)
      have hget : (zs.take 16).getD k 0 = zs.getD k 0 := by simp only [List.getD, List.getElem?_take]; rw [if_pos (by omega)]
      have HG := Lib.hid hget; clear hget hkz
      have hcell : wr.cell? ⟨b, off + k, none⟩ = some (.int .i64 (zs.getD k 0)) := (hbel.cell (p := ⟨b, off + k, none⟩) hb).trans (hc k (by omega))
      generalize hR : cutR ac ⟨p, q, s, t⟩ ((zs.take 16).take k) = R at *
      generalize hL : cutL ac ⟨p, q, s, t⟩ ((zs.take 16).take k) = L at *
      have HR := Lib.hid hR; clear hR
      have HL' := Lib.hid hL; clear hL
      obtain ⟨rx, ry, rw', rh⟩ := R
      obtain ⟨bd1, bd2, bd3, bd4⟩ := hbk
      dsimp only at hr bd1 bd2 bd3 bd4
      generalize zs.getD k 0 = z at *
      obtain ⟨u0, k0, k1, k2, k3, f0, f1, f2, f3⟩ := (id hr : RectAt _ _ _ _ _ _)
      go_wp2_with fail
      have hownlt := hown.lt
      have r11 := RectAt.new wr 0 0 0 0 23
      have hra := hr.alloc (rc 0 0 0 0)
      have howna := hown.alloc (rc 0 0 0 0)
      have hbela := hbel.alloc hbel.size (rc 0 0 0 0)
      have hne1 : v.ownBlock ≠ some wr.heap.size := fun e => by have := hownlt _ e; omega
      have hne2 : v.ownBlock ≠ some P7 := fun e => by have := hownlt _ e; omega
      have hN : P7 < wr.heap.size := u0
      have hw0 : w.heap.size ≤ wr.heap.size := by have := hbel.size; omega
      clear hr hown hownlt hbel
      have hsa : (wr.alloc (rc 0 0 0 0)).heap.size = wr.heap.size + 1 := by simp
      have HSA := Lib.hid hsa; clear hsa
      refine (split_any _ _ _ _ _ _ bd1 bd2 bd3 bd4 _).mono ?_
      rintro e w2 ⟨a, b', c, d, a', b'', c', d', rfl, hlead, hrem, hb2⟩
      have q11 := RectAt.below r11 hb2 r11.lt
      have q7 := RectAt.below hra hb2 hra.lt
      have hown2 := own_below howna hb2 (Nat.le_refl _)
      have hbel2 := hbela.trans (hb2.mono (by rw [HSA.out]; omega))
      clear r11 hra howna hbela k0 k1 k2 k3 f0 f1 f2 f3
      generalize wr.heap.size = N at *
      obtain ⟨v0, k0, k1, k2, k3, f0, f1, f2, f3⟩ := (id q7 : RectAt _ _ _ _ _ _)
      obtain ⟨v1, l0, l1, l2, l3, g0, g1, g2, g3⟩ := (id q11 : RectAt _ _ _ _ _ _)
      have nn : ¬ N = P7 := by omega
      have nn' : ¬ P7 = N := by omega
      have hownX := own_put (own_put hown2 hne1 a b' c d) hne2 a' b'' c' d'
      have s7 := (q7.other (b' := N) nn' a b' c d).put a' b'' c' d'
      have hbelX := below_put (below_put hbel2 (b := N) hw0 a b' c d) (b := P7) (by omega) a' b'' c' d'
      have hXs : (((((World.setCell ((((World.setCell w2 ⟨N, 0, none⟩ (.int .i64 a)).setCell ⟨N, 1, none⟩ (.int .i64 b')).setCell ⟨N, 2, none⟩ (.int .i64 c)).setCell ⟨N, 3, none⟩ (.int .i64 d)) ⟨P7, 0, none⟩ (.int .i64 a')).setCell ⟨P7, 1, none⟩ (.int .i64 b'')).setCell ⟨P7, 2, none⟩ (.int .i64 c')).setCell ⟨P7, 3, none⟩ (.int .i64 d'))).heap.size = w2.heap.size := by simp [World.setCell]
      have HXS := Lib.hid hXs; clear hXs
      have hnews := news_cells (((((World.setCell ((((World.setCell w2 ⟨N, 0, none⟩ (.int .i64 a)).setCell ⟨N, 1, none⟩ (.int .i64 b')).setCell ⟨N, 2, none⟩ (.int .i64 c)).setCell ⟨N, 3, none⟩ (.int .i64 d)) ⟨P7, 0, none⟩ (.int .i64 a')).setCell ⟨P7, 1, none⟩ (.int .i64 b'')).setCell ⟨P7, 2, none⟩ (.int .i64 c')).setCell ⟨P7, 3, none⟩ (.int .i64 d'))) ⟨a, b', c, d⟩ w2.heap.size HXS.out.symm
      have hXlt : P7 + 1 ≤ (((((World.setCell ((((World.setCell w2 ⟨N, 0, none⟩ (.int .i64 a)).setCell ⟨N, 1, none⟩ (.int .i64 b')).setCell ⟨N, 2, none⟩ (.int .i64 c)).setCell ⟨N, 3, none⟩ (.int .i64 d)) ⟨P7, 0, none⟩ (.int .i64 a')).setCell ⟨P7, 1, none⟩ (.int .i64 b'')).setCell ⟨P7, 2, none⟩ (.int .i64 c')).setCell ⟨P7, 3, none⟩ (.int .i64 d'))).heap.size := by rw [HXS.out]; omega
      have HN := Lib.hid hnews; clear hnews
      have HO := Lib.hid hownX; clear hownX
      have HX := Lib.hid hXlt; clear hXlt
      go_wp2_with (at_builtin; refine wpList_append_own _ rfl (.tmp 31) (.tmp 33) 36 rfl (P7 + 1) 23 i0 _ 4 32 Try.underlying36 hi hz0 hz1 hz2 rfl (by decide) _ k _ rfl (HO.out.alloc _) ⟨w2.heap.size, 0, none⟩ 1 1 (encR ⟨a, b', c, d⟩) rfl rfl HN.out (encR_one _) (by unfold maxLen; omega) (by omega) (Nat.le_trans HX.out (by simp)) ?_; intro v' w' hown' hgrow _)
      have z7 := (s7.alloc (rc a b' c d)).grown hgrow (fun e => hne2 e.symm)
      have hbelF := (hbelX.alloc hbelX.size (rc a b' c d)).grown hgrow (Nat.le_trans hbelX.size (by simp)) (fun kk hkk => by have := HO.out.lt kk hkk; omega)
      go_roundw
      case rel =>
        refine ⟨k + 1, v', rfl, by omega, by go_num, ?_, ?_, hbelF⟩
        · rw [htk.out, cutL_snoc, HR.out, HL'.out, HG.out, flat_snoc, ← hlead]; exact hown'
        · rw [htk.out, cutR_snoc, HR.out, HG.out, ← hrem]; exact z7
      case measure => simp [intOf]; omega
    · go_wp2
      go_ret
      have hkm : k = m := by omega
      subst hkm
      have e16 : (zs.take 16).take k = zs.take 16 := List.take_of_length_le (by rw [HZ.out]; exact Nat.le_refl _)
      rw [e16] at hown
      refine ⟨v, rfl, own_mono (b := P7 + 1) ?_ (by omega), hbel⟩
      rw [show (clean ⟨x, y, ww, h⟩) = ⟨p, q, s, t⟩ from hc1.symm]
      exact hown

set_option maxHeartbeats 400000 in
theorem cut_none (x y ww h : Int) (ac : Bool) (w : World) :
    Calls Try.prog 27 #[(.agg #[.int .i64 x, .int .i64 y, .int .i64 ww, .int .i64 h]), .slice none 0 0, .bool ac] w fun e w' =>
      e = .returned (.slice none 0 0) ∧ Below w.heap.size w w' := by
  have hm16 : mn ((0 : Nat) : Int) 16 = ((0 : Nat) : Int) := by unfold mn; omega
  have hm16' : mn 0 16 = 0 := by unfold mn; omega
  go_enter Try.func27, Try.ntmps27
  go_wp2_with fail
  refine (clean_any _ _ _ _ _).mono ?_
  rintro e w1 ⟨p, q, s, t, rfl, hc1, hb1⟩
  go_wp2_with fail
  refine wp_loop_rounds 1 ?_; rw [rounds_succ]
  go_wp2
  go_ret
  exact ⟨rfl, ((((Below.refl _ _).alloc (Nat.le_refl _) _).trans (hb1.mono (by simp))).alloc (by have := hb1.size; simp at this; omega) _)⟩

end Go.Proofs.Ytpmggljdcbbdfaa
