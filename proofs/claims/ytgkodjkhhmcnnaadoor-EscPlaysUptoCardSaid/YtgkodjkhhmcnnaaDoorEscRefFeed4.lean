/- The document's parser, twelfth part: Feed, Idle. -/
import Derived.Test.YtgkodjkhhmcnnaaDoorEscRefBytes
namespace Go.Proofs.YtgkodjkhhmcnnaaDoor
open Go.RowKit
/-- a frame that leaves all that is no row of acts -/
theorem B8.acts {w w' : World} {o : Option Addr} {n c : Nat} {l : List UInt8} (h : B8 w o n c l) (hs : w.heap.size ≤ w'.heap.size) (hk : ∀ (k : Nat) (ob : Obj), w.heap[k]? = some ob → (∀ c, ob ≠ Obj.cells c 45 (0, 0)) → w'.heap[k]? = some ob) : B8 w' o n c l := by
  have ht : n ≠ 0 → ∀ a, o = some a → w'.heap[a.block]? = w.heap[a.block]? := fun h0 a ha => by
    obtain ⟨cs', fr', e'⟩ := h.t h0 a ha
    rw [e']
    exact hk _ _ e' (fun c e => absurd (Obj.cells.inj e).2.1 (by decide))
  refine ⟨?_, fun h0 a ha => ?_⟩
  · by_cases h0 : n = 0
    · exact ⟨h.b.len, h.b.le, h.b.max, .inl h0⟩
    · exact h.b.same (fun k hk' off hoff => ht h0 _ hoff) hs
  · obtain ⟨cs', fr', e'⟩ := h.t h0 a ha
    exact ⟨cs', fr', (ht h0 a ha).trans e'⟩
/-- a row of acts' own block holds acts -/
theorem ActsAt.own_act {w : World} {B : Nat} {V : Value} {l : List es.Act} (h : ActsAt w B V l) {k : Nat} (hk : V.ownBlock = some k) : B ≤ k ∧ k < w.heap.size ∧ ∃ c, w.heap[k]? = some (.cells c 45 (0, 0)) := by
  obtain ⟨L, h1, h2, h3⟩ := h
  rcases h2.2 with ⟨rfl, h0⟩ | ⟨g, cap, cur, rfl, hB, hg, hc, hm, _⟩
  · cases hk
  · obtain rfl : g = k := by simpa [Value.ownBlock] using hk
    exact ⟨hB, (Array.getElem?_eq_some_iff.1 hg).1, _, hg⟩
/-- where the document's parser stands within Feed: the state t in its block, the acts so far -/
structure FS (w wr : World) (V : Value) (t : rf.St) (acts : List es.Act) : Prop where
  st : ∃ wo wn wq go gn gc, S2 w wr #[.int .i64 t.inn, .slice wo wn wq, .slice go gn gc, .int .u8 t.sign] #[.int .i64 0, .slice none 0 0, .slice none 0 0, .int .u8 0] ∧ B8 wr wo wn wq t.wait ∧ B8 wr go gn gc t.got
  acts : ActsAt wr (w.heap.size + 2) V acts
theorem FS.lt {w wr : World} {V : Value} {t : rf.St} {acts : List es.Act} (h : FS w wr V t acts) : w.heap.size + 1 < wr.heap.size := by
  obtain ⟨_, _, _, _, _, _, h1, _⟩ := h.st
  exact h1.lt
theorem FS.bel {w wr : World} {V : Value} {t : rf.St} {acts : List es.Act} (h : FS w wr V t acts) : Below w.heap.size w wr := by
  obtain ⟨_, _, _, _, _, _, h1, _⟩ := h.st
  exact h1.bel
/-- one byte's acts as they are appended -/
structure FI (w wx wr : World) (V V2 : Value) (P l2 : List es.Act) (j : Nat) : Prop where
  acts : ActsAt wr (w.heap.size + 2) V2 (P ++ l2.take j)
  kept : Kept wx wr (fun k => V.ownBlock = some k)
  own : V2.ownBlock = V.ownBlock ∨ ∃ g, V2.ownBlock = some g ∧ wx.heap.size ≤ g
theorem FI.fs {w wx wr : World} {V V2 : Value} {P l2 : List es.Act} {j : Nat} {t : rf.St} {acts : List es.Act} (h : FI w wx wr V V2 P l2 j) (hx : FS w wx V t acts) : FS w wr V2 t (P ++ l2.take j) := by
  obtain ⟨wo, wn, wq, go, gn, gc, h1, h2, h3⟩ := hx.st
  have hk : ∀ (k : Nat) (ob : Obj), wx.heap[k]? = some ob → (∀ c, ob ≠ Obj.cells c 45 (0, 0)) → wr.heap[k]? = some ob := fun k ob hk hne => by
    refine (h.kept.block k (Array.getElem?_eq_some_iff.1 hk).1 (fun e => ?_)).trans hk
    obtain ⟨_, _, c, hc⟩ := hx.acts.own_act e
    rw [hk] at hc
    exact hne _ (Option.some.inj hc)
  refine ⟨⟨wo, wn, wq, go, gn, gc, ⟨h1.bel.trans ⟨h.kept.os, h.kept.tape, h.kept.output, h.kept.size, fun k hk' => h.kept.block k (by have := h1.lt; omega) (fun e => ?_)⟩, hk _ _ h1.a0 (fun c e => absurd (Obj.cells.inj e).2.1 (by decide)), hk _ _ h1.a1 (fun c e => absurd (Obj.cells.inj e).2.1 (by decide))⟩, h2.acts h.kept.size hk, h3.acts h.kept.size hk⟩, h.acts⟩
  have := (hx.acts.own_act e).1
  omega
theorem Act1.base_le {w : World} {B B' : Nat} {a : es.Act} {o : Option Addr} {cap : Nat} (h : Act1 w B a o cap) (hB : B' ≤ B) : Act1 w B' a o cap := ⟨h.nums, fun h0 d hd => ⟨Nat.le_trans hB (h.own h0 d hd).1, (h.own h0 d hd).2⟩⟩
theorem FI.step {w wx wr w' X : World} {V V2 v' : Value} {P l2 : List es.Act} {j : Nat} (h : FI w wx wr V V2 P l2 j) (hj : j < l2.length) (r1 : ActsAt w' (w.heap.size + 2) v' (P ++ l2.take j ++ [l2.getD j es.act0])) (hX : Below wr.heap.size wr X) (r2 : Kept X w' (fun k => V2.ownBlock = some k)) (r3 : v'.ownBlock = V2.ownBlock ∨ v'.ownBlock = some X.heap.size) : FI w wx w' V v' P l2 (j + 1) := by
  have hs : wx.heap.size ≤ X.heap.size := Nat.le_trans h.kept.size hX.size
  have ht : l2.take (j + 1) = l2.take j ++ [l2.getD j es.act0] := by
    rw [List.take_add_one, List.getElem?_eq_getElem hj]
    simp [List.getD, hj]
  refine ⟨by rw [ht, ← List.append_assoc]; exact r1, (h.kept.trans (Kept.of_below hX (fun _ => False)) (fun _ _ h => h.elim)).trans r2 (fun k hk e => ?_), ?_⟩
  · rcases h.own with h1 | ⟨g, h1, h2⟩
    · rwa [h1] at e
    · rw [h1] at e
      cases e
      omega
  · rcases r3 with h3 | h3
    · rcases h.own with h1 | ⟨g, h1, h2⟩
      · exact .inl (h3.trans h1)
      · exact .inr ⟨g, h3.trans h1, h2⟩
    · exact .inr ⟨_, h3, hs⟩
/-- behind a byte: the state that comes next in a block of its own, what was said -/
structure CF (wr wx : World) (g : Nat) (V2 : Value) (R : rf.St × List es.Act) (zo : Option Addr) (zn zq : Nat) (uo : Option Addr) (un uc : Nat) : Prop where
  blk : wx.heap[g]? = some (.cells #[.int .i64 R.1.inn, .slice zo zn zq, .slice uo un uc, .int .u8 R.1.sign] 36 (0, 0))
  ge : wr.heap.size ≤ g
  bel : Below wr.heap.size wr wx
  b1 : B8 wx zo zn zq R.1.wait
  b2 : B8 wx uo un uc R.1.got
  acts : ActsAt wx wr.heap.size V2 R.2
theorem CF.old {wr w3 : World} {g : Nat} {V2 : Value} {R : rf.St × List es.Act} {zo uo : Option Addr} {zn zq un uc : Nat} (hb : Below wr.heap.size wr w3) (hq : w3.heap[g]? = some (.cells #[.int .i64 0, .slice none 0 0, .slice none 0 0, .int .u8 0] 36 (0, 0))) (hg : wr.heap.size ≤ g) (hA : ActsAt w3 (g + 1) V2 R.2) (h1 : B8 w3 zo zn zq R.1.wait) (h2 : B8 w3 uo un uc R.1.got) :
    CF wr ((((w3.setCell ⟨g, 0, none⟩ (.int .i64 R.1.inn)).setCell ⟨g, 1, none⟩ (.slice zo zn zq)).setCell ⟨g, 2, none⟩ (.slice uo un uc)).setCell ⟨g, 3, none⟩ (.int .u8 R.1.sign)) g V2 R zo zn zq uo un uc := by
  obtain ⟨hg4, hk4⟩ := store4 hq (.int .i64 R.1.inn) (.slice zo zn zq) (.slice uo un uc) (.int .u8 R.1.sign)
  exact ⟨hg4, hg, hb.trans (hk4.below hb.size (fun k hk => by omega)), h1.kept hk4 hq, h2.kept hk4 hq, (hA.keptP hk4 (Nat.lt_succ_self g)).base_le (by omega)⟩
theorem CF.new {wr w3 : World} {V2 : Value} {R : rf.St × List es.Act} {zo uo : Option Addr} {zn zq un uc : Nat} (hb : Below wr.heap.size wr w3) (hA : ActsAt w3 wr.heap.size V2 R.2) (h1 : B8 w3 zo zn zq R.1.wait) (h2 : B8 w3 uo un uc R.1.got) :
    CF wr (w3.alloc (.cells #[.int .i64 R.1.inn, .slice zo zn zq, .slice uo un uc, .int .u8 R.1.sign] 36)) w3.heap.size V2 R zo zn zq uo un uc := by
  have hb4 := below_one w3 (.cells #[.int .i64 R.1.inn, .slice zo zn zq, .slice uo un uc, .int .u8 R.1.sign] 36)
  exact ⟨heap_alloc_new w3 _, hb.size, hb.trans (hb4.mono hb.size), h1.below hb4, h2.below hb4, hA.below hb4⟩
set_option maxRecDepth 100000 in
set_option maxHeartbeats 3200000 in
theorem refFeed4_any (v : Value) (s : rf.St) (o : Option Addr) (n cap : Nat) (l : List UInt8) (w : World) (h : StW w v s) (hx : Bts w o n cap l) (hn : n ≤ 137438953472) (hwt : s.wait.length ≤ 3) (hgt : s.got.length + n ≤ 1099511627776) :
    Calls Tryd.prog 7 #[v, .slice o n cap] w (Said2 (rf.feed s l).1 (rf.feed s l).2 w) := by
  have hmx : cap ≤ 9223372036854775807 := hx.max
  have hle := hx.le
  have hsz := hx.size
  have HX := Lib.hid hx
  clear hx
  obtain ⟨wo, wn, wq, go, gn, gc, rfl, hw8, hg8⟩ := h
  have hw := hw8.b; have hg := hg8.b
  have HW8 := Lib.hid hw8; have HG8 := Lib.hid hg8
  clear hw8 hg8
  have hgl := hg.size
  have HW := Lib.hid hw; have HG := Lib.hid hg
  have HS := Lib.hid (S2.new w #[.int .i64 s.inn, .slice wo wn wq, .slice go gn gc, .int .u8 s.sign] #[.int .i64 0, .slice none 0 0, .slice none 0 0, .int .u8 0])
  clear hw hg
  go_enter Tryd.func7, Tryd.ntmps7
  go_upto_region 1 with fail
  have HSE := Lib.hid (HS.out.below (below_one _ (.cells #[] 45)))
  have HAE := Lib.hid (GA.start (((w.alloc (.cells #[.int .i64 s.inn, .slice wo wn wq, .slice go gn gc, .int .u8 s.sign] 36)).alloc (.cells #[.int .i64 0, .slice none 0 0, .slice none 0 0, .int .u8 0] 36)))).acts
  have HSZ : Hid ((((w.alloc (.cells #[.int .i64 s.inn, .slice wo wn wq, .slice go gn gc, .int .u8 s.sign] 36)).alloc (.cells #[.int .i64 0, .slice none 0 0, .slice none 0 0, .int .u8 0] 36))).heap.size = w.heap.size + 2) := Lib.hid (by simp)
  generalize (w.alloc (.cells #[.int .i64 s.inn, .slice wo wn wq, .slice go gn gc, .int .u8 s.sign] 36)).alloc (.cells #[.int .i64 0, .slice none 0 0, .slice none 0 0, .int .u8 0] 36) = w0 at *
  go_wp2_with fail
  have HF0 : Hid (FS w (w0.alloc (.cells #[] 45)) (.slice (some ⟨w0.heap.size, 0, none⟩) 0 0) (rf.feed s (l.take 0)).1 (rf.feed s (l.take 0)).2) := Lib.hid ⟨⟨_, _, _, _, _, _, HSE.out, HW8.out.below HSE.out.bel, HG8.out.below HSE.out.bel⟩, HAE.out.base_le (by rw [HSZ.out]; exact Nat.le_refl _)⟩
  generalize w0.alloc (.cells #[] 45) = wE at *
  generalize hgz : w0.heap.size = gz at *
  clear hgz HSE HAE HSZ HS HW8 HG8 HW HG
  go_loopg [6, 7] n (fun gg s6 s7 wr => ∃ (k : Nat) (V : Value), V = s6 ∧ s7 = .int .i64 k ∧ k ≤ n ∧ n - k ≤ gg ∧ Hid (FS w wr V (rf.feed s (l.take k)).1 (rf.feed s (l.take k)).2))
  case atStart => exact ⟨0, _, rfl, rfl, Nat.zero_le _, by omega, HF0⟩
  case round =>
    clear HF0
    obtain ⟨k, V, rfl, rfl, hk, hgg, HS⟩ := hrel
    obtain ⟨hsm1, hsm2, hsm3⟩ := rf.feed_small (l.take k) s hwt
    rw [List.length_take] at hsm2 hsm3
    by_cases hlt : k < n
    · obtain ⟨b, off, rfl, hbl, hc⟩ := Bts.byte (HX.out.below HS.out.bel) (by omega)
      have hkl : k < l.length := by omega
      have hck : wr.cell? ⟨b, off + k, none⟩ = some (.int .u8 (l[k].toNat : Nat)) := by rw [hc k hlt]; simp [gl.b, List.getD, hkl]
      have HN : Hid (rf.feed s (l.take (k + 1)) = ((rf.byte (rf.feed s (l.take k)).1 l[k]).1, (rf.feed s (l.take k)).2 ++ (rf.byte (rf.feed s (l.take k)).1 l[k]).2)) := Lib.hid (by
        rw [List.take_add_one, List.getElem?_eq_getElem hkl]
        exact rf.feed_snoc _ _ _)
      generalize l[k] = x at *
      generalize (rf.feed s (l.take k)).1 = t at *
      generalize (rf.feed s (l.take k)).2 = P at *
      have hsb := rf.byte_small t x hsm1
      have hki : (k : Int) < (n : Int) := by omega
      have hpl : P.length ≤ 5 * k := by omega
      have HSM := Lib.hid (And.intro hsm1 (show t.got.length ≤ 1099511627775 by omega))
      have HPL := Lib.hid hpl
      have HSB := Lib.hid hsb.2.2
      clear hc hsm1 hsm2 hsm3 hsb hpl
      obtain ⟨xo, xn, xq, yo, yn, yc, hs2, hb1, hb2⟩ := HS.out.st
      have HST : Hid (∀ W, Below wr.heap.size wr W → StW W (.agg #[.int .i64 t.inn, .slice xo xn xq, .slice yo yn yc, .int .u8 t.sign]) t) := Lib.hid (fun W hW => ⟨_, _, _, _, _, _, rfl, hb1.below hW, hb2.below hW⟩)
      have HS2 := Lib.hid hs2
      have hr := hs2.a0
      have hwl : w.heap.size + 1 < wr.heap.size := hs2.lt
      have hwl0 : w.heap.size < wr.heap.size := by omega
      clear hs2 hb1 hb2
      have sd0 : wr.cell? ⟨w.heap.size, 0, none⟩ = some (.int .i64 t.inn) := (cell_of_heap hr).trans rfl
      have sd1 : wr.cell? ⟨w.heap.size, 1, none⟩ = some (.slice xo xn xq) := (cell_of_heap hr).trans rfl
      have sd2 : wr.cell? ⟨w.heap.size, 2, none⟩ = some (.slice yo yn yc) := (cell_of_heap hr).trans rfl
      have sd3 : wr.cell? ⟨w.heap.size, 3, none⟩ = some (.int .u8 t.sign) := (cell_of_heap hr).trans rfl
      clear hr
      obtain ⟨R, hR⟩ : ∃ R, rf.byte t x = R := ⟨_, rfl⟩
      rw [hR] at HN HSB
      have HCALL : Hid (∀ W, Below wr.heap.size wr W → Calls Tryd.prog 20 #[.agg #[.int .i64 t.inn, .slice xo xn xq, .slice yo yn yc, .int .u8 t.sign], .int .u8 x.toNat] W (Said2 R.1 R.2 W)) := Lib.hid (fun W hW => hR ▸ refByteAll_any _ t x W (HST.out W hW) HSM.out.2 (by have := HSM.out.1; omega))
      clear hR HST
      go_upto_region 5 with fail
      go_cut [8, 9] from 12 to 40 (fun s8 s9 wx => ∃ (g : Nat) (ao : Option Addr) (ac : Nat) (zo : Option Addr) (zn zq : Nat) (uo : Option Addr) (un uc : Nat), s8 = .pointer (some ⟨g, 0, none⟩) ∧ s9 = .slice ao R.2.length ac ∧ Hid (CF wr wx g (.slice ao R.2.length ac) R zo zn zq uo un uc))
      case first =>
       go_region_with (
         go_at_call 20
         refine (HCALL.out _ (by first | exact below_dN (Below.refl _ wr) 1 | exact below_dN (below_one wr _) 1)).mono ?_
         intro e w3 hsaid
         obtain ⟨v2, V2, he, hst, hA, hB⟩ := hsaid
         subst he
         obtain ⟨zo, zn, zq, uo, un, uc, rfl, hz1, hz2⟩ := hst
         obtain ⟨ao, ac, rfl, hain, haB⟩ := hA.in_
         first
         | (have hq : w3.heap[wr.heap.size]? = some (.cells #[.int .i64 0, .slice none 0 0, .slice none 0 0, .int .u8 0] 36 (0, 0)) := (hB.block _ (by simp)).trans (heap_alloc_new wr _)
            have HCF := Lib.hid (CF.old (wr := wr) (((below_one wr _).mono (Nat.le_refl _)).trans ((below_dN (Below.refl wr.heap.size _) 1).trans (hB.mono (by simp)))) hq (Nat.le_refl _) (hA.base_le (by simp)) hz1 hz2)
            have zd0 : w3.cell? ⟨wr.heap.size, 0, none⟩ = some (.int .i64 0) := (cell_of_heap hq).trans rfl
            have ze0 : w3.frozen? ⟨wr.heap.size, 0, none⟩ = false := by simp [World.frozen?, hq]
            have zd1 : w3.cell? ⟨wr.heap.size, 1, none⟩ = some (.slice none 0 0) := (cell_of_heap hq).trans rfl
            have ze1 : w3.frozen? ⟨wr.heap.size, 1, none⟩ = false := by simp [World.frozen?, hq]
            have zd2 : w3.cell? ⟨wr.heap.size, 2, none⟩ = some (.slice none 0 0) := (cell_of_heap hq).trans rfl
            have ze2 : w3.frozen? ⟨wr.heap.size, 2, none⟩ = false := by simp [World.frozen?, hq]
            have zd3 : w3.cell? ⟨wr.heap.size, 3, none⟩ = some (.int .u8 0) := (cell_of_heap hq).trans rfl
            have ze3 : w3.frozen? ⟨wr.heap.size, 3, none⟩ = false := by simp [World.frozen?, hq])
         | (have HCF := Lib.hid (CF.new (wr := wr) ((below_dN (Below.refl wr.heap.size wr) 1).trans hB) (hA.base_le (Nat.le_refl _)) hz1 hz2)
            have hl3 : wr.heap.size ≤ w3.heap.size := hB.size)
         clear hain haB hA hB hz1 hz2)
       all_goals
         go_wp2_with fail
         go_meet
         exact ⟨_, _, _, _, _, _, _, _, _, rfl, rfl, HCF⟩
      case rest =>
      obtain ⟨g, ao, ac, zo, zn, zq, uo, un, uc, rfl, rfl, HCF⟩ := hcut
      have hr := HCF.out.blk
      have gd0 : wc.cell? ⟨g, 0, none⟩ = some (.int .i64 R.1.inn) := (cell_of_heap hr).trans rfl
      have gd1 : wc.cell? ⟨g, 1, none⟩ = some (.slice zo zn zq) := (cell_of_heap hr).trans rfl
      have gd2 : wc.cell? ⟨g, 2, none⟩ = some (.slice uo un uc) := (cell_of_heap hr).trans rfl
      have gd3 : wc.cell? ⟨g, 3, none⟩ = some (.int .u8 R.1.sign) := (cell_of_heap hr).trans rfl
      have hq := (HS2.out.below HCF.out.bel).a0
      have qd0 : wc.cell? ⟨w.heap.size, 0, none⟩ = some (.int .i64 t.inn) := (cell_of_heap hq).trans rfl
      have qe0 : wc.frozen? ⟨w.heap.size, 0, none⟩ = false := by simp [World.frozen?, hq]
      have qd1 : wc.cell? ⟨w.heap.size, 1, none⟩ = some (.slice xo xn xq) := (cell_of_heap hq).trans rfl
      have qe1 : wc.frozen? ⟨w.heap.size, 1, none⟩ = false := by simp [World.frozen?, hq]
      have qd2 : wc.cell? ⟨w.heap.size, 2, none⟩ = some (.slice yo yn yc) := (cell_of_heap hq).trans rfl
      have qe2 : wc.frozen? ⟨w.heap.size, 2, none⟩ = false := by simp [World.frozen?, hq]
      have qd3 : wc.cell? ⟨w.heap.size, 3, none⟩ = some (.int .u8 t.sign) := (cell_of_heap hq).trans rfl
      have qe3 : wc.frozen? ⟨w.heap.size, 3, none⟩ = false := by simp [World.frozen?, hq]
      obtain ⟨hg4, hk4⟩ := store4 hq (.int .i64 R.1.inn) (.slice zo zn zq) (.slice uo un uc) (.int .u8 R.1.sign)
      have HSC := HS2.out.below HCF.out.bel
      have HF6 : Hid (FS w ((((wc.setCell ⟨w.heap.size, 0, none⟩ (.int .i64 R.1.inn)).setCell ⟨w.heap.size, 1, none⟩ (.slice zo zn zq)).setCell ⟨w.heap.size, 2, none⟩ (.slice uo un uc)).setCell ⟨w.heap.size, 3, none⟩ (.int .u8 R.1.sign)) V R.1 P) := Lib.hid
        ⟨⟨_, _, _, _, _, _, ⟨HSC.bel.trans (hk4.below HSC.bel.size (fun k hk => by omega)), hg4, hk4.same HSC.a1 (by omega)⟩, HCF.out.b1.kept hk4 hq, HCF.out.b2.kept hk4 hq⟩, (HS.out.acts.below HCF.out.bel).keptP hk4 (by omega)⟩
      have HA6 : Hid (ActsAt ((((wc.setCell ⟨w.heap.size, 0, none⟩ (.int .i64 R.1.inn)).setCell ⟨w.heap.size, 1, none⟩ (.slice zo zn zq)).setCell ⟨w.heap.size, 2, none⟩ (.slice uo un uc)).setCell ⟨w.heap.size, 3, none⟩ (.int .u8 R.1.sign)) wr.heap.size (.slice ao R.2.length ac) R.2) := Lib.hid (HCF.out.acts.keptP hk4 hwl0)
      have HW6 : Hid (wr.heap.size ≤ ((((wc.setCell ⟨w.heap.size, 0, none⟩ (.int .i64 R.1.inn)).setCell ⟨w.heap.size, 1, none⟩ (.slice zo zn zq)).setCell ⟨w.heap.size, 2, none⟩ (.slice uo un uc)).setCell ⟨w.heap.size, 3, none⟩ (.int .u8 R.1.sign)).heap.size) := Lib.hid (Nat.le_trans HCF.out.bel.size hk4.size)
      have HVB : Hid (∀ j, V.ownBlock = some j → j < wr.heap.size) := Lib.hid (fun j hj => (HS.out.acts.own_act hj).2.1)
      clear hr hq hg4 hk4 HSC
      go_upto_region 7 with fail
      generalize ((((wc.setCell ⟨w.heap.size, 0, none⟩ (.int .i64 R.1.inn)).setCell ⟨w.heap.size, 1, none⟩ (.slice zo zn zq)).setCell ⟨w.heap.size, 2, none⟩ (.slice uo un uc)).setCell ⟨w.heap.size, 3, none⟩ (.int .u8 R.1.sign)) = w6 at *
      clear gd0 gd1 gd2 gd3 qd0 qd1 qd2 qd3 qe0 qe1 qe2 qe3 sd0 sd1 sd2 sd3 HCF HS2 HS HCALL
      have hb6 : wr.heap.size ≤ w6.heap.size := HW6.out
      have hw6 : w.heap.size + 2 ≤ w6.heap.size := by omega
      go_wp2_with fail
      generalize wr = wo1 at *
      have hr5 : R.2.length ≤ 5 := HSB.out
      obtain ⟨m, hm⟩ : ∃ m, R.2.length = m := ⟨_, rfl⟩
      rw [hm] at HA6 hr5 ⊢
      have HI0 : Hid (FI w w6 w6 V V P R.2 0) := Lib.hid ⟨by simpa using HF6.out.acts, Kept.refl _ _, .inl rfl⟩
      have hac : m ≤ ac ∧ ac ≤ 9223372036854775807 := by
        obtain ⟨o2, c2, e2, hin2, _⟩ := HA6.out.in_
        obtain ⟨_, _, e3⟩ := Value.slice.inj e2
        have h3 := hin2.le; have h4 : c2 ≤ 9223372036854775807 := hin2.max
        omega
      obtain ⟨hac1, hac2⟩ := hac
      have HM := Lib.hid hm
      clear hm
      go_loopg [6, 10] m (fun gg s6 s10 wq => ∃ (j : Nat) (V2 : Value), V2 = s6 ∧ s10 = .int .i64 j ∧ j ≤ m ∧ m - j ≤ gg ∧ Hid (FI w w6 wq V V2 P R.2 j))
      case atStart => exact ⟨0, _, rfl, rfl, Nat.zero_le _, by omega, HI0⟩
      case round =>
        clear HI0
        obtain ⟨j, V2, rfl, rfl, hj, hjg, HI⟩ := hrel
        have hs6 : w6.heap.size ≤ wr.heap.size := HI.out.kept.size
        by_cases hjm : j < m
        · obtain ⟨g2, cap2, po, pc, hgV, hg3, hg4, hg5, hg6, hg7, hg8⟩ := HA6.out.at_ (k := j) (by rw [HM.out]; exact hjm)
          obtain ⟨rfl, -, rfl⟩ := Value.slice.inj hgV
          have hne : ∀ i, wo1.heap.size ≤ i → ¬ V.ownBlock = some i := fun i hi e => by have := HVB.out i e; omega
          have hbk := HI.out.kept.block g2 hg6 (hne g2 hg5)
          have HGT : Hid (j < R.2.length ∧ R.2.getD j es.act0 = R.2.getD j es.act0) := Lib.hid ⟨by rw [HM.out]; exact hjm, rfl⟩
          have hp1 := (hg8.kept HI.out.kept (fun i c hi _ => hne i hi)).base_le (show w.heap.size + 2 ≤ wo1.heap.size by omega)
          have hstep := fun (w' : World) (v' : Value) (r1 : ActsAt w' (w.heap.size + 2) v' (P ++ R.2.take j ++ [R.2.getD j es.act0])) (X : World) (hX : Below wr.heap.size wr X) r2 r3 => HI.out.step HGT.out.1 r1 hX r2 r3
          have HSTEP := Lib.hid hstep
          obtain ⟨c0, c1, c2, c3, c4, c5, c6⟩ := cells7 (w := wr) (fun f hf => (World.cell?_of_block (a := ⟨g2, j * 7 + f, none⟩) hbk).trans (hg7 f hf))
          clear hstep hg7 hg8 hne hbk HGT hgV
          generalize R.2.getD j es.act0 = a at *
          have hb1 := below_one wr (Obj.cells #[.int .i64 a.kind, .int .i32 a.r, .int .u8 a.final, .int .u8 a.priv, .string ⟨a.inter.toArray⟩, .slice po a.params.length pc, .string ⟨a.text.toArray⟩] 45)
          have HT := Lib.hid (And.intro (HI.out.acts.below hb1) (And.intro (hp1.kept (Kept.of_below hb1 (fun _ => False)) (fun _ _ _ _ h => h)) (heap_alloc_new wr (Obj.cells #[.int .i64 a.kind, .int .i32 a.r, .int .u8 a.final, .int .u8 a.priv, .string ⟨a.inter.toArray⟩, .slice po a.params.length pc, .string ⟨a.text.toArray⟩] 45))))
          have hjl : (P ++ R.2.take j).length ≤ 1099511627776 := by rw [List.length_append, List.length_take]; have := HPL.out; omega
          have hki2 : (j : Int) < (m : Int) := by omega
          have HB1 := Lib.hid hb1
          clear hb1 hp1
          go_wp2_with (at_builtin; refine wpList_append_act2 rfl _ _ rfl (w.heap.size + 2) V2 (P ++ R.2.take j) rfl HT.out.1 wr.heap.size a po pc rfl HT.out.2.2 HT.out.2.1 hjl (by simp; omega) (fun v' w' r1 r2 r3 => ?_); have HI1 := Lib.hid (HSTEP.out w' v' r1 _ HB1.out r2 r3); clear r1 r2 r3 HSTEP)
          go_roundg (m - (j + 1))
          case measure => omega
          case rel => exact ⟨j + 1, _, rfl, by go_num, by omega, Nat.le_refl _, HI1⟩
        · obtain rfl : j = m := by omega
          have hki2 : ¬ (j : Int) < (j : Int) := by omega
          have hfs := HI.out.fs HF6.out
          rw [show R.2.take j = R.2 by rw [← HM.out, List.take_length]] at hfs
          have HFS := Lib.hid hfs
          clear hfs
          go_wp2_with fail
          go_roundg (n - (k + 1))
          case measure => omega
          case rel => exact ⟨k + 1, _, rfl, by go_num, by omega, Nat.le_refl _, by rw [HN.out]; exact HFS⟩
    · obtain rfl : k = n := by omega
      have hki : ¬ (k : Int) < (k : Int) := by omega
      have htk : l.take k = l := by rw [← hsz, List.take_length]
      rw [htk] at HS
      have HEND : Hid (rf.feed s l = ((rf.feed s l).1, (rf.feed s l).2)) := Lib.hid rfl
      generalize (rf.feed s l).1 = t at *
      generalize (rf.feed s l).2 = P at *
      obtain ⟨xo, xn, xq, yo, yn, yc, hs2, hb1, hb2⟩ := HS.out.st
      have hr := hs2.a0
      have hq := hs2.a1
      have sd0 : wr.cell? ⟨w.heap.size, 0, none⟩ = some (.int .i64 t.inn) := (cell_of_heap hr).trans rfl
      have sd1 : wr.cell? ⟨w.heap.size, 1, none⟩ = some (.slice xo xn xq) := (cell_of_heap hr).trans rfl
      have sd2 : wr.cell? ⟨w.heap.size, 2, none⟩ = some (.slice yo yn yc) := (cell_of_heap hr).trans rfl
      have sd3 : wr.cell? ⟨w.heap.size, 3, none⟩ = some (.int .u8 t.sign) := (cell_of_heap hr).trans rfl
      have zd0 : wr.cell? ⟨w.heap.size + 1, 0, none⟩ = some (.int .i64 0) := (cell_of_heap hq).trans rfl
      have ze0 : wr.frozen? ⟨w.heap.size + 1, 0, none⟩ = false := by simp [World.frozen?, hq]
      have zd1 : wr.cell? ⟨w.heap.size + 1, 1, none⟩ = some (.slice none 0 0) := (cell_of_heap hq).trans rfl
      have ze1 : wr.frozen? ⟨w.heap.size + 1, 1, none⟩ = false := by simp [World.frozen?, hq]
      have zd2 : wr.cell? ⟨w.heap.size + 1, 2, none⟩ = some (.slice none 0 0) := (cell_of_heap hq).trans rfl
      have ze2 : wr.frozen? ⟨w.heap.size + 1, 2, none⟩ = false := by simp [World.frozen?, hq]
      have zd3 : wr.cell? ⟨w.heap.size + 1, 3, none⟩ = some (.int .u8 0) := (cell_of_heap hq).trans rfl
      have ze3 : wr.frozen? ⟨w.heap.size + 1, 3, none⟩ = false := by simp [World.frozen?, hq]
      obtain ⟨hg4, hk4⟩ := store4 hq (.int .i64 t.inn) (.slice xo xn xq) (.slice yo yn yc) (.int .u8 t.sign)
      have H4 := Lib.hid (And.intro hg4 (And.intro (hs2.bel.trans (hk4.below hs2.bel.size (fun k hk => by omega))) ((HS.out.acts.keptP hk4 (by omega)).base_le (by omega : w.heap.size ≤ w.heap.size + 2))))
      have HB4 := Lib.hid (And.intro (hb1.kept hk4 hq) (hb2.kept hk4 hq))
      clear hg4 hk4 hr hq hs2 hb1 hb2 htk
      go_wp2_with fail
      refine bodyPost_ret (results_row_tmp rfl _ _ (w.heap.size + 1) 36 _ (0, 0) _ rfl H4.out.1 Tryd.underlying36 rfl (by kernel_rfl)) rfl ?_
      exact ⟨_, _, rfl, ⟨_, _, _, _, _, _, rfl, HB4.out.1, HB4.out.2⟩, H4.out.2.2, H4.out.2.1⟩
end Go.Proofs.YtgkodjkhhmcnnaaDoor
