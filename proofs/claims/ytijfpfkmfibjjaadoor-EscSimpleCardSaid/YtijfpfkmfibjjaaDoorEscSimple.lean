/- The walk of EscSimple. -/
import Derived.Test.YtijfpfkmfibjjaaDoorEscRow
import Derived.Deep.DeepCutAuto
import Derived.Test.YtijfpfkmfibjjaaDoorGlSlh
namespace Go.Proofs.YtijfpfkmfibjjaaDoor
open Go.RowKit

namespace es
/-- a byte from 32 to 47 -/
def lowB (c : UInt8) : UInt8 := UInt8.ofNat (32 + c.toNat % 16)
theorem lowB_nat (c : UInt8) : (lowB c).toNat = 32 + c.toNat % 16 := by unfold lowB; rw [UInt8.toNat_ofNat']; omega
def inters (l : List UInt8) : List UInt8 := (l.take 3).map lowB
theorem inters_len (l : List UInt8) : (inters l).length ≤ 3 := by unfold inters; simp; omega
theorem inters_low (l : List UInt8) : ∀ b ∈ inters l, 32 ≤ b.toNat ∧ b.toNat < 48 := by
  intro b hb
  unfold inters at hb
  obtain ⟨c, _, rfl⟩ := List.mem_map.1 hb
  rw [lowB_nat]
  omega
theorem inters_succ (l : List UInt8) (k : Nat) (hk : k < l.length) : inters (l.take (k + 1)) = if k < 3 then inters (l.take k) ++ [lowB l[k]] else inters (l.take k) := by
  unfold inters
  rw [List.take_take, List.take_take]
  split
  · rw [show min 3 (k + 1) = k + 1 by omega, show min 3 k = k by omega, List.take_add_one, List.getElem?_eq_getElem hk, List.map_append]
    rfl
  · rw [show min 3 (k + 1) = 3 by omega, show min 3 k = 3 by omega]
/-- behind an escape, with these bytes between -/
def mid (g : List UInt8) : St := { state := 1, inter := g.take 2, spoiled := decide (2 < g.length) }
theorem mid_add (g : List UInt8) (b : UInt8) : addInter (mid g) b = mid (g ++ [b]) := by
  have h : (mid g).inter.length = min 2 g.length := by simp [mid]
  unfold addInter
  rw [h]
  by_cases h2 : g.length < 2
  · rw [if_neg (by omega)]
    simp only [mid, List.length_append, List.length_cons, List.length_nil]
    rw [List.take_of_length_le (by omega : g.length ≤ 2), List.take_of_length_le (by simp; omega : (g ++ [b]).length ≤ 2)]
    congr 1
    simp; omega
  · rw [if_pos (by omega)]
    simp only [mid, List.length_append, List.length_cons, List.length_nil]
    rw [List.take_append_of_le_length (by omega)]
    congr 1
    simp; omega
theorem mid_byte (g : List UInt8) (b : UInt8) (h1 : 32 ≤ b.toNat) (h2 : b.toNat < 48) : byte (mid g) b = (mid (g ++ [b]), []) := by
  unfold byte
  rw [if_pos (show (mid g).state = 1 from rfl)]
  unfold inEscape
  rw [if_neg (by simp [isText]; omega), if_pos h2, mid_add]
theorem feed_mid : ∀ (l g : List UInt8), (∀ b ∈ l, 32 ≤ b.toNat ∧ b.toNat < 48) → feed (mid g) l = (mid (g ++ l), [])
  | [], g, _ => by simp [feed]
  | b :: l, g, h => by
    have hb := h b (by simp)
    simp only [feed, mid_byte g b hb.1 hb.2]
    rw [feed_mid l (g ++ [b]) (fun c hc => h c (by simp [hc]))]
    simp
theorem feed_27 (l : List UInt8) : feed {} (27 :: l) = feed (mid []) l := by
  have h : byte {} 27 = (mid [], []) := rfl
  simp only [feed, h]
  simp
/-- does this begin something longer? -/
def long (I : List UInt8) (f : Nat) : Bool := decide (I = [] ∧ (f = 91 ∨ f = 93 ∨ f = 80 ∨ f = 88 ∨ f = 94 ∨ f = 95))
theorem feed_simple (I : List UInt8) (f : UInt8) (hI : ∀ b ∈ I, 32 ≤ b.toNat ∧ b.toNat < 48) (h1 : 48 ≤ f.toNat) (h2 : f.toNat ≤ 126) :
    ∃ s, feed {} (27 :: I ++ [f]) = (s, if long I f.toNat = true ∨ 3 ≤ I.length then [] else [esc (mid I) f]) ∧ idle s = !(long I f.toNat) := by
  have hb : feed {} (27 :: I ++ [f]) = byte (mid I) f := by
    rw [List.cons_append, feed_27, feed_append, feed_mid I [] hI]
    simp [feed]
  rw [hb]
  unfold byte
  rw [if_pos (show (mid I).state = 1 from rfl)]
  unfold inEscape
  rw [if_neg (by simp [isText]; omega), if_neg (by omega), if_neg (by omega)]
  have hi : (mid I).inter = [] ↔ I = [] := by
    cases I with
    | nil => simp [mid]
    | cons x l => simp [mid]
  by_cases hI0 : I = []
  · subst hI0
    by_cases h91 : f.toNat = 91
    · rw [if_pos ⟨rfl, h91⟩]
      exact ⟨_, by rw [if_pos (by simp [long, h91])], by simp [idle, long, h91, mid]⟩
    · rw [if_neg (fun h => h91 h.2)]
      by_cases hs : beginsString f = true
      · rw [if_pos ⟨rfl, hs⟩]
        have hs' := hs
        simp [beginsString] at hs'
        have hl : long [] f.toNat = true := by simp [long]; omega
        exact ⟨{ mid [] with state := 3, final := f.toNat }, by rw [hl]; rfl, by rw [hl]; rfl⟩
      · rw [if_neg (fun h => hs h.2)]
        have hs' := hs
        simp [beginsString] at hs'
        have hl : long [] f.toNat = false := by simp [long]; omega
        exact ⟨{}, by rw [hl]; simp [say, mid], by rw [hl]; simp [idle]⟩
  · rw [if_neg (fun h => hI0 (hi.1 h.1)), if_neg (fun h => hI0 (hi.1 h.1))]
    have hl : long I f.toNat = false := by simp [long, hI0]
    refine ⟨{}, ?_, by rw [hl]; simp [idle]⟩
    rw [hl]
    unfold say
    by_cases h3 : 3 ≤ I.length
    · simp [mid, h3, show 2 < I.length by omega]
    · simp [mid, h3, show ¬ 2 < I.length by omega]
end es
theorem u8_and15 (c : UInt8) : bits .and .u8 (c.toNat : Int) 15 = ((c.toNat % 16 : Nat) : Int) := by
  revert c
  have key : ∀ n : Fin 256, bits .and .u8 ((n.val : Nat) : Int) 15 = ((n.val % 16 : Nat) : Int) := by decide +kernel
  intro c
  exact key ⟨c.toNat, c.toNat_lt⟩
/-- where the loop stands -/
structure SI (w wr : World) (V : Value) (I : List UInt8) : Prop where
  row : RowB wr w.heap.size V (27 :: I)
  bel : Below w.heap.size w wr
theorem SI.step {w wr w' : World} {V : Value} {I : List UInt8} (h : SI w wr V I) (hb : Below wr.heap.size wr w') : SI w w' V I :=
  ⟨h.row.below hb, h.bel.trans (hb.mono h.bel.size)⟩
set_option maxRecDepth 100000 in
set_option maxHeartbeats 32000000 in
theorem simple_any (o : Option Addr) (n cap : Nat) (l : List UInt8) (f0 : UInt8) (w : World) (ht : UTabs w ∧ PTab w) (hx : Bts w o n cap l) {L : Nat} (_hn : n * L ≤ reachBytes) :
    Calls Tryd.prog 9 #[.slice o n cap, .int .u8 f0.toNat] w fun e w' => e = .returned (.bool true) ∧ Below w.heap.size w w' := by
  obtain ⟨i0, hi, hz0, hz1, hz2⟩ := info_parts infoB
  have HA := Lib.hid (alive_any w ht.1 ht.2)
  have hmx : cap ≤ 9223372036854775807 := hx.max
  have hle := hx.le
  have hsz := hx.size
  have hf256 := f0.toNat_lt
  have HX := Lib.hid hx; have HT := Lib.hid ht.1
  clear hx ht
  go_enter Tryd.func9, Tryd.ntmps9
  go_wp2_with fail
  refine HA.out.mono ?_
  rintro e w1 ⟨rfl, hb1⟩
  have H0 : Hid (SI w (w1.alloc (.cells #[.int .u8 27] 5)) (.slice (some ⟨w1.heap.size, 0, none⟩) 1 1) []) := Lib.hid
    ⟨⟨rfl, .inr ⟨w1.heap.size, 1, #[.int .u8 27], rfl, hb1.size, heap_alloc_new _ _, Nat.le_refl _, by unfold maxLen; omega, rfl, rfl⟩⟩, hb1.alloc hb1.size _⟩
  clear HA hb1
  go_wp2_with fail
  go_loopg [5, 6, 17] n (fun gg s5 s6 s17 wr => ∃ (k : Nat) (V : Value), V = s5 ∧ s6 = .string ⟨(es.inters (l.take k)).toArray⟩ ∧ s17 = .int .i64 k ∧ k ≤ n ∧ n - k ≤ gg ∧ Hid (SI w wr V (es.inters (l.take k))))
  case atStart => exact ⟨0, _, rfl, rfl, rfl, Nat.zero_le _, by omega, H0⟩
  case round =>
    clear H0
    obtain ⟨k, V, rfl, rfl, rfl, hk, hgg, HS⟩ := hrel
    have hIl := es.inters_len (l.take k)
    have hIlow := es.inters_low (l.take k)
    have hs1 : w.heap.size ≤ wr.heap.size := HS.out.bel.size
    by_cases hlt : k < n
    · obtain ⟨b, off, rfl, hbl, hc⟩ := Bts.byte (HX.out.below HS.out.bel) (by omega)
      have hkl : k < l.length := by omega
      have hck : wr.cell? ⟨b, off + k, none⟩ = some (.int .u8 (l[k].toNat : Nat)) := by rw [hc k hlt]; simp [gl.b, List.getD, hkl]
      have hsucc := es.inters_succ l k hkl
      generalize l[k] = c at *
      have h15 := u8_and15 c
      have hnat := es.lowB_nat c
      have HSU := Lib.hid hsucc
      clear hsucc hc hIlow
      by_cases hk3 : k < 3
      · have hki : (k : Int) < 3 := by omega
        have HSU2 : Hid (es.inters (l.take (k + 1)) = es.inters (l.take k) ++ [es.lowB c]) := Lib.hid (by rw [HSU.out, if_pos hk3])
        clear HSU
        generalize hIg : es.inters (l.take (k + 1)) = I1 at *
        have HIg := Lib.hid hIg
        clear hIg
        generalize es.inters (l.take k) = I at *
        have hlow : ((c.toNat % 16 : Nat) : Int) + 32 = ((es.lowB c).toNat : Int) := by omega
        have hwr : IntKind.u8.wrap (32 + ((c.toNat % 16 : Nat) : Int)) = ((es.lowB c).toNat : Int) := by
          rw [show (32 : Int) + ((c.toNat % 16 : Nat) : Int) = ((es.lowB c).toNat : Int) by omega]
          have := (es.lowB c).toNat_lt
          rw [IntKind.wrap_u8]; omega
        have hwb : (es.lowB c).toNat < 256 := (es.lowB c).toNat_lt
        clear hlow hnat
        generalize c.toNat % 16 = lo at *
        generalize es.lowB c = x at *
        have HRA := Lib.hid (HS.out.row.below (below_one wr (.cells #[.int .u8 x.toNat] 5)))
        have kb : ¬ 9223372036854775807 < I.length + 1 := by omega
        have kb' : I.length < 9223372036854775807 := by omega
        go_wp2_with (at_builtin; refine wpList_append_nums (K := .u8) rfl _ _ 34 rfl w.heap.size 5 i0 (Value.int .u8 0) 1 Tryd.underlying34 hi hz0 hz1 hz2 (by decide) rfl _ (27 :: I).length (u8s (27 :: I)) rfl HRA.out (some ⟨wr.heap.size, 0, none⟩) 1 1 [(x.toNat : Int)] rfl (nums_one _ _ _) (by simp; omega) (by simp; omega) (fun v' w' r1 r2 r3 => ?_); have HR1 : Hid (SI w w' v' (I ++ [x])) := Lib.hid ⟨rowB_append (l := 27 :: I) (m := [x]) (by simpa [u8s] using r1), HS.out.bel.trans (((Below.refl w.heap.size wr).alloc hs1 (.cells #[.int .u8 x.toNat] 5)).trans ((Below.refl w.heap.size _).grown r2 (by simp; omega) (fun g hg => (HRA.out.lt g hg).1)))⟩; clear r1 r2 r3; clear HRA; have kc := str_one0 w' x)
        have HR2 := Lib.hid (HR1.out.step (below_one w' (.cells #[.int .u8 x.toNat] 5)))
        have hI1 : (ByteArray.mk I.toArray ++ ByteArray.mk #[x]) = ByteArray.mk I1.toArray := by rw [HSU2.out]; exact ByteArray.mk_append_mk I [x]
        have HI1 := Lib.hid hI1
        clear hI1
        go_wp2_with fail
        go_roundg (n - (k + 1))
        case measure => omega
        case rel => exact ⟨k + 1, _, rfl, by rw [HIg.out, ← HI1.out], by go_num, by omega, Nat.le_refl _, by rw [HIg.out, HSU2.out]; exact HR2⟩
      · have HSU2 : Hid (es.inters (l.take (k + 1)) = es.inters (l.take k)) := Lib.hid (by rw [HSU.out, if_neg hk3])
        have hki : ¬ (k : Int) < 3 := by omega
        clear HSU
        go_wp2_with fail
        go_roundg (n - (k + 1))
        case measure => omega
        case rel => exact ⟨k + 1, _, rfl, by rw [HSU2.out], by go_num, by omega, Nat.le_refl _, by rw [HSU2.out]; exact HS⟩
    · obtain rfl : k = n := by omega
      generalize hIg : es.inters (l.take k) = I at *
      have HLOW := Lib.hid hIlow
      clear hIlow hIg
      have HRP := Lib.hid (show RP w (wr.alloc (.cells Tryd.zeroCells33 33)) wr.heap.size {} V (27 :: I) from ⟨HS.out.row.below (below_one _ _), fun e => by have := (HS.out.row.lt _ e).2; omega, OP.start HS.out.bel (HT.out.step HS.out.bel)⟩)
      have kb : ¬ 9223372036854775807 < I.length + 1 := by omega
      go_upto_region 12 with fail
      go_cut [43] (fun s43 wx => s43 = .bool (decide (f0.toNat < 48 ∨ 126 < f0.toNat)) ∧ wx = wr)
      case first =>
        by_cases h1 : f0.toNat < 48
        · have h1i : ((f0.toNat : Nat) : Int) < 48 := by omega
          go_wp2_with fail
          go_meet
          exact ⟨by simp [h1], rfl⟩
        · have h1i : ¬ ((f0.toNat : Nat) : Int) < 48 := by omega
          by_cases h2 : 126 < f0.toNat
          · have h2i : (126 : Int) < ((f0.toNat : Nat) : Int) := by omega
            go_wp2_with fail
            go_meet
            exact ⟨by simp [h1, h2], rfl⟩
          · have h2i : ¬ (126 : Int) < ((f0.toNat : Nat) : Int) := by omega
            go_wp2_with fail
            go_meet
            exact ⟨by simp [h1, h2], rfl⟩
      case rest =>
      obtain ⟨rfl, rfl⟩ := hcut
      obtain ⟨bad, hbad⟩ : ∃ bad, bad = decide (f0.toNat < 48 ∨ 126 < f0.toNat) := ⟨_, rfl⟩
      rw [← hbad]
      go_upto_if 43 with fail
      go_cut [1] (fun s1 wx => ∃ F : UInt8, s1 = .int .u8 F.toNat ∧ 48 ≤ F.toNat ∧ F.toNat ≤ 126 ∧ wx = wc)
      case first =>
        by_cases h1 : f0.toNat < 48 ∨ 126 < f0.toNat
        · obtain rfl : bad = true := hbad.trans (decide_eq_true h1)
          clear hbad h1
          go_wp2_with fail
          go_meet
          exact ⟨68, rfl, by decide, by decide, rfl⟩
        · obtain rfl : bad = false := hbad.trans (decide_eq_false h1)
          have h2 : 48 ≤ f0.toNat ∧ f0.toNat ≤ 126 := by omega
          have H2 := Lib.hid h2
          clear h1 h2 hbad
          go_wp2_with fail
          go_meet
          exact ⟨f0, rfl, H2.out.1, H2.out.2, rfl⟩
      case rest =>
      obtain ⟨F, rfl, hF1, hF2, rfl⟩ := hcut
      have HHF := Lib.hid (And.intro hF1 hF2)
      clear hbad
      go_upto_region 14 with fail
      obtain ⟨q, hq⟩ : ∃ q, q = F.toNat := ⟨_, rfl⟩
      rw [← hq]
      go_cut [9] (fun s9 wx => s9 = .bool (es.long I q) ∧ wx = wc)
      case first =>
        clear HRP HS
        by_cases hI0 : I = []
        · subst hI0
          by_cases h91 : q = 91
          · have e1 : ((q : Int) == 91) = true := by simp; omega
            have n91 : ((q : Int) == 91) = true := by simp; omega
            have n93 : ((q : Int) == 93) = false := by simp; omega
            have n80 : ((q : Int) == 80) = false := by simp; omega
            have n88 : ((q : Int) == 88) = false := by simp; omega
            have n94 : ((q : Int) == 94) = false := by simp; omega
            have n95 : ((q : Int) == 95) = false := by simp; omega
            have HC : Hid (es.long [] q = true) := Lib.hid (by simp [es.long, h91])
            clear h91 hq
            go_wp2_with fail
            go_meet
            exact ⟨by rw [HC.out], rfl⟩
          by_cases h93 : q = 93
          · have e1 : ((q : Int) == 93) = true := by simp; omega
            have n91 : ((q : Int) == 91) = false := by simp; omega
            have n93 : ((q : Int) == 93) = true := by simp; omega
            have n80 : ((q : Int) == 80) = false := by simp; omega
            have n88 : ((q : Int) == 88) = false := by simp; omega
            have n94 : ((q : Int) == 94) = false := by simp; omega
            have n95 : ((q : Int) == 95) = false := by simp; omega
            have HC : Hid (es.long [] q = true) := Lib.hid (by simp [es.long, h93])
            clear h93 hq
            go_wp2_with fail
            go_meet
            exact ⟨by rw [HC.out], rfl⟩
          by_cases h80 : q = 80
          · have e1 : ((q : Int) == 80) = true := by simp; omega
            have n91 : ((q : Int) == 91) = false := by simp; omega
            have n93 : ((q : Int) == 93) = false := by simp; omega
            have n80 : ((q : Int) == 80) = true := by simp; omega
            have n88 : ((q : Int) == 88) = false := by simp; omega
            have n94 : ((q : Int) == 94) = false := by simp; omega
            have n95 : ((q : Int) == 95) = false := by simp; omega
            have HC : Hid (es.long [] q = true) := Lib.hid (by simp [es.long, h80])
            clear h80 hq
            go_wp2_with fail
            go_meet
            exact ⟨by rw [HC.out], rfl⟩
          by_cases h88 : q = 88
          · have e1 : ((q : Int) == 88) = true := by simp; omega
            have n91 : ((q : Int) == 91) = false := by simp; omega
            have n93 : ((q : Int) == 93) = false := by simp; omega
            have n80 : ((q : Int) == 80) = false := by simp; omega
            have n88 : ((q : Int) == 88) = true := by simp; omega
            have n94 : ((q : Int) == 94) = false := by simp; omega
            have n95 : ((q : Int) == 95) = false := by simp; omega
            have HC : Hid (es.long [] q = true) := Lib.hid (by simp [es.long, h88])
            clear h88 hq
            go_wp2_with fail
            go_meet
            exact ⟨by rw [HC.out], rfl⟩
          by_cases h94 : q = 94
          · have e1 : ((q : Int) == 94) = true := by simp; omega
            have n91 : ((q : Int) == 91) = false := by simp; omega
            have n93 : ((q : Int) == 93) = false := by simp; omega
            have n80 : ((q : Int) == 80) = false := by simp; omega
            have n88 : ((q : Int) == 88) = false := by simp; omega
            have n94 : ((q : Int) == 94) = true := by simp; omega
            have n95 : ((q : Int) == 95) = false := by simp; omega
            have HC : Hid (es.long [] q = true) := Lib.hid (by simp [es.long, h94])
            clear h94 hq
            go_wp2_with fail
            go_meet
            exact ⟨by rw [HC.out], rfl⟩
          by_cases h95 : q = 95
          · have e1 : ((q : Int) == 95) = true := by simp; omega
            have n91 : ((q : Int) == 91) = false := by simp; omega
            have n93 : ((q : Int) == 93) = false := by simp; omega
            have n80 : ((q : Int) == 80) = false := by simp; omega
            have n88 : ((q : Int) == 88) = false := by simp; omega
            have n94 : ((q : Int) == 94) = false := by simp; omega
            have n95 : ((q : Int) == 95) = true := by simp; omega
            have HC : Hid (es.long [] q = true) := Lib.hid (by simp [es.long, h95])
            clear h95 hq
            go_wp2_with fail
            go_meet
            exact ⟨by rw [HC.out], rfl⟩
          have n91 : ((q : Int) == 91) = false := by simp; omega
          have n93 : ((q : Int) == 93) = false := by simp; omega
          have n80 : ((q : Int) == 80) = false := by simp; omega
          have n88 : ((q : Int) == 88) = false := by simp; omega
          have n94 : ((q : Int) == 94) = false := by simp; omega
          have n95 : ((q : Int) == 95) = false := by simp; omega
          have HC : Hid (es.long [] q = false) := Lib.hid (by simp [es.long]; omega)
          clear h91 h93 h80 h88 h94 h95 hq
          go_wp2_with fail
          go_meet
          exact ⟨by rw [HC.out], rfl⟩
        · have hIp : 0 < I.length := List.length_pos_iff.2 hI0
          have b0 : ((I.length : Int) == 0) = false := by simp; omega
          have HC : Hid (es.long I q = false) := Lib.hid (by simp [es.long, hI0])
          go_wp2_with fail
          go_meet
          exact ⟨by rw [HC.out], rfl⟩
      case rest =>
      obtain ⟨rfl, rfl⟩ := hcut
      obtain ⟨st, hfeed, hid⟩ := es.feed_simple I F HLOW.out hF1 hF2
      rw [← hq] at hfeed hid
      have HQ := Lib.hid hq
      clear hF1 hF2 hq
      have HR : Hid (RP w ((wc.alloc (.cells Tryd.zeroCells33 33)).alloc (.cells #[.int .u8 (q : Nat)] 5)) wc.heap.size {} V (27 :: I)) := Lib.hid (HRP.out.step (below_one _ _))
      have HBT : Hid (Bts ((wc.alloc (.cells Tryd.zeroCells33 33)).alloc (.cells #[.int .u8 (q : Nat)] 5)) (some ⟨wc.heap.size + 1, 0, none⟩) 1 1 [F]) := Lib.hid (by
        have := nums_one (K := .u8) (wc.alloc (.cells Tryd.zeroCells33 33)) (q : Int) 5
        unfold Bts
        rw [show u8s [F] = [(q : Int)] by simp [u8s, HQ.out]]
        simpa using this)
      clear HRP HS
      go_wp2_with (at_builtin; refine wpList_rp rfl _ _ rfl w _ wc.heap.size {} V (27 :: I) rfl HR.out HT.out (some ⟨wc.heap.size + 1, 0, none⟩) 1 1 [F] rfl HBT.out (by simp only [List.length_cons]; omega) ?_)
      intro v3 w3 r3
      obtain ⟨o3, c3, hv3, hF3⟩ := RP.feed r3 (I.length + 1 + 1) (by simp) (by omega)
      subst hv3
      have HF := Lib.hid (show Calls Tryd.prog 11 #[.pointer (some ⟨wc.heap.size, 0, none⟩), .slice o3 (I.length + 1 + 1) c3] w3 _ from hF3)
      clear r3 hF3 HR HBT
      go_wp2_with fail
      refine HF.out.mono ?_
      rintro e w4 ⟨ro4, rc4, rfl, hI4, hop4⟩
      rw [List.cons_append] at hfeed
      rw [hfeed] at hI4 hop4 ⊢
      have HOP := Lib.hid hop4
      clear hop4 HF
      have HID := Lib.hid hid
      clear hid
      cases hlg : es.long I q
      · rw [hlg] at hI4 HID
        by_cases hI3 : I.length = 3
        · have b3 : ((I.length : Int) == 3) = true := by simp; omega
          rw [if_pos (Or.inr (by omega))] at hI4
          clear hI4
          rw [if_pos (Or.inr (by omega))]
          go_wp2_with fail
          refine HOP.out.ps.idle.mono ?_
          rintro e w5 ⟨rfl, rfl⟩
          rw [HID.out]
          go_wp2_with fail
          go_ret
          exact ⟨rfl, HOP.out.bel⟩
        · have b3 : ((I.length : Int) == 3) = false := by simp; omega
          rw [if_neg (by simp; omega)] at hI4
          rw [if_neg (by simp; omega)]
          obtain ⟨b4, rfl⟩ := hI4.some (by simp)
          obtain ⟨p4, q4, l4, f4, _⟩ := hI4.ask b4 rfl 0 (by simp)
          have a1 : w4.cell? ⟨b4, 0, none⟩ = some (.int .i64 3) := f4 0 (by omega)
          have a2 : w4.cell? ⟨b4, 4, none⟩ = some (.string ⟨I.toArray⟩) := (f4 4 (by omega)).trans (by show some (Value.string ⟨(I.take 2).toArray⟩) = _; rw [List.take_of_length_le (by omega)])
          have a3 : w4.cell? ⟨b4, 2, none⟩ = some (.int .u8 (q : Nat)) := (f4 2 (by omega)).trans (by show some (Value.int .u8 ((F.toNat : Nat) : Int)) = _; rw [HQ.out])
          have a4 : w4.cell? ⟨b4, 5, none⟩ = some (.slice p4 0 q4) := f4 5 (by omega)
          clear f4 hI4
          go_wp2_with fail
          refine HOP.out.ps.idle.mono ?_
          rintro e w5 ⟨rfl, rfl⟩
          rw [HID.out]
          go_wp2_with fail
          go_ret
          exact ⟨rfl, HOP.out.bel⟩
      · rw [hlg] at hI4 HID
        rw [if_pos (Or.inl rfl)]
        clear hI4
        go_wp2_with fail
        refine HOP.out.ps.idle.mono ?_
        rintro e w5 ⟨rfl, rfl⟩
        rw [HID.out]
        go_wp2_with fail
        go_ret
        exact ⟨rfl, HOP.out.bel⟩
end Go.Proofs.YtijfpfkmfibjjaaDoor
