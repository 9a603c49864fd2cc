/- The document's parser, third part: the act of a control sequence's bytes. -/
import Derived.Test.YtgkodjkhhmcnnaaDoorEscRefAN
import Derived.Test.YtgkodjkhhmcnnaaDoorEscConvR
import Derived.Test.YtgkodjkhhmcnnaaDoorGlRunesM
import Derived.Test.YtgkodjkhhmcnnaaDoorGlWhole
import Derived.Test.YtgkodjkhhmcnnaaDoorGlLit
import Derived.Deep.DeepCutAuto
import Derived.Laws.ResultCell
namespace Go.Proofs.YtgkodjkhhmcnnaaDoor.rf
/-- a taking-while that is under way: N taken of A, the rest R -/
structure TW (P : UInt8 → Bool) (l : List UInt8) (i : Nat) (N A R : List UInt8) : Prop where
  tw : N ++ (l.drop i).takeWhile P = A
  dw : (l.drop i).dropWhile P = R
theorem drop_cons {l : List UInt8} {i : Nat} (hi : i < l.length) : l.drop i = l.getD i 0 :: l.drop (i + 1) := by
  rw [List.drop_eq_getElem_cons hi]; simp [List.getD, hi]
theorem TW.step {P : UInt8 → Bool} {l : List UInt8} {i : Nat} {N A R : List UInt8} (h : TW P l i N A R) (hi : i < l.length) (hp : P (l.getD i 0) = true) : TW P l (i + 1) (N ++ [l.getD i 0]) A R := by
  obtain ⟨h1, h2⟩ := h
  rw [drop_cons hi, List.takeWhile_cons_of_pos hp] at h1
  rw [drop_cons hi, List.dropWhile_cons_of_pos hp] at h2
  exact ⟨by rw [← h1]; simp, h2⟩
theorem TW.stop {P : UInt8 → Bool} {l : List UInt8} {i : Nat} {N A R : List UInt8} (h : TW P l i N A R) (hp : i < l.length → P (l.getD i 0) = false) : N = A ∧ l.drop i = R := by
  obtain ⟨h1, h2⟩ := h
  by_cases hi : i < l.length
  · have hp' := hp hi
    rw [drop_cons hi, List.takeWhile_cons_of_neg (by rw [hp']; decide)] at h1
    rw [drop_cons hi, List.dropWhile_cons_of_neg (by rw [hp']; decide)] at h2
    exact ⟨by simpa using h1, by rw [drop_cons hi]; exact h2⟩
  · rw [List.drop_eq_nil_of_le (by omega)] at h1 h2 ⊢
    exact ⟨by simpa using h1, by simpa using h2⟩
theorem body_drop (l : List UInt8) : body l = l.drop (if opens l then 1 else 0) := by unfold body; split <;> rfl
theorem TW.nums (l : List UInt8) : TW isNum l (if opens l then 1 else 0) [] (numsOf l) (rest1 l) := ⟨by rw [← body_drop]; rfl, by rw [← body_drop]; rfl⟩
theorem TW.inters {l : List UInt8} {i : Nat} (h : l.drop i = rest1 l) : TW isLow l i [] (interOf l) (rest2 l) := ⟨by rw [h]; rfl, by rw [h]; rfl⟩
theorem opens_len {l : List UInt8} (h : opens l = true) : 0 < l.length := by cases l with | nil => cases h | cons => simp
theorem opens_get {l : List UInt8} (h : 0 < l.length) : opens l = decide (60 ≤ (l.getD 0 0).toNat) := by cases l with | nil => simp at h | cons => rfl
theorem priv_get {l : List UInt8} (h : opens l = true) : privOf l = (l.getD 0 0).toNat := by cases l with | nil => cases h | cons => unfold privOf; rw [if_pos h]; rfl
theorem numsOf_num (l : List UInt8) : ∀ b ∈ numsOf l, isNum b = true := fun b hb => by
  unfold numsOf at hb
  exact (List.all_eq_true.1 (List.all_takeWhile (l := body l) (p := isNum))) b hb
theorem tw_len {P : UInt8 → Bool} {l : List UInt8} {i : Nat} {N A R : List UInt8} (h : TW P l i N A R) : A.length ≤ N.length + (l.length - i) := by
  have := congrArg List.length h.tw
  have h2 := (List.takeWhile_sublist P (l := l.drop i)).length_le
  simp at this h2
  omega
/-- the act that whole answers, spoiled or not -/
def wholeA (l : List UInt8) (f : UInt8) : es.Act := if wholeOk l then whole l f else { kind := 0 }
end Go.Proofs.YtgkodjkhhmcnnaaDoor.rf
namespace Go.Proofs.YtgkodjkhhmcnnaaDoor
open Go.RowKit
/-- a struct in a cell and a value, as results -/
theorem results_row_tmp {P : Program} {fn : Func} {p u : Tmp} {ty : TypeId} (h : fn.results = #[.cell p ty, .tmp u]) (tmps : Array Value) (w : World) (g : Nat) (t : TypeId) (cs : Array Value) (fr : Nat × Nat) (d : TypeDesc)
    (hp : tmps.getD p undef = .pointer (some ⟨g, 0, none⟩)) (hg : w.heap[g]? = some (.cells cs t fr))
    (hu : P.underlying ty = some d) (hd : (match d with | .struct _ | .array _ _ => true | _ => false) = true) (hi : (P.info? ty).map (·.size) = some cs.size) :
    (results fn tmps).run P w = .ok (.tuple #[.agg cs, tmps.getD u undef]) w := by
  rw [results_cell_tmp h, hp]
  simp [asAddr, run_loadVar_row w g t ty cs fr d hg hu hd hi, Result.andThen]
/-- the two acts that whole makes -/
structure WA (w wx : World) (f p : Int) : Prop where
  bel : Below w.heap.size w wx
  a0 : wx.heap[w.heap.size]? = some (.cells #[.int .i64 0, .int .i32 0, .int .u8 0, .int .u8 0, .string ⟨#[]⟩, .slice none 0 0, .string ⟨#[]⟩] 45 (0, 0))
  a1 : wx.heap[w.heap.size + 1]? = some (.cells #[.int .i64 4, .int .i32 0, .int .u8 f, .int .u8 p, .string ⟨#[]⟩, .slice none 0 0, .string ⟨#[]⟩] 45 (0, 0))
theorem WA.lt {w wx : World} {f p : Int} (h : WA w wx f p) : w.heap.size + 1 < wx.heap.size := (Array.getElem?_eq_some_iff.1 h.a1).1
theorem WA.below {w wx wy : World} {f p : Int} (h : WA w wx f p) (hb : Below wx.heap.size wx wy) : WA w wy f p :=
  ⟨h.bel.trans (hb.mono h.bel.size), (hb.block _ (by have := h.lt; omega)).trans h.a0, (hb.block _ h.lt).trans h.a1⟩
theorem WA.priv {w wx : World} {f p : Int} (h : WA w wx f p) (q : Int) : WA w (wx.setCell ⟨w.heap.size + 1, 3, none⟩ (.int .u8 q)) f q := by
  refine ⟨⟨h.bel.os, h.bel.tape, h.bel.output, by simpa using h.bel.size, fun k hk => (Below.heap_setCell _ _ _ k (by show k ≠ w.heap.size + 1; omega)).trans (h.bel.block k hk)⟩, (Below.heap_setCell _ _ _ _ (by show w.heap.size ≠ w.heap.size + 1; omega)).trans h.a0, ?_⟩
  exact heap_setCell_same wx (w.heap.size + 1) 3 _ _ (.int .u8 q) h.a1
set_option maxRecDepth 100000 in
set_option maxHeartbeats 1600000 in
theorem refWhole_any (o : Option Addr) (n cap : Nat) (l : List UInt8) (f : UInt8) (w : World) (hx : Bts w o n cap l) (hn : n ≤ 1099511627776) :
    Calls Tryd.prog 67 #[.slice o n cap, .int .u8 f.toNat] w fun e w' => Below w.heap.size w w' ∧ ∃ po pc, e = .returned (.tuple #[.agg (actC (rf.wholeA l f) po pc).toArray, .bool (rf.wholeOk l)]) ∧ Act1 w' w.heap.size (rf.wholeA l f) po pc := by
  obtain ⟨i0, hi, hz0, hz1, hz2⟩ := info_parts infoB
  have hmx : cap ≤ 9223372036854775807 := hx.max
  have hle := hx.le
  have hsz := hx.size
  have HX := Lib.hid hx
  have hw0 : WA w ((w.alloc (.cells #[.int .i64 0, .int .i32 0, .int .u8 0, .int .u8 0, .string ⟨#[]⟩, .slice none 0 0, .string ⟨#[]⟩] 45)).alloc (.cells #[.int .i64 4, .int .i32 0, .int .u8 f.toNat, .int .u8 0, .string ⟨#[]⟩, .slice none 0 0, .string ⟨#[]⟩] 45)) f.toNat 0 := by
    refine ⟨(below_one w _).trans ((below_one _ _).mono (by simp)), ?_, ?_⟩
    · refine ((below_one (w.alloc _) _).block _ (by simp)).trans (heap_alloc_new w _)
    · have := heap_alloc_new (w.alloc (.cells #[.int .i64 0, .int .i32 0, .int .u8 0, .int .u8 0, .string ⟨#[]⟩, .slice none 0 0, .string ⟨#[]⟩] 45)) (.cells #[.int .i64 4, .int .i32 0, .int .u8 f.toNat, .int .u8 0, .string ⟨#[]⟩, .slice none 0 0, .string ⟨#[]⟩] 45)
      simpa using this
  have HW0 := Lib.hid hw0
  clear hx hw0
  go_enter Tryd.func67, Tryd.ntmps67
  go_upto_region 3 with fail
  generalize (w.alloc (.cells #[.int .i64 0, .int .i32 0, .int .u8 0, .int .u8 0, .string ⟨#[]⟩, .slice none 0 0, .string ⟨#[]⟩] 45)).alloc (.cells #[.int .i64 4, .int .i32 0, .int .u8 f.toNat, .int .u8 0, .string ⟨#[]⟩, .slice none 0 0, .string ⟨#[]⟩] 45) = w0 at *
  go_cut [20] (fun s20 wx => s20 = .bool (rf.opens l) ∧ wx = w0)
  case first =>
    by_cases h0 : 0 < n
    · have h0i : (0 : Int) < (n : Int) := by omega
      obtain ⟨b, off, rfl, hbl, hc⟩ := Bts.byte (HX.out.below HW0.out.bel) h0
      have hc0 := hc 0 h0
      rw [Nat.add_zero] at hc0
      have HOP := Lib.hid (rf.opens_get (l := l) (by omega))
      rw [show gl.b l 0 = ((l.getD 0 0).toNat : Nat) from rfl] at hc0
      generalize l.getD 0 0 = x at *
      clear hc
      by_cases h6 : 60 ≤ x.toNat
      · have h6i : (60 : Int) ≤ ((x.toNat : Nat) : Int) := by omega
        go_wp2_with fail
        go_meet
        exact ⟨by rw [HOP.out, decide_eq_true h6], rfl⟩
      · have h6i : ¬ (60 : Int) ≤ ((x.toNat : Nat) : Int) := by omega
        go_wp2_with fail
        go_meet
        exact ⟨by rw [HOP.out, decide_eq_false h6], rfl⟩
    · have h0i : ¬ (0 : Int) < (n : Int) := by omega
      have HOP := Lib.hid (show rf.opens l = false from by cases l with | nil => rfl | cons => simp at hsz; omega)
      go_wp2_with fail
      go_meet
      exact ⟨by rw [HOP.out], rfl⟩
  case rest =>
  obtain ⟨rfl, rfl⟩ := hcut
  obtain ⟨op, hop⟩ : ∃ op, rf.opens l = op := ⟨_, rfl⟩
  rw [hop]
  have HOB := Lib.hid hop
  clear hop
  go_upto_if 20 with fail
  go_cut [7] (fun s7 wx => s7 = .int .i64 (if rf.opens l then 1 else 0 : Nat) ∧ Hid (WA w wx f.toNat (rf.privOf l)))
  case first =>
    cases op with
    | true =>
      have hl0 := rf.opens_len HOB.out
      obtain ⟨b, off, rfl, hbl, hc⟩ := Bts.byte (HX.out.below HW0.out.bel) (show 0 < n by omega)
      have hc0 := hc 0 (by omega)
      rw [Nat.add_zero] at hc0
      have HOP := Lib.hid (rf.priv_get HOB.out)
      rw [show gl.b l 0 = ((l.getD 0 0).toNat : Nat) from rfl] at hc0
      generalize l.getD 0 0 = x at *
      have h0i : (0 : Int) < (n : Int) := by omega
      have hc3 : wc.cell? ⟨w.heap.size + 1, 3, none⟩ = some (.int .u8 0) := cell_of_heap HW0.out.a1
      have hf3 : wc.frozen? ⟨w.heap.size + 1, 3, none⟩ = false := by simp [World.frozen?, HW0.out.a1]
      clear hc
      go_wp2_with fail
      go_meet
      exact ⟨by rw [HOB.out]; rfl, Lib.hid (by rw [HOP.out]; exact HW0.out.priv _)⟩
    | false =>
      go_wp2_with fail
      go_meet
      exact ⟨by rw [HOB.out]; rfl, Lib.hid (by unfold rf.privOf; rw [HOB.out]; exact HW0.out)⟩
  case rest =>
  clear HW0 HOB
  obtain ⟨rfl, HW⟩ := hcut
  generalize wc = w1 at *
  have H0 : Hid (GB w1 (w1.alloc (.cells #[] 5)) (.slice (some ⟨w1.heap.size, 0, none⟩) 0 0) [] ∧ rf.TW rf.isNum l (if rf.opens l then 1 else 0) [] (rf.numsOf l) (rf.rest1 l)) := Lib.hid
    ⟨⟨⟨rfl, .inr ⟨w1.heap.size, 0, #[], rfl, Nat.le_refl _, heap_alloc_new _ _, Nat.le_refl _, by unfold maxLen; omega, rfl, rfl⟩⟩, below_one _ _⟩, rf.TW.nums l⟩
  have hd1 : (if rf.opens l then 1 else 0) ≤ n := by
    split
    · rename_i h; have := rf.opens_len h; omega
    · omega
  generalize (if rf.opens l then 1 else 0) = d at *
  go_wp2_with fail
  go_loopg [7, 8] n (fun gg s7 s8 wr => ∃ (k : Nat) (V : Value) (N : List UInt8), V = s8 ∧ s7 = .int .i64 k ∧ k ≤ n ∧ n - k ≤ gg ∧ N.length ≤ k ∧ Hid (GB w1 wr V N ∧ rf.TW rf.isNum l k N (rf.numsOf l) (rf.rest1 l)))
  case atStart => exact ⟨d, _, [], rfl, rfl, hd1, by omega, Nat.zero_le _, H0⟩
  case round =>
    clear H0 hd1
    obtain ⟨k, V, N, rfl, rfl, hk, hgg, hNk, HS⟩ := hrel
    have hs1 : w1.heap.size ≤ wr.heap.size := HS.out.1.bel.size
    have HB : Hid (Bts wr o n cap l) := Lib.hid (HX.out.below (HW.out.below HS.out.1.bel).bel)
    go_upto_region 7 with fail
    go_cut [50] (fun s50 wx => s50 = .bool (decide (k < n ∧ rf.isNum (l.getD k 0) = true)) ∧ wx = wr)
    case first =>
      by_cases hlt : k < n
      · have hki : (k : Int) < (n : Int) := by omega
        obtain ⟨b, off, rfl, hbl, hc⟩ := Bts.byte HB.out (show 0 < n by omega)
        have hck := hc k hlt
        rw [show gl.b l k = ((l.getD k 0).toNat : Nat) from rfl] at hck
        generalize l.getD k 0 = x at *
        clear hc
        by_cases h48 : 48 ≤ x.toNat
        · have h48i : (48 : Int) ≤ ((x.toNat : Nat) : Int) := by omega
          by_cases h57 : x.toNat ≤ 57
          · have h57i : ((x.toNat : Nat) : Int) ≤ 57 := by omega
            go_wp2_with fail
            go_meet
            exact ⟨by simp [rf.isNum, hlt, h48, h57], rfl⟩
          · have h57i : ¬ ((x.toNat : Nat) : Int) ≤ 57 := by omega
            by_cases h59 : x.toNat = 59
            · have h59i : (((x.toNat : Nat) : Int) == 59) = true := by simp; omega
              go_wp2_with fail
              go_meet
              exact ⟨by simp [rf.isNum, hlt, h59], rfl⟩
            · have h59i : (((x.toNat : Nat) : Int) == 59) = false := by simp; omega
              go_wp2_with fail
              go_meet
              exact ⟨by simp [rf.isNum, hlt, h57, h59], rfl⟩
        · have h48i : ¬ (48 : Int) ≤ ((x.toNat : Nat) : Int) := by omega
          have h59i : (((x.toNat : Nat) : Int) == 59) = false := by simp; omega
          go_wp2_with fail
          go_meet
          exact ⟨by simp [rf.isNum, hlt, h48, show x.toNat ≠ 59 by omega], rfl⟩
      · have hki : ¬ (k : Int) < (n : Int) := by omega
        go_wp2_with fail
        go_meet
        exact ⟨by simp [hlt], rfl⟩
    case rest =>
    obtain ⟨rfl, rfl⟩ := hcut
    generalize wc = wr at *
    go_upto_if 50 with fail
    obtain ⟨g, hg⟩ : ∃ g, decide (k < n ∧ rf.isNum (l.getD k 0) = true) = g := ⟨_, rfl⟩
    rw [hg]
    cases g with
    | true =>
      have hg' := of_decide_eq_true hg
      obtain ⟨hlt, hnum⟩ := hg'
      clear hg
      obtain ⟨b, off, rfl, hbl, hc⟩ := Bts.byte HB.out (show 0 < n by omega)
      have hck := hc k hlt
      rw [show gl.b l k = ((l.getD k 0).toNat : Nat) from rfl] at hck
      have HT := Lib.hid (HS.out.2.step (by omega) hnum)
      generalize l.getD k 0 = x at *
      have hki : (k : Int) < (n : Int) := by omega
      have HRA : Hid ((wr.alloc (.cells #[.int .u8 x.toNat] 5)).ownsRow w1.heap.size 5 1 V N.length (cs .u8 (u8s N))) := Lib.hid (HS.out.1.row.alloc _)
      have HBL := Lib.hid HS.out.1.bel
      clear hc hnum HS
      go_wp2_with (at_builtin; refine wpList_append_nums (K := .u8) rfl _ _ 34 rfl w1.heap.size 5 i0 (Value.int .u8 0) 1 Tryd.underlying34 hi hz0 hz1 hz2 (by decide) rfl V N.length (u8s N) rfl HRA.out (some ⟨wr.heap.size, 0, none⟩) 1 1 [(x.toNat : Int)] rfl (nums_one _ _ _) (by omega) (by simp; omega) (fun v' w' r1 r2 r3 => ?_); have HR1 : Hid (GB w1 w' v' (N ++ [x])) := Lib.hid ⟨by rw [List.length_append, u8s_append]; exact r1, HBL.out.trans (((Below.refl w1.heap.size wr).alloc hs1 (.cells #[.int .u8 x.toNat] 5)).trans ((Below.refl w1.heap.size _).grown r2 (by simp; omega) (fun g hg => (HRA.out.lt g hg).1)))⟩; clear r1 r2 r3; clear HRA)
      go_roundg (n - (k + 1))
      case measure => omega
      case rel => exact ⟨k + 1, _, N ++ [x], rfl, by go_num, by omega, Nat.le_refl _, by simp; omega, Lib.hid ⟨HR1.out, HT.out⟩⟩
    | false =>
      have hg' := of_decide_eq_false hg
      obtain ⟨hN, hR⟩ := HS.out.2.stop (fun h => by
        cases he : rf.isNum (l.getD k 0) with
        | false => rfl
        | true => exact absurd ⟨by omega, he⟩ hg')
      subst hN
      obtain ⟨no, nc, rfl, hO⟩ := Own.of (K := .u8) HS.out.1.row
      have HNU : Hid (Own wr w1.heap.size 5 .u8 no (rf.numsOf l).length nc (u8s (rf.numsOf l))) := Lib.hid hO
      have HLT1 : Hid (w.heap.size + 1 < w1.heap.size) := Lib.hid HW.out.lt
      have HW2 := Lib.hid (HW.out.below HS.out.1.bel)
      have H0 : Hid (GB wr (wr.alloc (.cells #[] 5)) (.slice (some ⟨wr.heap.size, 0, none⟩) 0 0) [] ∧ rf.TW rf.isLow l k [] (rf.interOf l) (rf.rest2 l)) := Lib.hid
        ⟨⟨⟨rfl, .inr ⟨wr.heap.size, 0, #[], rfl, Nat.le_refl _, heap_alloc_new _ _, Nat.le_refl _, by unfold maxLen; omega, rfl, rfl⟩⟩, below_one _ _⟩, rf.TW.inters hR⟩
      clear hg hg' hR hO HS HW hs1
      have HK := Lib.hid hk
      have hN1 : (rf.numsOf l).length ≤ n := by omega
      generalize hNL : (rf.numsOf l).length = nn at *
      have HNL := Lib.hid hNL
      generalize wr = w2 at *
      clear hNL hNk hgg hk
      go_wp2_with fail
      go_loopg [7, 9] n (fun gg s7 s9 wr => ∃ (k : Nat) (V : Value) (N : List UInt8), V = s9 ∧ s7 = .int .i64 k ∧ k ≤ n ∧ n - k ≤ gg ∧ N.length ≤ k ∧ Hid (GB w2 wr V N ∧ rf.TW rf.isLow l k N (rf.interOf l) (rf.rest2 l)))
      case atStart => exact ⟨k, _, [], rfl, rfl, HK.out, by omega, Nat.zero_le _, H0⟩
      case round =>
        clear H0
        clear HK
        obtain ⟨k, V, N, rfl, rfl, hk, hgg, hNk, HS⟩ := hrel
        have hs1 : w2.heap.size ≤ wr.heap.size := HS.out.1.bel.size
        have HB : Hid (Bts wr o n cap l) := Lib.hid (HX.out.below (HW2.out.below HS.out.1.bel).bel)
        go_upto_region 11 with fail
        go_cut [71] (fun s71 wx => s71 = .bool (decide (k < n ∧ rf.isLow (l.getD k 0) = true)) ∧ wx = wr)
        case first =>
          by_cases hlt : k < n
          · have hki : (k : Int) < (n : Int) := by omega
            obtain ⟨b, off, rfl, hbl, hc⟩ := Bts.byte HB.out (show 0 < n by omega)
            have hck := hc k hlt
            rw [show gl.b l k = ((l.getD k 0).toNat : Nat) from rfl] at hck
            generalize l.getD k 0 = x at *
            clear hc
            by_cases h48 : x.toNat < 48
            · have h48i : ((x.toNat : Nat) : Int) < 48 := by omega
              go_wp2_with fail
              go_meet
              exact ⟨by simp [rf.isLow, hlt, h48], rfl⟩
            · have h48i : ¬ ((x.toNat : Nat) : Int) < 48 := by omega
              go_wp2_with fail
              go_meet
              exact ⟨by simp [rf.isLow, hlt, h48], rfl⟩
          · have hki : ¬ (k : Int) < (n : Int) := by omega
            go_wp2_with fail
            go_meet
            exact ⟨by simp [hlt], rfl⟩
        case rest =>
        obtain ⟨rfl, rfl⟩ := hcut
        generalize wc = wr at *
        go_upto_if 71 with fail
        obtain ⟨g, hg⟩ : ∃ g, decide (k < n ∧ rf.isLow (l.getD k 0) = true) = g := ⟨_, rfl⟩
        rw [hg]
        cases g with
        | true =>
          have hg' := of_decide_eq_true hg
          obtain ⟨hlt, hnum⟩ := hg'
          clear hg
          obtain ⟨b, off, rfl, hbl, hc⟩ := Bts.byte HB.out (show 0 < n by omega)
          have hck := hc k hlt
          rw [show gl.b l k = ((l.getD k 0).toNat : Nat) from rfl] at hck
          have HT := Lib.hid (HS.out.2.step (by omega) hnum)
          generalize l.getD k 0 = x at *
          have hki : (k : Int) < (n : Int) := by omega
          have HRA : Hid ((wr.alloc (.cells #[.int .u8 x.toNat] 5)).ownsRow w2.heap.size 5 1 V N.length (cs .u8 (u8s N))) := Lib.hid (HS.out.1.row.alloc _)
          have HBL := Lib.hid HS.out.1.bel
          clear hc hnum HS
          go_wp2_with (at_builtin; refine wpList_append_nums (K := .u8) rfl _ _ 34 rfl w2.heap.size 5 i0 (Value.int .u8 0) 1 Tryd.underlying34 hi hz0 hz1 hz2 (by decide) rfl V N.length (u8s N) rfl HRA.out (some ⟨wr.heap.size, 0, none⟩) 1 1 [(x.toNat : Int)] rfl (nums_one _ _ _) (by omega) (by simp; omega) (fun v' w' r1 r2 r3 => ?_); have HR1 : Hid (GB w2 w' v' (N ++ [x])) := Lib.hid ⟨by rw [List.length_append, u8s_append]; exact r1, HBL.out.trans (((Below.refl w2.heap.size wr).alloc hs1 (.cells #[.int .u8 x.toNat] 5)).trans ((Below.refl w2.heap.size _).grown r2 (by simp; omega) (fun g hg => (HRA.out.lt g hg).1)))⟩; clear r1 r2 r3; clear HRA)
          go_roundg (n - (k + 1))
          case measure => omega
          case rel => exact ⟨k + 1, _, N ++ [x], rfl, by go_num, by omega, Nat.le_refl _, by simp; omega, Lib.hid ⟨HR1.out, HT.out⟩⟩
        | false =>
          have hg' := of_decide_eq_false hg
          obtain ⟨hN, hR⟩ := HS.out.2.stop (fun h => by
            cases he : rf.isLow (l.getD k 0) with
            | false => rfl
            | true => exact absurd ⟨by omega, he⟩ hg')
          subst hN
          obtain ⟨io, ic, rfl, hO⟩ := Own.of (K := .u8) HS.out.1.row
          have HIN : Hid (Bts wr io (rf.interOf l).length ic (rf.interOf l)) := Lib.hid hO.nums
          have HNU2 := Lib.hid (HNU.out.below HS.out.1.bel)
          have HW3 := Lib.hid (HW2.out.below HS.out.1.bel)
          have hok : rf.wholeOk l = decide (k = n ∧ (rf.interOf l).length ≤ 2) := by
            refine decide_eq_decide.2 (and_congr_left fun _ => ?_)
            rw [← hR, List.drop_eq_nil_iff, hsz]
            omega
          have HOK := Lib.hid hok
          clear hg hg' hR hO HS HW2 HNU hs1 hok
          generalize hmL : (rf.interOf l).length = m at *
          have HML := Lib.hid hmL
          clear hmL
          go_upto_region 14 with fail
          go_cut [89] (fun s89 wx => s89 = .bool (decide (¬ (k = n ∧ m ≤ 2))) ∧ wx = wr)
          case first =>
            by_cases hlt : k < n
            · have hki : (k : Int) < (n : Int) := by omega
              go_wp2_with fail
              go_meet
              exact ⟨by rw [decide_eq_true (show ¬ (k = n ∧ m ≤ 2) by omega)], rfl⟩
            · have hki : ¬ (k : Int) < (n : Int) := by omega
              by_cases hm2 : 2 < m
              · have hmi : (2 : Int) < (m : Int) := by omega
                go_wp2_with fail
                go_meet
                exact ⟨by rw [decide_eq_true (show ¬ (k = n ∧ m ≤ 2) by omega)], rfl⟩
              · have hmi : ¬ (2 : Int) < (m : Int) := by omega
                go_wp2_with fail
                go_meet
                exact ⟨by rw [decide_eq_false (show ¬ ¬ (k = n ∧ m ≤ 2) by omega)], rfl⟩
          case rest =>
          obtain ⟨rfl, rfl⟩ := hcut
          generalize wc = wr at *
          obtain ⟨g, hg⟩ : ∃ g, decide (¬ (k = n ∧ m ≤ 2)) = g := ⟨_, rfl⟩
          rw [hg]
          have hbad : rf.wholeOk l = !g := by
            rw [HOK.out, ← hg]
            by_cases h : k = n ∧ m ≤ 2
            · rw [decide_eq_true h, decide_eq_false (fun hn => hn h)]; rfl
            · rw [decide_eq_false h, decide_eq_true h]; rfl
          have HBAD := Lib.hid hbad
          have HG := Lib.hid hg
          clear hg hbad HOK hk hgg hNk
          go_upto_if 89 with fail
          cases g with
          | true =>
            have ahg := HW3.out.a0
            have ad0 : wr.cell? ⟨w.heap.size, 0, none⟩ = some (.int .i64 0) := (cell_of_heap ahg).trans rfl
            have ae0 : wr.frozen? ⟨w.heap.size, 0, none⟩ = false := by simp [World.frozen?, ahg]
            have ad1 : wr.cell? ⟨w.heap.size, 1, none⟩ = some (.int .i32 0) := (cell_of_heap ahg).trans rfl
            have ae1 : wr.frozen? ⟨w.heap.size, 1, none⟩ = false := by simp [World.frozen?, ahg]
            have ad2 : wr.cell? ⟨w.heap.size, 2, none⟩ = some (.int .u8 0) := (cell_of_heap ahg).trans rfl
            have ae2 : wr.frozen? ⟨w.heap.size, 2, none⟩ = false := by simp [World.frozen?, ahg]
            have ad3 : wr.cell? ⟨w.heap.size, 3, none⟩ = some (.int .u8 0) := (cell_of_heap ahg).trans rfl
            have ae3 : wr.frozen? ⟨w.heap.size, 3, none⟩ = false := by simp [World.frozen?, ahg]
            have ad4 : wr.cell? ⟨w.heap.size, 4, none⟩ = some (.string ⟨#[]⟩) := (cell_of_heap ahg).trans rfl
            have ae4 : wr.frozen? ⟨w.heap.size, 4, none⟩ = false := by simp [World.frozen?, ahg]
            have ad5 : wr.cell? ⟨w.heap.size, 5, none⟩ = some (.slice none 0 0) := (cell_of_heap ahg).trans rfl
            have ae5 : wr.frozen? ⟨w.heap.size, 5, none⟩ = false := by simp [World.frozen?, ahg]
            have ad6 : wr.cell? ⟨w.heap.size, 6, none⟩ = some (.string ⟨#[]⟩) := (cell_of_heap ahg).trans rfl
            have ae6 : wr.frozen? ⟨w.heap.size, 6, none⟩ = false := by simp [World.frozen?, ahg]
            obtain ⟨hg7, hk7⟩ := store7 ahg (.int .i64 0) (.int .i32 0) (.int .u8 0) (.int .u8 0) (.string ⟨#[]⟩) (.slice none 0 0) (.string ⟨#[]⟩)
            have HG7 := Lib.hid (And.intro hg7 (HW3.out.bel.trans (hk7.below HW3.out.bel.size (fun k hk => by omega))))
            clear hg7 hk7 ahg
            go_wp2_with fail
            refine bodyPost_ret (results_row_tmp rfl _ _ w.heap.size 45 _ (0, 0) _ rfl HG7.out.1 Tryd.underlying45 rfl (by kernel_rfl)) rfl ?_
            have hA : rf.wholeA l f = { kind := 0 } := by unfold rf.wholeA; rw [HBAD.out]; rfl
            rw [hA, HBAD.out]
            exact ⟨HG7.out.2, none, 0, rfl, act1_none _ _ _ rfl⟩
          | false =>
            have hin := conv_row HIN.out m (Nat.le_refl _)
            rw [show (rf.interOf l).take m = rf.interOf l by rw [← HML.out, List.take_length]] at hin
            have bhg := HW3.out.a1
            have bd0 : wr.cell? ⟨w.heap.size + 1, 0, none⟩ = some (.int .i64 4) := (cell_of_heap bhg).trans rfl
            have be0 : wr.frozen? ⟨w.heap.size + 1, 0, none⟩ = false := by simp [World.frozen?, bhg]
            have bd1 : wr.cell? ⟨w.heap.size + 1, 1, none⟩ = some (.int .i32 0) := (cell_of_heap bhg).trans rfl
            have be1 : wr.frozen? ⟨w.heap.size + 1, 1, none⟩ = false := by simp [World.frozen?, bhg]
            have bd2 : wr.cell? ⟨w.heap.size + 1, 2, none⟩ = some (.int .u8 f.toNat) := (cell_of_heap bhg).trans rfl
            have be2 : wr.frozen? ⟨w.heap.size + 1, 2, none⟩ = false := by simp [World.frozen?, bhg]
            have bd3 : wr.cell? ⟨w.heap.size + 1, 3, none⟩ = some (.int .u8 (rf.privOf l)) := (cell_of_heap bhg).trans rfl
            have be3 : wr.frozen? ⟨w.heap.size + 1, 3, none⟩ = false := by simp [World.frozen?, bhg]
            have bd4 : wr.cell? ⟨w.heap.size + 1, 4, none⟩ = some (.string ⟨#[]⟩) := (cell_of_heap bhg).trans rfl
            have be4 : wr.frozen? ⟨w.heap.size + 1, 4, none⟩ = false := by simp [World.frozen?, bhg]
            have bd5 : wr.cell? ⟨w.heap.size + 1, 5, none⟩ = some (.slice none 0 0) := (cell_of_heap bhg).trans rfl
            have be5 : wr.frozen? ⟨w.heap.size + 1, 5, none⟩ = false := by simp [World.frozen?, bhg]
            have bd6 : wr.cell? ⟨w.heap.size + 1, 6, none⟩ = some (.string ⟨#[]⟩) := (cell_of_heap bhg).trans rfl
            have be6 : wr.frozen? ⟨w.heap.size + 1, 6, none⟩ = false := by simp [World.frozen?, bhg]
            obtain ⟨ws, hws⟩ : ∃ ws, ws = wr.setCell ⟨w.heap.size + 1, 4, none⟩ (.string ⟨(rf.interOf l).toArray⟩) := ⟨_, rfl⟩
            have hk4 : Kept wr ws (· = w.heap.size + 1) := by rw [hws]; exact (Kept.refl wr (· = w.heap.size + 1)).setCell (p := ⟨w.heap.size + 1, 4, none⟩) (fun _ => rfl) _
            have H4 := Lib.hid (show ws.heap[w.heap.size + 1]? = some (.cells #[.int .i64 4, .int .i32 0, .int .u8 f.toNat, .int .u8 (rf.privOf l), .string ⟨(rf.interOf l).toArray⟩, .slice none 0 0, .string ⟨#[]⟩] 45 (0, 0)) from hws ▸ heap_setCell_same wr (w.heap.size + 1) 4 _ _ (.string ⟨(rf.interOf l).toArray⟩) bhg)
            have H0 := Lib.hid (hk4.same HW3.out.a0 (by omega))
            have HB4 := Lib.hid (HW3.out.bel.trans (hk4.below HW3.out.bel.size (fun k hk => by omega)))
            have HNU4 := Lib.hid (HNU2.out.kept hk4 (fun a ha e => by have := (HNU2.out.lt a ha).1; have := HLT1.out; omega)).nums
            clear bhg hk4
            go_upto_region 17 with fail
            rw [← hws]
            clear hws
            clear bd0 be0 bd1 be1 bd2 be2 bd3 be3 bd4 be4 bd5 be5 bd6 be6 hin
            clear HNU2 HIN HW3
            go_wp2_with fail
            refine (refNumbers_any no nn nc (rf.numsOf l) ws HNU4.out (rf.numsOf_num l) (by omega)).mono ?_
            rintro e w4 ⟨po, pc, rfl, hO, hB⟩
            have HO := Lib.hid hO
            have hlt4 : w.heap.size + 1 < ws.heap.size := (Array.getElem?_eq_some_iff.1 H4.out).1
            have H41 := Lib.hid ((hB.block _ hlt4).trans H4.out)
            have H40 := Lib.hid ((hB.block _ (show w.heap.size < ws.heap.size by omega)).trans H0.out)
            have HB5 := Lib.hid (HB4.out.trans (hB.mono HB4.out.size))
            have HSZ := Lib.hid (And.intro hlt4 hB.size)
            clear hO hB hlt4 H4 H0 HB4 HNU4
            generalize hpn : (rf.numbers (rf.numsOf l)).length = pn at *
            have HPN := Lib.hid hpn
            clear hpn
            obtain ⟨w5, hw5⟩ : ∃ w5, w5 = w4.setCell ⟨w.heap.size + 1, 5, none⟩ (.slice po pn pc) := ⟨_, rfl⟩
            have hk5 : Kept w4 w5 (· = w.heap.size + 1) := by rw [hw5]; exact (Kept.refl w4 (· = w.heap.size + 1)).setCell (p := ⟨w.heap.size + 1, 5, none⟩) (fun _ => rfl) _
            have H51 := Lib.hid (show w5.heap[w.heap.size + 1]? = some (.cells #[.int .i64 4, .int .i32 0, .int .u8 f.toNat, .int .u8 (rf.privOf l), .string ⟨(rf.interOf l).toArray⟩, .slice po pn pc, .string ⟨#[]⟩] 45 (0, 0)) from hw5 ▸ heap_setCell_same w4 (w.heap.size + 1) 5 _ _ (.slice po pn pc) H41.out)
            have H50 := Lib.hid (hk5.same H40.out (by omega))
            have HB6 := Lib.hid (HB5.out.trans (hk5.below HB5.out.size (fun k hk => by omega)))
            have HO5 := Lib.hid (HO.out.kept hk5 (fun a ha e => by have := (HO.out.lt a ha).1; have := HSZ.out.1; omega))
            have chg := H41.out
            have cd5 : w4.cell? ⟨w.heap.size + 1, 5, none⟩ = some (.slice none 0 0) := (cell_of_heap chg).trans rfl
            have ce5 : w4.frozen? ⟨w.heap.size + 1, 5, none⟩ = false := by simp [World.frozen?, chg]
            clear chg hk5 H41 H40 HB5 HO
            go_upto_region 18 with fail
            rw [← hw5]
            clear hw5 cd5 ce5
            have ahg := H50.out
            have ad0 : w5.cell? ⟨w.heap.size, 0, none⟩ = some (.int .i64 0) := (cell_of_heap ahg).trans rfl
            have ae0 : w5.frozen? ⟨w.heap.size, 0, none⟩ = false := by simp [World.frozen?, ahg]
            have ad1 : w5.cell? ⟨w.heap.size, 1, none⟩ = some (.int .i32 0) := (cell_of_heap ahg).trans rfl
            have ae1 : w5.frozen? ⟨w.heap.size, 1, none⟩ = false := by simp [World.frozen?, ahg]
            have ad2 : w5.cell? ⟨w.heap.size, 2, none⟩ = some (.int .u8 0) := (cell_of_heap ahg).trans rfl
            have ae2 : w5.frozen? ⟨w.heap.size, 2, none⟩ = false := by simp [World.frozen?, ahg]
            have ad3 : w5.cell? ⟨w.heap.size, 3, none⟩ = some (.int .u8 0) := (cell_of_heap ahg).trans rfl
            have ae3 : w5.frozen? ⟨w.heap.size, 3, none⟩ = false := by simp [World.frozen?, ahg]
            have ad4 : w5.cell? ⟨w.heap.size, 4, none⟩ = some (.string ⟨#[]⟩) := (cell_of_heap ahg).trans rfl
            have ae4 : w5.frozen? ⟨w.heap.size, 4, none⟩ = false := by simp [World.frozen?, ahg]
            have ad5 : w5.cell? ⟨w.heap.size, 5, none⟩ = some (.slice none 0 0) := (cell_of_heap ahg).trans rfl
            have ae5 : w5.frozen? ⟨w.heap.size, 5, none⟩ = false := by simp [World.frozen?, ahg]
            have ad6 : w5.cell? ⟨w.heap.size, 6, none⟩ = some (.string ⟨#[]⟩) := (cell_of_heap ahg).trans rfl
            have ae6 : w5.frozen? ⟨w.heap.size, 6, none⟩ = false := by simp [World.frozen?, ahg]
            obtain ⟨hg7, hk7⟩ := store7 ahg (.int .i64 4) (.int .i32 0) (.int .u8 f.toNat) (.int .u8 (rf.privOf l)) (.string ⟨(rf.interOf l).toArray⟩) (.slice po pn pc) (.string ⟨#[]⟩)
            have HG7 := Lib.hid (And.intro hg7 (And.intro (HO5.out.kept hk7 (fun a ha e => by have := (HO5.out.lt a ha).1; have := HSZ.out.1; omega)) (HB6.out.trans (hk7.below HB6.out.size (fun k hk => by omega)))))
            clear hg7 hk7 ahg
            have hrow := H51.out
            have gd0 : w5.cell? ⟨w.heap.size + 1, 0, none⟩ = some (.int .i64 4) := (cell_of_heap hrow).trans rfl
            have gd1 : w5.cell? ⟨w.heap.size + 1, 1, none⟩ = some (.int .i32 0) := (cell_of_heap hrow).trans rfl
            have gd2 : w5.cell? ⟨w.heap.size + 1, 2, none⟩ = some (.int .u8 f.toNat) := (cell_of_heap hrow).trans rfl
            have gd3 : w5.cell? ⟨w.heap.size + 1, 3, none⟩ = some (.int .u8 (rf.privOf l)) := (cell_of_heap hrow).trans rfl
            have gd4 : w5.cell? ⟨w.heap.size + 1, 4, none⟩ = some (.string ⟨(rf.interOf l).toArray⟩) := (cell_of_heap hrow).trans rfl
            have gd5 : w5.cell? ⟨w.heap.size + 1, 5, none⟩ = some (.slice po pn pc) := (cell_of_heap hrow).trans rfl
            have gd6 : w5.cell? ⟨w.heap.size + 1, 6, none⟩ = some (.string ⟨#[]⟩) := (cell_of_heap hrow).trans rfl
            clear hrow
            go_wp2_with fail
            refine bodyPost_ret (results_row_tmp rfl _ _ w.heap.size 45 _ (0, 0) _ rfl HG7.out.1 Tryd.underlying45 rfl (by kernel_rfl)) rfl ?_
            have hA : rf.wholeA l f = rf.whole l f := by unfold rf.wholeA; rw [HBAD.out]; rfl
            rw [hA, HBAD.out]
            refine ⟨HG7.out.2.2, po, pc, ?_, act1_own (B := w.heap.size) (a := rf.whole l f) (n := pn) HG7.out.2.1 (by have := HSZ.out.1; omega) HPN.out⟩
            rw [← HPN.out]
            rfl
end Go.Proofs.YtgkodjkhhmcnnaaDoor
