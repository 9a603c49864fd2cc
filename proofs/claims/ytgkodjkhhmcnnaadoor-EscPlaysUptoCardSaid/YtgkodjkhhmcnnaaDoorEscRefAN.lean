/- The document's parser, first part: add, runes, rest. The document's parser, second part: numbers. -/
import Derived.Test.YtgkodjkhhmcnnaaDoorEscRefSim2
import Derived.Test.YtgkodjkhhmcnnaaDoorEscPG
namespace Go.Proofs.YtgkodjkhhmcnnaaDoor
open Go.RowKit

/-- a row of bytes as it grows -/
structure GB (w wr : World) (V : Value) (l : List UInt8) : Prop where
  row : wr.ownsRow w.heap.size 5 1 V l.length (cs .u8 (u8s l))
  bel : Below w.heap.size w wr
/-- a row of acts as it grows -/
structure GA (w wr : World) (V : Value) (l : List es.Act) : Prop where
  acts : ActsAt wr w.heap.size V l
  bel : Below w.heap.size w wr
theorem GA.start (w : World) : GA w (w.alloc (.cells #[] 45)) (.slice (some ⟨w.heap.size, 0, none⟩) 0 0) [] :=
  ⟨⟨[], rfl, ⟨rfl, .inr ⟨w.heap.size, 0, #[], rfl, Nat.le_refl _, heap_alloc_new _ _, Nat.le_refl _, by unfold maxLen; omega, rfl, rfl⟩⟩, fun q hq => by cases hq⟩, below_one _ _⟩
set_option maxRecDepth 100000 in
set_option maxHeartbeats 1600000 in
theorem refAdd_any (o : Option Addr) (n cap : Nat) (l : List UInt8) (c : UInt8) (w : World) (hx : Bts w o n cap l) (hn : n ≤ 1099511627776) :
    Calls Tryd.prog 40 #[.slice o n cap, .int .u8 c.toNat] w fun e w' => ∃ ro rc, e = .returned (.slice ro (n + 1) rc) ∧ Own w' w.heap.size 5 .u8 ro (n + 1) rc (u8s (l ++ [c])) ∧ Below w.heap.size w w' := by
  obtain ⟨i0, hi, hz0, hz1, hz2⟩ := info_parts infoB
  have hmx : cap ≤ 9223372036854775807 := hx.max
  have hle := hx.le
  have hsz := hx.size
  have HX := Lib.hid hx
  have H0 : Hid (GB w (w.alloc (.cells #[] 5)) (.slice (some ⟨w.heap.size, 0, none⟩) 0 0) []) := Lib.hid
    ⟨⟨rfl, .inr ⟨w.heap.size, 0, #[], rfl, Nat.le_refl _, heap_alloc_new _ _, Nat.le_refl _, by unfold maxLen; omega, rfl, rfl⟩⟩, below_one _ _⟩
  clear hx
  go_enter Tryd.func40, Tryd.ntmps40
  go_wp2_with fail
  go_loopg [5, 6] n (fun gg s5 s6 wr => ∃ (k : Nat) (V : Value), V = s5 ∧ s6 = .int .i64 k ∧ k ≤ n ∧ n - k ≤ gg ∧ Hid (GB w wr V (l.take k)))
  case atStart => exact ⟨0, _, rfl, rfl, Nat.zero_le _, by omega, H0⟩
  case round =>
    clear H0
    obtain ⟨k, V, rfl, rfl, hk, hgg, HS⟩ := hrel
    have hs1 : w.heap.size ≤ wr.heap.size := HS.out.bel.size
    have htl : (l.take k).length = k := by rw [List.length_take]; omega
    by_cases hlt : k < n
    · obtain ⟨b, off, rfl, hbl, hc⟩ := Bts.byte (HX.out.below HS.out.bel) (by omega)
      have hkl : k < l.length := by omega
      have hck : wr.cell? ⟨b, off + k, none⟩ = some (.int .u8 (l[k].toNat : Nat)) := by rw [hc k hlt]; simp [gl.b, List.getD, hkl]
      have HN : Hid (l.take (k + 1) = l.take k ++ [l[k]]) := Lib.hid (by rw [List.take_add_one, List.getElem?_eq_getElem hkl]; rfl)
      generalize l[k] = x at *
      have hki : (k : Int) < (n : Int) := by omega
      generalize hPg : l.take k = P at *
      have HRA : Hid ((wr.alloc (.cells #[.int .u8 x.toNat] 5)).ownsRow w.heap.size 5 1 V P.length (cs .u8 (u8s P))) := Lib.hid (HS.out.row.alloc _)
      clear hc hPg
      go_wp2_with (at_builtin; refine wpList_append_nums (K := .u8) rfl _ _ 34 rfl w.heap.size 5 i0 (Value.int .u8 0) 1 Tryd.underlying34 hi hz0 hz1 hz2 (by decide) rfl V P.length (u8s P) rfl HRA.out (some ⟨wr.heap.size, 0, none⟩) 1 1 [(x.toNat : Int)] rfl (nums_one _ _ _) (by omega) (by simp; omega) (fun v' w' r1 r2 r3 => ?_); have HR1 : Hid (GB w w' v' (P ++ [x])) := Lib.hid ⟨by rw [List.length_append, u8s_append]; exact r1, HS.out.bel.trans (((Below.refl w.heap.size wr).alloc hs1 (.cells #[.int .u8 x.toNat] 5)).trans ((Below.refl w.heap.size _).grown r2 (by simp; omega) (fun g hg => (HRA.out.lt g hg).1)))⟩; clear r1 r2 r3; clear HRA)
      go_roundg (n - (k + 1))
      case measure => omega
      case rel => exact ⟨k + 1, _, rfl, by go_num, by omega, Nat.le_refl _, by rw [HN.out]; exact HR1⟩
    · obtain rfl : k = n := by omega
      have hki : ¬ (k : Int) < (k : Int) := by omega
      have htk : l.take k = l := by rw [← hsz, List.take_length]
      rw [htk] at HS
      have HRA : Hid ((wr.alloc (.cells #[.int .u8 c.toNat] 5)).ownsRow w.heap.size 5 1 V l.length (cs .u8 (u8s l))) := Lib.hid (HS.out.row.alloc _)
      go_wp2_with (at_builtin; refine wpList_append_nums (K := .u8) rfl _ _ 34 rfl w.heap.size 5 i0 (Value.int .u8 0) 1 Tryd.underlying34 hi hz0 hz1 hz2 (by decide) rfl V l.length (u8s l) rfl HRA.out (some ⟨wr.heap.size, 0, none⟩) 1 1 [(c.toNat : Int)] rfl (nums_one _ _ _) (by omega) (by simp; omega) (fun v' w' r1 r2 r3 => ?_); have HR1 : Hid (GB w w' v' (l ++ [c])) := Lib.hid ⟨by rw [List.length_append, u8s_append]; exact r1, HS.out.bel.trans (((Below.refl w.heap.size wr).alloc hs1 (.cells #[.int .u8 c.toNat] 5)).trans ((Below.refl w.heap.size _).grown r2 (by simp; omega) (fun g hg => (HRA.out.lt g hg).1)))⟩; clear r1 r2 r3; clear HRA)
      go_ret
      have hrow := HR1.out.row
      rw [List.length_append, hsz] at hrow
      obtain ⟨ro, rc, rfl, hO⟩ := Own.of (K := .u8) hrow
      exact ⟨ro, rc, rfl, hO, HR1.out.bel⟩
set_option maxRecDepth 100000 in
set_option maxHeartbeats 1600000 in
theorem refRunesA_any (o : Option Addr) (n cap : Nat) (zs : List Int) (w : World) (hx : Nums .i32 w o n cap zs) (hn : n ≤ 1099511627776) :
    Calls Tryd.prog 41 #[.slice o n cap] w fun e w' => ∃ V, e = .returned V ∧ ActsAt w' w.heap.size V (zs.map es.print) ∧ Below w.heap.size w w' := by
  have hmx : cap ≤ 9223372036854775807 := hx.max
  have hle := hx.le
  have hsz := hx.len
  have HX := Lib.hid hx
  have H0 := Lib.hid (GA.start w)
  clear hx
  go_enter Tryd.func41, Tryd.ntmps41
  go_wp2_with fail
  go_loopg [3, 4] n (fun gg s3 s4 wr => ∃ (k : Nat) (V : Value), V = s3 ∧ s4 = .int .i64 k ∧ k ≤ n ∧ n - k ≤ gg ∧ Hid (GA w wr V ((zs.take k).map es.print)))
  case atStart => exact ⟨0, _, rfl, rfl, Nat.zero_le _, by omega, H0⟩
  case round =>
    clear H0
    obtain ⟨k, V, rfl, rfl, hk, hgg, HS⟩ := hrel
    have hs1 : w.heap.size ≤ wr.heap.size := HS.out.bel.size
    by_cases hlt : k < n
    · obtain ⟨b, off, rfl, hb, hc⟩ := (HX.out.below HS.out.bel).cell hlt
      have HN : Hid ((zs.take (k + 1)).map es.print = (zs.take k).map es.print ++ [es.print (zs.getD k 0)]) := Lib.hid (by
        have hkl : k < zs.length := by omega
        have e : zs.getD k 0 = zs[k] := by simp [List.getD, hkl]
        rw [List.take_add_one, List.getElem?_eq_getElem hkl, List.map_append, e]
        rfl)
      have htl : ((zs.take k).map es.print).length ≤ 1099511627776 := by simp; omega
      generalize zs.getD k 0 = r at *
      generalize (zs.take k).map es.print = P at *
      have hki : (k : Int) < (n : Int) := by omega
      have hb1 := below_one wr (Obj.cells #[.int .i64 1, .int .i32 r, .int .u8 0, .int .u8 0, .string ⟨#[]⟩, .slice none 0 0, .string ⟨#[]⟩] 45)
      have HT := Lib.hid (And.intro (HS.out.acts.below hb1) (And.intro (act1_none (wr.alloc (Obj.cells #[.int .i64 1, .int .i32 r, .int .u8 0, .int .u8 0, .string ⟨#[]⟩, .slice none 0 0, .string ⟨#[]⟩] 45)) w.heap.size (es.print r) rfl) (heap_alloc_new wr (Obj.cells #[.int .i64 1, .int .i32 r, .int .u8 0, .int .u8 0, .string ⟨#[]⟩, .slice none 0 0, .string ⟨#[]⟩] 45))))
      have HB1 := Lib.hid (HS.out.bel.trans (hb1.mono hs1))
      clear hb1
      go_wp2_with (at_builtin; refine wpList_append_act rfl _ _ rfl w.heap.size V P rfl HT.out.1 wr.heap.size (es.print r) none 0 rfl HT.out.2.2 HT.out.2.1 htl (by simp; omega) (fun v' w' r1 r2 => ?_); have HR1 : Hid (GA w w' v' (P ++ [es.print r])) := Lib.hid ⟨r1, HB1.out.trans r2⟩; clear r1 r2)
      go_roundg (n - (k + 1))
      case measure => omega
      case rel => exact ⟨k + 1, _, rfl, by go_num, by omega, Nat.le_refl _, by rw [HN.out]; exact HR1⟩
    · obtain rfl : k = n := by omega
      have hki : ¬ (k : Int) < (k : Int) := by omega
      have htk : zs.take k = zs := by rw [← hsz, List.take_length]
      rw [htk] at HS
      go_wp2_with fail
      go_ret
      exact ⟨V, rfl, HS.out.acts, HS.out.bel⟩
/-- the document's state as a value -/
def StV (w : World) (v : Value) (s : rf.St) : Prop := ∃ wo wn wc go gn gc, v = .agg #[.int .i64 s.inn, .slice wo wn wc, .slice go gn gc, .int .u8 s.sign] ∧ Bts w wo wn wc s.wait ∧ Bts w go gn gc s.got
theorem StV.below {w w' : World} {v : Value} {s : rf.St} (h : StV w v s) (hb : Below w.heap.size w w') : StV w' v s := by
  obtain ⟨wo, wn, wc, go, gn, gc, h1, h2, h3⟩ := h
  exact ⟨wo, wn, wc, go, gn, gc, h1, h2.below hb, h3.below hb⟩
theorem Bts.nil' (w : World) : Bts w none 0 0 [] := Nums.nil _ _
theorem StV.zero (w : World) : StV w (.agg #[.int .i64 0, .slice none 0 0, .slice none 0 0, .int .u8 0]) {} := ⟨_, _, _, _, _, _, rfl, Bts.nil' w, Bts.nil' w⟩
set_option maxRecDepth 100000 in
set_option maxHeartbeats 1600000 in
theorem refRest_any (inn : Int) (wo : Option Addr) (wn wc : Nat) (l : List UInt8) (gv : Value) (go : Option Addr) (gn gc : Nat) (sg : Int) (w : World) (hg : gv = .slice go gn gc) (hx : Bts w wo wn wc l) (hn : wn ≤ 1099511627776) :
    Calls Tryd.prog 36 #[.agg #[.int .i64 inn, .slice wo wn wc, gv, .int .u8 sg]] w fun e w' => ∃ V, e = .returned V ∧ ActsAt w' w.heap.size V (List.replicate l.length (es.print 65533)) ∧ Below w.heap.size w w' := by
  subst hg
  have hsz := hx.size
  have HB0 := Lib.hid (below_one w (.cells #[.int .i64 inn, .slice wo wn wc, .slice go gn gc, .int .u8 sg] 36))
  have hc0 : (w.alloc (.cells #[.int .i64 inn, .slice wo wn wc, .slice go gn gc, .int .u8 sg] 36)).cell? ⟨w.heap.size, 1, none⟩ = some (.slice wo wn wc) := cell_of_heap (heap_alloc_new w _)
  have hlt0 : w.heap.size < (w.alloc (.cells #[.int .i64 inn, .slice wo wn wc, .slice go gn gc, .int .u8 sg] 36)).heap.size := by simp
  have h1 := GA.start (w.alloc (.cells #[.int .i64 inn, .slice wo wn wc, .slice go gn gc, .int .u8 sg] 36))
  have e1 : (w.alloc (.cells #[.int .i64 inn, .slice wo wn wc, .slice go gn gc, .int .u8 sg] 36)).heap.size = w.heap.size + 1 := by simp
  rw [e1] at h1
  have H0 := Lib.hid h1
  clear hx e1 h1
  go_enter Tryd.func36, Tryd.ntmps36
  go_wp2_with fail
  generalize w.alloc (.cells #[.int .i64 inn, .slice wo wn wc, .slice go gn gc, .int .u8 sg] 36) = ws at *
  generalize hwz : w.heap.size = g at *
  have HWZ := Lib.hid hwz
  clear hwz
  go_loopg [3, 4] wn (fun gg s3 s4 wr => ∃ (k : Nat) (V : Value), V = s3 ∧ s4 = .int .i64 k ∧ k ≤ wn ∧ wn - k ≤ gg ∧ Hid (GA ws wr V (List.replicate k (es.print 65533))))
  case atStart => exact ⟨0, _, rfl, rfl, Nat.zero_le _, by omega, H0⟩
  case round =>
    clear H0
    obtain ⟨k, V, rfl, rfl, hk, hgg, HS⟩ := hrel
    have hs1 : ws.heap.size ≤ wr.heap.size := HS.out.bel.size
    have hc1 : wr.cell? ⟨g, 1, none⟩ = some (.slice wo wn wc) := (HS.out.bel.cell (p := ⟨g, 1, none⟩) hlt0).trans hc0
    by_cases hlt : k < wn
    · have hki : (k : Int) < (wn : Int) := by omega
      have HN : Hid (List.replicate (k + 1) (es.print 65533) = List.replicate k (es.print 65533) ++ [es.print 65533]) := Lib.hid List.replicate_succ'
      have htl : (List.replicate k (es.print 65533)).length ≤ 1099511627776 := by simp; omega
      generalize List.replicate k (es.print 65533) = P at *
      have hb1 := below_one wr (Obj.cells #[.int .i64 1, .int .i32 65533, .int .u8 0, .int .u8 0, .string ⟨#[]⟩, .slice none 0 0, .string ⟨#[]⟩] 45)
      have HT := Lib.hid (And.intro (HS.out.acts.below hb1) (And.intro (act1_none (wr.alloc (Obj.cells #[.int .i64 1, .int .i32 65533, .int .u8 0, .int .u8 0, .string ⟨#[]⟩, .slice none 0 0, .string ⟨#[]⟩] 45)) ws.heap.size (es.print 65533) rfl) (heap_alloc_new wr (Obj.cells #[.int .i64 1, .int .i32 65533, .int .u8 0, .int .u8 0, .string ⟨#[]⟩, .slice none 0 0, .string ⟨#[]⟩] 45))))
      have HB1 := Lib.hid (HS.out.bel.trans (hb1.mono hs1))
      clear hb1
      go_wp2_with (at_builtin; refine wpList_append_act rfl _ _ rfl ws.heap.size V P rfl HT.out.1 wr.heap.size (es.print 65533) none 0 rfl HT.out.2.2 HT.out.2.1 htl (by simp; omega) (fun v' w' r1 r2 => ?_); have HR1 : Hid (GA ws w' v' (P ++ [es.print 65533])) := Lib.hid ⟨r1, HB1.out.trans r2⟩; clear r1 r2)
      go_roundg (wn - (k + 1))
      case measure => omega
      case rel => exact ⟨k + 1, _, rfl, by go_num, by omega, Nat.le_refl _, by rw [HN.out]; exact HR1⟩
    · obtain rfl : k = wn := by omega
      have hki : ¬ (k : Int) < (k : Int) := by omega
      go_wp2_with fail
      go_ret
      have hle : w.heap.size ≤ ws.heap.size := HB0.out.size
      refine ⟨V, rfl, ?_, ?_⟩
      · exact HS.out.acts.base_le hle
      · rw [HWZ.out]; exact HB0.out.trans (HS.out.bel.mono (by rw [← HWZ.out]; exact hle))
end Go.Proofs.YtgkodjkhhmcnnaaDoor
namespace Go.Proofs.YtgkodjkhhmcnnaaDoor
open Go.RowKit

/-- the numbers as they grow -/
structure GN (w wr : World) (V : Value) (u : List Int) : Prop where
  row : wr.ownsRow w.heap.size 3 1 V u.length (cs .i64 u)
  bel : Below w.heap.size w wr
  ne : 0 < u.length
  bnd : ∀ z ∈ u, -1 ≤ z ∧ z ≤ 9999
theorem GN.last {w wr : World} {V : Value} {u : List Int} (h : GN w wr V u) : ∃ g m c, u.length = m + 1 ∧ V = .slice (some ⟨g, 0, none⟩) (m + 1) c ∧ m + 1 ≤ c ∧ c ≤ maxLen ∧ w.heap.size ≤ g ∧ wr.cell? ⟨g, m, none⟩ = some (.int .i64 (u.getD m 0)) ∧ wr.frozen? ⟨g, m, none⟩ = false ∧ (∀ d : Int, -1 ≤ d → d ≤ 9999 → GN w (wr.setCell ⟨g, m, none⟩ (.int .i64 d)) V (u.set m d)) := by
  obtain ⟨g, c, e, h1, h2, h3, h4⟩ := own_some h.row h.ne
  obtain ⟨m, hm⟩ : ∃ m, u.length = m + 1 := ⟨u.length - 1, by have := h.ne; omega⟩
  have hrow := h.row
  rw [hm] at e h3 hrow
  subst e
  refine ⟨g, m, c, hm, rfl, h3, h4, h1, ?_, hrow.frozenAt m, fun d hd1 hd2 => ⟨?_, ?_, by simpa using h.ne, fun z hz => ?_⟩⟩
  · have := own_cell (d := Value.int .i64 0) hrow (j := m) (by omega)
    rw [this]
    simp [cs, List.getD, show m < u.length by omega]
  · have := own_set hrow m (.int .i64 d)
    rw [List.length_set, hm, show cs .i64 (u.set m d) = (cs .i64 u).set m (.int .i64 d) by simp [cs, List.map_set]]
    exact this
  · exact ⟨h.bel.os, h.bel.tape, h.bel.output, by simpa using h.bel.size, fun k hk => (Below.heap_setCell _ _ _ k (by show k ≠ g; omega)).trans (h.bel.block k hk)⟩
  · rcases List.mem_or_eq_of_mem_set hz with h' | h'
    · exact h.bnd z h'
    · subst h'; exact ⟨hd1, hd2⟩
theorem row_take {w : World} {B : Nat} {e : TypeId} {o : Option Addr} {n c : Nat} {xs : List Value} (h : w.ownsRow B e 1 (.slice o n c) n xs) (m : Nat) (hm : m ≤ n) : w.ownsRow B e 1 (.slice o m c) m (xs.take m) := by
  have hlen := h.1
  refine ⟨by rw [List.length_take]; omega, ?_⟩
  rcases h.2 with ⟨e1, h0⟩ | ⟨g, cap, cur, e1, hB, hg, hc, hmx, hs, ht⟩
  · cases e1
    obtain rfl : m = 0 := by omega
    exact .inl ⟨rfl, rfl⟩
  · cases e1
    refine .inr ⟨g, c, cur, rfl, hB, hg, by omega, hmx, hs, ?_⟩
    have : cur.toList.take (m * 1) = (cur.toList.take (n * 1)).take (m * 1) := by rw [List.take_take]; congr 1; omega
    rw [this, ht, Nat.mul_one]
theorem digit_bnd (x : Int) (b : UInt8) (hb : 48 ≤ b.toNat) : -1 ≤ es.digit x b ∧ es.digit x b ≤ 9999 := by unfold es.digit; omega
set_option maxRecDepth 100000 in
set_option maxHeartbeats 3200000 in
theorem refNumbers_any (o : Option Addr) (n cap : Nat) (l : List UInt8) (w : World) (hx : Bts w o n cap l) (hl : ∀ b ∈ l, rf.isNum b = true) (hn : n ≤ 1099511627776) :
    Calls Tryd.prog 79 #[.slice o n cap] w fun e w' => ∃ ro rc, e = .returned (.slice ro (rf.numbers l).length rc) ∧ Own w' w.heap.size 3 .i64 ro (rf.numbers l).length rc (rf.numbers l) ∧ Below w.heap.size w w' := by
  obtain ⟨i0, hi, hz0, hz1, hz2⟩ := info_parts infoI
  have hmx : cap ≤ 9223372036854775807 := hx.max
  have hle := hx.le
  have hsz := hx.size
  have HX := Lib.hid hx
  by_cases h0 : n = 0
  · subst h0
    obtain rfl : l = [] := List.length_eq_zero_iff.1 hsz
    clear hx
    go_enter Tryd.func79, Tryd.ntmps79
    go_wp2_with fail
    go_ret
    exact ⟨none, 0, rfl, Own.nil _ _ _ _, Below.refl _ _⟩
  have e0 : ((n : Int) == 0) = false := by simp; omega
  have hne : l ≠ [] := fun h => h0 (by rw [← hsz, h]; rfl)
  have H0 : Hid (GN w (w.alloc (.cells #[.int .i64 (-1)] 3)) (.slice (some ⟨w.heap.size, 0, none⟩) 1 1) ((l.take 0).foldl rf.numStep [-1])) := Lib.hid
    ⟨⟨rfl, .inr ⟨w.heap.size, 1, #[.int .i64 (-1)], rfl, Nat.le_refl _, heap_alloc_new _ _, Nat.le_refl _, by unfold maxLen; omega, rfl, rfl⟩⟩, below_one _ _, by simp, fun z hz => by simp at hz; omega⟩
  have HL := Lib.hid hl
  have HNU : Hid (rf.numbers l = (l.foldl rf.numStep [-1]).take 16) := Lib.hid (by unfold rf.numbers; rw [if_neg hne])
  clear hx hl hne
  go_enter Tryd.func79, Tryd.ntmps79
  go_wp2_with fail
  go_loopg [3, 4] n (fun gg s3 s4 wr => ∃ (k : Nat) (V : Value), V = s3 ∧ s4 = .int .i64 k ∧ k ≤ n ∧ n - k ≤ gg ∧ ((l.take k).foldl rf.numStep [-1]).length ≤ k + 1 ∧ Hid (GN w wr V ((l.take k).foldl rf.numStep [-1])))
  case atStart => exact ⟨0, _, rfl, rfl, Nat.zero_le _, by omega, by simp, H0⟩
  case round =>
    clear H0
    obtain ⟨k, V, rfl, rfl, hk, hgg, hul, HS⟩ := hrel
    have hs1 : w.heap.size ≤ wr.heap.size := HS.out.bel.size
    by_cases hlt : k < n
    · obtain ⟨b, off, rfl, hbl, hc⟩ := Bts.byte (HX.out.below HS.out.bel) (by omega)
      have hkl : k < l.length := by omega
      have hck : wr.cell? ⟨b, off + k, none⟩ = some (.int .u8 (l[k].toNat : Nat)) := by rw [hc k hlt]; simp [gl.b, List.getD, hkl]
      have HN : Hid ((l.take (k + 1)).foldl rf.numStep [-1] = rf.numStep ((l.take k).foldl rf.numStep [-1]) l[k]) := Lib.hid (by
        rw [List.take_add_one, List.getElem?_eq_getElem hkl, List.foldl_append]
        rfl)
      have hnum := HL.out l[k] (List.getElem_mem hkl)
      simp only [rf.isNum, decide_eq_true_eq] at hnum
      generalize l[k] = x at *
      generalize (l.take k).foldl rf.numStep [-1] = u at *
      have hki : (k : Int) < (n : Int) := by omega
      clear hc
      by_cases h59 : x.toNat = 59
      · have e1 : (((x.toNat : Nat) : Int) == 59) = true := by simp [h59]
        have HN2 : Hid (rf.numStep u x = u ++ [-1]) := Lib.hid (by unfold rf.numStep; rw [if_pos h59])
        have HRA : Hid ((wr.alloc (.cells #[.int .i64 (-1)] 3)).ownsRow w.heap.size 3 1 V u.length (cs .i64 u)) := Lib.hid (HS.out.row.alloc _)
        clear h59 hnum
        go_wp2_with (at_builtin; refine wpList_append_nums (K := .i64) rfl _ _ 43 rfl w.heap.size 3 i0 (Value.int .i64 0) 8 Tryd.underlying43 hi hz0 hz1 hz2 (by decide) rfl V u.length u rfl HRA.out (some ⟨wr.heap.size, 0, none⟩) 1 1 [-1] rfl (nums_one _ _ _) (by omega) (by simp; omega) (fun v' w' r1 r2 r3 => ?_); have HR1 : Hid (GN w w' v' (u ++ [-1])) := Lib.hid ⟨by rw [List.length_append]; exact r1, HS.out.bel.trans (((Below.refl w.heap.size wr).alloc hs1 (.cells #[.int .i64 (-1)] 3)).trans ((Below.refl w.heap.size _).grown r2 (by simp; omega) (fun g hg => (HRA.out.lt g hg).1))), by simp, fun z hz => by rcases List.mem_append.1 hz with h | h; exact HS.out.bnd z h; simp at h; omega⟩; clear r1 r2 r3; clear HRA)
        go_roundg (n - (k + 1))
        case measure => omega
        case rel => exact ⟨k + 1, _, rfl, by go_num, by omega, Nat.le_refl _, by rw [HN.out, HN2.out, List.length_append]; simp; omega, by rw [HN.out, HN2.out]; exact HR1⟩
      · have e1 : (((x.toNat : Nat) : Int) == 59) = false := by simp; omega
        obtain ⟨g, m, c, hum, rfl, hmc, hcm, hgw, hcell, hfr, hst⟩ := HS.out.last
        have hcm' : c ≤ 9223372036854775807 := hcm
        have HN2 : Hid (rf.numStep u x = u.set m (es.digit (u.getD m 0) x)) := Lib.hid (by unfold rf.numStep; rw [if_neg h59, hum]; rfl)
        have hzb := HS.out.bnd (u.getD m 0) (by simp [List.getD, show m < u.length by omega])
        have hdb := digit_bnd (u.getD m 0) x (by omega)
        have HST := Lib.hid (hst _ hdb.1 hdb.2)
        have HDG : Hid (es.digit (u.getD m 0) x = min (max (u.getD m 0) 0 * 10 + ((x.toNat : Int) - 48)) 9999) := Lib.hid rfl
        have hx57 : 48 ≤ x.toNat ∧ x.toNat ≤ 57 := by omega
        have hxw : IntKind.u8.wrap (((x.toNat : Nat) : Int) - 48) = ((x.toNat : Nat) : Int) - 48 := by rw [IntKind.wrap_u8]; omega
        generalize u.getD m 0 = z at *
        generalize es.digit z x = d at *
        clear hst h59 hnum
        have hki0 : ((m : Int) + 1 - 1) = (m : Int) := by omega
        by_cases hz : z < 0
        · have hd : d = ((x.toNat : Nat) : Int) - 48 := by rw [HDG.out]; omega
          subst hd
          have hy : ¬ (9999 : Int) < ((x.toNat : Nat) : Int) - 48 := by omega
          go_wp2_with fail
          go_roundg (n - (k + 1))
          case measure => omega
          case rel => exact ⟨k + 1, _, rfl, by go_num, by omega, Nat.le_refl _, by rw [HN.out, HN2.out, List.length_set]; omega, by rw [HN.out, HN2.out]; exact HST⟩
        · by_cases hy : 9999 < z * 10 + (((x.toNat : Nat) : Int) - 48)
          · have hd : d = 9999 := by rw [HDG.out]; omega
            subst hd
            go_wp2_with fail
            go_roundg (n - (k + 1))
            case measure => omega
            case rel => exact ⟨k + 1, _, rfl, by go_num, by omega, Nat.le_refl _, by rw [HN.out, HN2.out, List.length_set]; omega, by rw [HN.out, HN2.out]; exact HST⟩
          · have hd : d = z * 10 + (((x.toNat : Nat) : Int) - 48) := by rw [HDG.out]; omega
            subst hd
            go_wp2_with fail
            go_roundg (n - (k + 1))
            case measure => omega
            case rel => exact ⟨k + 1, _, rfl, by go_num, by omega, Nat.le_refl _, by rw [HN.out, HN2.out, List.length_set]; omega, by rw [HN.out, HN2.out]; exact HST⟩
    · obtain rfl : k = n := by omega
      have hki : ¬ (k : Int) < (k : Int) := by omega
      have htk : l.take k = l := by rw [← hsz, List.take_length]
      rw [htk] at HS hul
      generalize l.foldl rf.numStep [-1] = u at *
      obtain ⟨g, m, c, hum, rfl, hmc, hcm, hgw, _, _, _⟩ := HS.out.last
      have hcm' : c ≤ 9223372036854775807 := hcm
      have hrow := HS.out.row
      rw [hum] at hrow
      by_cases h16 : 16 < m + 1
      · have h16i : (16 : Int) < (m : Int) + 1 := by omega
        have hr16 := row_take hrow 16 (by omega)
        rw [← List.map_take, ← HNU.out] at hr16
        have hl16 : (rf.numbers l).length = 16 := by rw [HNU.out, List.length_take]; omega
        have hO : Own wr w.heap.size 3 .i64 (some ⟨g, 0, none⟩) 16 c (rf.numbers l) := ⟨hr16⟩
        have HO := Lib.hid hO
        clear hrow hr16 hO
        go_wp2_with fail
        go_ret
        exact ⟨_, _, rfl, HO.out, HS.out.bel⟩
      · have h16i : ¬ (16 : Int) < (m : Int) + 1 := by omega
        have hnl : rf.numbers l = u := by rw [HNU.out]; exact List.take_of_length_le (by omega)
        have HO : Hid (Own wr w.heap.size 3 .i64 (some ⟨g, 0, none⟩) (m + 1) c u) := Lib.hid ⟨hrow⟩
        clear hrow
        go_wp2_with fail
        go_ret
        exact ⟨_, _, rfl, HO.out, HS.out.bel⟩
end Go.Proofs.YtgkodjkhhmcnnaaDoor
