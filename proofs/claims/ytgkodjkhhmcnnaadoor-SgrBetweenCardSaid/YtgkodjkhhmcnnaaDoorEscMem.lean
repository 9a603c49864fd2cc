/- A parser in memory. -/
import Derived.Test.YtgkodjkhhmcnnaaDoorEscMath
import Derived.Test.YtgkodjkhhmcnnaaDoorGlWaits
import Derived.Laws.Tables
namespace Go.Proofs.YtgkodjkhhmcnnaaDoor
open Go.RowKit

/-- what the cells of a parser's block hold -/
structure PsIs (cur : Array Value) (s : es.St) : Prop where
  size : cur.size = 284
  st : cur[0]? = some (.int .i64 s.state)
  few : s.wait.length ≤ 3
  wait : ∃ q : List UInt8, q.length = 3 ∧ q.take s.wait.length = s.wait ∧ ∀ k, k < 3 → cur[1 + k]? = some (.int .u8 (gl.b q k))
  num : cur[4]? = some (.int .i64 (s.wait.length : Nat))
  spoiled : cur[5]? = some (.bool s.spoiled)
  priv : cur[6]? = some (.int .u8 s.priv)
  final : cur[7]? = some (.int .u8 s.final)
  inter : cur[8]? = some (.string ⟨s.inter.toArray⟩)
  parc : ∀ k, k < 17 → ∃ v, cur[9 + k]? = some (.int .i64 v)
  par : ∀ k, k < s.params.length → cur[9 + k]? = some (.int .i64 (s.params.getD k 0))
  cnt : cur[26]? = some (.int .i64 (s.params.length : Nat))
  parl : s.params.length ≤ 17
  txtc : ∀ k, k < 256 → ∃ v, cur[27 + k]? = some (.int .u8 v)
  txt : ∀ k, k < s.text.length → cur[27 + k]? = some (.int .u8 (gl.b s.text k))
  len : cur[283]? = some (.int .i64 (s.text.length : Nat))
  txtl : s.text.length ≤ 256
/-- a parser in block p -/
structure PsAt (w : World) (p : Nat) (s : es.St) (cur : Array Value) : Prop where
  at_ : w.heap[p]? = some (.cells cur 33 (0, 0))
  is : PsIs cur s
theorem PsAt.lt {w : World} {p : Nat} {s : es.St} {cur : Array Value} (h : PsAt w p s cur) : p < w.heap.size := (Array.getElem?_eq_some_iff.1 h.at_).1
theorem PsAt.c {w : World} {p : Nat} {s : es.St} {cur : Array Value} (h : PsAt w p s cur) (k : Nat) : w.cell? ⟨p, k, none⟩ = cur[k]? := cell_of_heap h.at_
theorem PsAt.f {w : World} {p : Nat} {s : es.St} {cur : Array Value} (h : PsAt w p s cur) (k : Nat) : w.frozen? ⟨p, k, none⟩ = false := by simp [World.frozen?, h.at_]
theorem PsAt.rd {w : World} {p : Nat} {s : es.St} {cur : Array Value} (h : PsAt w p s cur) : RdAt w p 1 s.wait cur 33 :=
  ⟨h.at_, by rw [h.is.size]; omega, h.is.few, h.is.wait, h.is.num⟩
theorem PsAt.kept {w w' : World} {p : Nat} {s : es.St} {cur : Array Value} (h : PsAt w p s cur) {S : Nat → Prop} (hk : Kept w w' S) (hS : ¬ S p) : PsAt w' p s cur := ⟨hk.same h.at_ hS, h.is⟩
theorem PsAt.below {w w' : World} {p : Nat} {s : es.St} {cur : Array Value} (h : PsAt w p s cur) {B : Nat} (hb : Below B w w') (hp : p < B) : PsAt w' p s cur := ⟨(hb.block p hp).trans h.at_, h.is⟩
/-- a reader's feeding and resting leave all else -/
theorem PsIs.reader {cur cur' : Array Value} {s : es.St} (h : PsIs cur s) (hs : cur'.size = cur.size) (ho : ∀ k, k < 1 ∨ 1 + 4 ≤ k → cur'[k]? = cur[k]?) {q : List UInt8} (hf : q.length ≤ 3)
    (hb : ∃ r : List UInt8, r.length = 3 ∧ r.take q.length = q ∧ ∀ k, k < 3 → cur'[1 + k]? = some (.int .u8 (gl.b r k))) (hn : cur'[1 + 3]? = some (.int .i64 (q.length : Nat))) : PsIs cur' { s with wait := q } :=
  ⟨hs.trans h.size, (ho 0 (by omega)).trans h.st, hf, hb, hn, (ho 5 (by omega)).trans h.spoiled, (ho 6 (by omega)).trans h.priv, (ho 7 (by omega)).trans h.final, (ho 8 (by omega)).trans h.inter,
    fun k hk => by rw [ho _ (by omega)]; exact h.parc k hk, fun k hk => (ho _ (by omega)).trans (h.par k hk), (ho 26 (by omega)).trans h.cnt, h.parl, fun k hk => by rw [ho _ (by omega)]; exact h.txtc k hk, fun k hk => (ho _ (by omega)).trans (h.txt k hk), (ho 283 (by omega)).trans h.len, h.txtl⟩
theorem PsAt.reader {w' : World} {p : Nat} {s : es.St} {cur cur' : Array Value} (h : PsIs cur s) {q : List UInt8} (hr : RdAt w' p 1 q cur' 33) (hs : cur'.size = cur.size) (ho : ∀ k, k < 1 ∨ 1 + 4 ≤ k → cur'[k]? = cur[k]?) : PsAt w' p { s with wait := q } cur' :=
  ⟨hr.at_, h.reader hs ho hr.few hr.bytes hr.num⟩

theorem gi (cur : Array Value) (i k : Nat) (v : Value) (h : i ≠ k) : (cur.setIfInBounds i v)[k]? = cur[k]? := by rw [Array.getElem?_setIfInBounds, if_neg h]
theorem gs (cur : Array Value) (i : Nat) (v : Value) (h : i < cur.size) : (cur.setIfInBounds i v)[i]? = some v := by rw [Array.getElem?_setIfInBounds, if_pos rfl, if_pos h]
section
variable {cur : Array Value} {s : es.St} (h : PsIs cur s)
include h
theorem PsIs.setState (x : Nat) : PsIs (cur.setIfInBounds 0 (.int .i64 x)) { s with state := x } :=
  ⟨by simp [h.size], gs _ _ _ (by rw [h.size]; omega), h.few, by obtain ⟨q, a, b, c⟩ := h.wait; exact ⟨q, a, b, fun k hk => (gi _ _ _ _ (by omega)).trans (c k hk)⟩, (gi _ _ _ _ (by omega)).trans h.num, (gi _ _ _ _ (by omega)).trans h.spoiled, (gi _ _ _ _ (by omega)).trans h.priv, (gi _ _ _ _ (by omega)).trans h.final, (gi _ _ _ _ (by omega)).trans h.inter,
    fun k hk => by rw [gi _ _ _ _ (by omega)]; exact h.parc k hk, fun k hk => (gi _ _ _ _ (by omega)).trans (h.par k hk), (gi _ _ _ _ (by omega)).trans h.cnt, h.parl, fun k hk => by rw [gi _ _ _ _ (by omega)]; exact h.txtc k hk, fun k hk => (gi _ _ _ _ (by omega)).trans (h.txt k hk), (gi _ _ _ _ (by omega)).trans h.len, h.txtl⟩
theorem PsIs.setSpoiled : PsIs (cur.setIfInBounds 5 (.bool true)) { s with spoiled := true } :=
  ⟨by simp [h.size], (gi _ _ _ _ (by omega)).trans h.st, h.few, by obtain ⟨q, a, b, c⟩ := h.wait; exact ⟨q, a, b, fun k hk => (gi _ _ _ _ (by omega)).trans (c k hk)⟩, (gi _ _ _ _ (by omega)).trans h.num, gs _ _ _ (by rw [h.size]; omega), (gi _ _ _ _ (by omega)).trans h.priv, (gi _ _ _ _ (by omega)).trans h.final, (gi _ _ _ _ (by omega)).trans h.inter,
    fun k hk => by rw [gi _ _ _ _ (by omega)]; exact h.parc k hk, fun k hk => (gi _ _ _ _ (by omega)).trans (h.par k hk), (gi _ _ _ _ (by omega)).trans h.cnt, h.parl, fun k hk => by rw [gi _ _ _ _ (by omega)]; exact h.txtc k hk, fun k hk => (gi _ _ _ _ (by omega)).trans (h.txt k hk), (gi _ _ _ _ (by omega)).trans h.len, h.txtl⟩
theorem PsIs.setPriv (x : Nat) : PsIs (cur.setIfInBounds 6 (.int .u8 x)) { s with priv := x } :=
  ⟨by simp [h.size], (gi _ _ _ _ (by omega)).trans h.st, h.few, by obtain ⟨q, a, b, c⟩ := h.wait; exact ⟨q, a, b, fun k hk => (gi _ _ _ _ (by omega)).trans (c k hk)⟩, (gi _ _ _ _ (by omega)).trans h.num, (gi _ _ _ _ (by omega)).trans h.spoiled, gs _ _ _ (by rw [h.size]; omega), (gi _ _ _ _ (by omega)).trans h.final, (gi _ _ _ _ (by omega)).trans h.inter,
    fun k hk => by rw [gi _ _ _ _ (by omega)]; exact h.parc k hk, fun k hk => (gi _ _ _ _ (by omega)).trans (h.par k hk), (gi _ _ _ _ (by omega)).trans h.cnt, h.parl, fun k hk => by rw [gi _ _ _ _ (by omega)]; exact h.txtc k hk, fun k hk => (gi _ _ _ _ (by omega)).trans (h.txt k hk), (gi _ _ _ _ (by omega)).trans h.len, h.txtl⟩
theorem PsIs.setFinal (x : Nat) : PsIs (cur.setIfInBounds 7 (.int .u8 x)) { s with final := x } :=
  ⟨by simp [h.size], (gi _ _ _ _ (by omega)).trans h.st, h.few, by obtain ⟨q, a, b, c⟩ := h.wait; exact ⟨q, a, b, fun k hk => (gi _ _ _ _ (by omega)).trans (c k hk)⟩, (gi _ _ _ _ (by omega)).trans h.num, (gi _ _ _ _ (by omega)).trans h.spoiled, (gi _ _ _ _ (by omega)).trans h.priv, gs _ _ _ (by rw [h.size]; omega), (gi _ _ _ _ (by omega)).trans h.inter,
    fun k hk => by rw [gi _ _ _ _ (by omega)]; exact h.parc k hk, fun k hk => (gi _ _ _ _ (by omega)).trans (h.par k hk), (gi _ _ _ _ (by omega)).trans h.cnt, h.parl, fun k hk => by rw [gi _ _ _ _ (by omega)]; exact h.txtc k hk, fun k hk => (gi _ _ _ _ (by omega)).trans (h.txt k hk), (gi _ _ _ _ (by omega)).trans h.len, h.txtl⟩
theorem PsIs.setInter (x : List UInt8) : PsIs (cur.setIfInBounds 8 (.string ⟨x.toArray⟩)) { s with inter := x } :=
  ⟨by simp [h.size], (gi _ _ _ _ (by omega)).trans h.st, h.few, by obtain ⟨q, a, b, c⟩ := h.wait; exact ⟨q, a, b, fun k hk => (gi _ _ _ _ (by omega)).trans (c k hk)⟩, (gi _ _ _ _ (by omega)).trans h.num, (gi _ _ _ _ (by omega)).trans h.spoiled, (gi _ _ _ _ (by omega)).trans h.priv, (gi _ _ _ _ (by omega)).trans h.final, gs _ _ _ (by rw [h.size]; omega),
    fun k hk => by rw [gi _ _ _ _ (by omega)]; exact h.parc k hk, fun k hk => (gi _ _ _ _ (by omega)).trans (h.par k hk), (gi _ _ _ _ (by omega)).trans h.cnt, h.parl, fun k hk => by rw [gi _ _ _ _ (by omega)]; exact h.txtc k hk, fun k hk => (gi _ _ _ _ (by omega)).trans (h.txt k hk), (gi _ _ _ _ (by omega)).trans h.len, h.txtl⟩
/-- a number is set -/
theorem PsIs.setPar (i : Nat) (x : Int) (hi : i < s.params.length) : PsIs (cur.setIfInBounds (9 + i) (.int .i64 x)) { s with params := s.params.set i x } := by
  have hl := h.parl
  refine ⟨by simp [h.size], (gi _ _ _ _ (by omega)).trans h.st, h.few, by obtain ⟨q, a, b, c⟩ := h.wait; exact ⟨q, a, b, fun k hk => (gi _ _ _ _ (by omega)).trans (c k hk)⟩, (gi _ _ _ _ (by omega)).trans h.num, (gi _ _ _ _ (by omega)).trans h.spoiled, (gi _ _ _ _ (by omega)).trans h.priv, (gi _ _ _ _ (by omega)).trans h.final, (gi _ _ _ _ (by omega)).trans h.inter, fun k hk => ?_, fun k hk => ?_, ?_, ?_, fun k hk => by rw [gi _ _ _ _ (by omega)]; exact h.txtc k hk, fun k hk => (gi _ _ _ _ (by have := h.txtl; have : k < s.text.length := hk; omega)).trans (h.txt k hk), (gi _ _ _ _ (by omega)).trans h.len, h.txtl⟩
  · by_cases e : i = k
    · subst e; exact ⟨x, gs _ _ _ (by rw [h.size]; omega)⟩
    · rw [gi _ _ _ _ (by omega)]; exact h.parc k hk
  · simp only [List.length_set] at hk
    by_cases e : i = k
    · subst e; rw [gs _ _ _ (by rw [h.size]; omega)]; simp [List.getD, hk]
    · rw [gi _ _ _ _ (by omega), h.par k hk]; simp [List.getD, e]
  · rw [gi _ _ _ _ (by omega)]; simpa using h.cnt
  · simpa using hl
/-- a number more: its place and how many there are -/
theorem PsIs.addPar (x : Int) (hi : s.params.length < 17) : PsIs ((cur.setIfInBounds 26 (.int .i64 (s.params.length + 1 : Nat))).setIfInBounds (9 + s.params.length) (.int .i64 x)) { s with params := s.params ++ [x] } := by
  refine ⟨by simp [h.size], ?_, h.few, ?_, ?_, ?_, ?_, ?_, ?_, fun k hk => ?_, fun k hk => ?_, ?_, ?_, fun k hk => ?_, fun k hk => ?_, ?_, h.txtl⟩
  · rw [gi _ _ _ _ (by omega), gi _ _ _ _ (by omega)]; exact h.st
  · obtain ⟨q, a, b, c⟩ := h.wait; exact ⟨q, a, b, fun k hk => by rw [gi _ _ _ _ (by omega), gi _ _ _ _ (by omega)]; exact c k hk⟩
  · rw [gi _ _ _ _ (by omega), gi _ _ _ _ (by omega)]; exact h.num
  · rw [gi _ _ _ _ (by omega), gi _ _ _ _ (by omega)]; exact h.spoiled
  · rw [gi _ _ _ _ (by omega), gi _ _ _ _ (by omega)]; exact h.priv
  · rw [gi _ _ _ _ (by omega), gi _ _ _ _ (by omega)]; exact h.final
  · rw [gi _ _ _ _ (by omega), gi _ _ _ _ (by omega)]; exact h.inter
  · by_cases e : s.params.length = k
    · subst e; exact ⟨x, gs _ _ _ (by simp [h.size]; omega)⟩
    · rw [gi _ _ _ _ (by omega), gi _ _ _ _ (by omega)]; exact h.parc k hk
  · simp only [List.length_append, List.length_cons, List.length_nil] at hk
    by_cases e : s.params.length = k
    · subst e; rw [gs _ _ _ (by simp [h.size]; omega)]; simp [List.getD]
    · rw [gi _ _ _ _ (by omega), gi _ _ _ _ (by omega), h.par k (by omega)]; simp [List.getD, List.getElem?_append_left (show k < s.params.length by omega)]
  · rw [gi _ _ _ _ (by omega), gs _ _ _ (by rw [h.size]; omega)]; simp
  · simp; omega
  · rw [gi _ _ _ _ (by omega), gi _ _ _ _ (by omega)]; exact h.txtc k hk
  · have := h.txtl; have : k < s.text.length := hk; rw [gi _ _ _ _ (by omega), gi _ _ _ _ (by omega)]; exact h.txt k hk
  · rw [gi _ _ _ _ (by omega), gi _ _ _ _ (by omega)]; exact h.len
/-- a byte more of a text -/
theorem PsIs.addTxt (x : UInt8) (hi : s.text.length < 256) : PsIs ((cur.setIfInBounds (27 + s.text.length) (.int .u8 x.toNat)).setIfInBounds 283 (.int .i64 (s.text.length + 1 : Nat))) { s with text := s.text ++ [x] } := by
  have hl := h.parl
  refine ⟨by simp [h.size], ?_, h.few, ?_, ?_, ?_, ?_, ?_, ?_, fun k hk => ?_, fun k hk => ?_, ?_, h.parl, fun k hk => ?_, fun k hk => ?_, ?_, ?_⟩
  · rw [gi _ _ _ _ (by omega), gi _ _ _ _ (by omega)]; exact h.st
  · obtain ⟨q, a, b, c⟩ := h.wait; exact ⟨q, a, b, fun k hk => by rw [gi _ _ _ _ (by omega), gi _ _ _ _ (by omega)]; exact c k hk⟩
  · rw [gi _ _ _ _ (by omega), gi _ _ _ _ (by omega)]; exact h.num
  · rw [gi _ _ _ _ (by omega), gi _ _ _ _ (by omega)]; exact h.spoiled
  · rw [gi _ _ _ _ (by omega), gi _ _ _ _ (by omega)]; exact h.priv
  · rw [gi _ _ _ _ (by omega), gi _ _ _ _ (by omega)]; exact h.final
  · rw [gi _ _ _ _ (by omega), gi _ _ _ _ (by omega)]; exact h.inter
  · rw [gi _ _ _ _ (by omega), gi _ _ _ _ (by omega)]; exact h.parc k hk
  · have : k < s.params.length := hk; rw [gi _ _ _ _ (by omega), gi _ _ _ _ (by omega)]; exact h.par k hk
  · rw [gi _ _ _ _ (by omega), gi _ _ _ _ (by omega)]; exact h.cnt
  · by_cases e : s.text.length = k
    · subst e; rw [gi _ _ _ _ (by omega)]; exact ⟨_, gs _ _ _ (by rw [h.size]; omega)⟩
    · rw [gi _ _ _ _ (by omega), gi _ _ _ _ (by omega)]; exact h.txtc k hk
  · simp only [List.length_append, List.length_cons, List.length_nil] at hk
    by_cases e : s.text.length = k
    · subst e; rw [gi _ _ _ _ (by omega), gs _ _ _ (by rw [h.size]; omega)]; simp [gl.b, List.getD]
    · rw [gi _ _ _ _ (by omega), gi _ _ _ _ (by omega), h.txt k (by omega)]; simp [gl.b, List.getD, List.getElem?_append_left (show k < s.text.length by omega)]
  · rw [gs _ _ _ (by simp [h.size])]; simp
  · simp; omega
end
/-- a parser's first value -/
def zeroC : Array Value := #[.int .i64 0, .int .u8 0, .int .u8 0, .int .u8 0, .int .i64 0, .bool false, .int .u8 0, .int .u8 0, .string ⟨#[]⟩] ++ Array.replicate 17 (.int .i64 0) ++ #[.int .i64 0] ++ Array.replicate 256 (.int .u8 0) ++ #[.int .i64 0]
/-- .. behind an escape -/
def escC : Array Value := zeroC.setIfInBounds 0 (.int .i64 1)
theorem zeroC_get (k : Nat) : zeroC[k]? = if k = 0 ∨ k = 4 ∨ 9 ≤ k ∧ k ≤ 26 ∨ k = 283 then some (.int .i64 0) else if k = 5 then some (.bool false) else if k = 8 then some (.string ⟨#[]⟩) else if k < 283 then some (.int .u8 0) else none := by
  unfold zeroC
  by_cases h9 : k < 9
  · rw [Array.getElem?_append_left (by simp; omega), Array.getElem?_append_left (by simp; omega), Array.getElem?_append_left (by simp; omega), Array.getElem?_append_left (by simp; omega)]
    obtain rfl | rfl | rfl | rfl | rfl | rfl | rfl | rfl | rfl : k = 0 ∨ k = 1 ∨ k = 2 ∨ k = 3 ∨ k = 4 ∨ k = 5 ∨ k = 6 ∨ k = 7 ∨ k = 8 := by omega
    all_goals rfl
  by_cases h26 : k < 26
  · rw [Array.getElem?_append_left (by simp; omega), Array.getElem?_append_left (by simp; omega), Array.getElem?_append_left (by simp; omega), Array.getElem?_append_right (by simp; omega), if_pos (by omega), Array.getElem?_replicate, if_pos (by simp; omega)]
  by_cases h27 : k < 27
  · rw [Array.getElem?_append_left (by simp; omega), Array.getElem?_append_left (by simp; omega), Array.getElem?_append_right (by simp; omega), if_pos (by omega)]
    simp [show k = 26 by omega]
  by_cases h283 : k < 283
  · rw [Array.getElem?_append_left (by simp; omega), Array.getElem?_append_right (by simp; omega), if_neg (by omega), if_neg (by omega), if_neg (by omega), if_pos h283, Array.getElem?_replicate, if_pos (by simp; omega)]
  · rw [Array.getElem?_append_right (by simp; omega)]
    by_cases e : k = 283
    · rw [if_pos (by omega)]; simp [e]
    · rw [if_neg (by omega), if_neg (by omega), if_neg (by omega), if_neg (by omega), Array.getElem?_eq_none (by simp; omega)]
theorem zeroC_size : zeroC.size = 284 := by simp [zeroC]
theorem zero_is : PsIs zeroC {} := by
  refine ⟨zeroC_size, by rw [zeroC_get]; rfl, by simp, ⟨[0, 0, 0], rfl, rfl, fun k hk => ?_⟩, by rw [zeroC_get]; rfl, by rw [zeroC_get]; rfl, by rw [zeroC_get]; rfl, by rw [zeroC_get]; rfl, by rw [zeroC_get]; rfl, fun k hk => ⟨0, ?_⟩, fun k hk => by simp at hk, by rw [zeroC_get]; rfl, by simp, fun k hk => ⟨0, ?_⟩, fun k hk => by simp at hk, by rw [zeroC_get]; rfl, by simp⟩
  · rw [zeroC_get, if_neg (by omega), if_neg (by omega), if_neg (by omega), if_pos (by omega)]
    obtain rfl | rfl | rfl : k = 0 ∨ k = 1 ∨ k = 2 := by omega
    all_goals rfl
  · rw [zeroC_get, if_pos (by omega)]
  · rw [zeroC_get, if_neg (by omega), if_neg (by omega), if_neg (by omega), if_pos (by omega)]
theorem esc_is : PsIs escC { state := 1 } := zero_is.setState 1
end Go.Proofs.YtgkodjkhhmcnnaaDoor
