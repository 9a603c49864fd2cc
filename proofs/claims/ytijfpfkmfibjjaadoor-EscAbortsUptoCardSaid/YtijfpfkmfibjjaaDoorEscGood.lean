/- A byte keeps a parser's bounds. -/
import Derived.Test.YtijfpfkmfibjjaaDoorEscFeed
namespace Go.Proofs.YtijfpfkmfibjjaaDoor
open Go.RowKit

/-- what holds of each state, beside what memory says -/
structure es.Good (s : es.St) : Prop where
  st : s.state ≤ 4
  inter : s.inter.length ≤ 2
  parl : s.params.length ≤ 17
  nums : es.Nums s
theorem es.Good.zero : es.Good {} := ⟨by simp, by simp, by simp, fun k hk => by simp at hk⟩
theorem es.Good.one : es.Good { state := 1 } := ⟨by simp, by simp, by simp, fun k hk => by simp at hk⟩
theorem es.Good.command {s : es.St} (h : es.Good s) (b : UInt8) : es.Good (es.command s b).1 := by
  unfold es.command
  split
  · exact es.Good.zero
  split
  · exact es.Good.one
  split <;> exact h
theorem es.Good.say (s : es.St) (a : es.Act) : es.Good (es.say s a).1 := es.Good.zero
theorem es.Good.addInter {s : es.St} (h : es.Good s) (b : UInt8) : es.Good (es.addInter s b) := by
  unfold es.addInter
  split
  · exact ⟨h.st, h.inter, h.parl, h.nums⟩
  · exact ⟨h.st, by have := h.inter; simp; omega, h.parl, h.nums⟩
theorem es.Good.next {s : es.St} (h : es.Good s) : es.Good (es.nextNumber s) := by
  have hn := h.nums.next
  have hl := h.parl
  unfold es.nextNumber at hn ⊢
  split
  · rename_i hc
    rw [if_pos hc] at hn
    exact ⟨h.st, h.inter, by simp; omega, hn⟩
  · rename_i hc
    rw [if_neg hc] at hn
    exact ⟨h.st, h.inter, by simpa using hl, hn⟩
theorem es.Good.setLast {s : es.St} (h : es.Good s) (b : UInt8) (hb : 48 ≤ b.toNat) : es.Good (es.setLast s b) := by
  refine ⟨h.st, h.inter, by unfold es.setLast; simpa using h.parl, ?_⟩
  intro k hk
  unfold es.setLast at hk ⊢
  simp only [List.length_set] at hk
  by_cases e : s.params.length - 1 = k
  · subst e
    simp only [List.getD, List.getElem?_set_self hk, Option.getD_some]
    unfold es.digit
    omega
  · simp only [List.getD, List.getElem?_set_ne e]
    exact h.nums k hk
theorem es.Good.addNumber {s : es.St} (h : es.Good s) (b : UInt8) (hb : 48 ≤ b.toNat) : es.Good (es.addNumber s b) := by
  unfold es.addNumber
  have h1 : es.Good (if s.params.length = 0 then es.nextNumber s else s) := by
    split
    · exact h.next
    · exact h
  split
  · exact h1.next
  · exact h1.setLast b hb
theorem es.Good.addParam {s : es.St} (h : es.Good s) (b : UInt8) (hb : 48 ≤ b.toNat) : es.Good (es.addParam s b) := by
  unfold es.addParam
  split
  · exact ⟨h.st, h.inter, h.parl, h.nums⟩
  split
  · exact h.addNumber b hb
  split <;> exact ⟨h.st, h.inter, h.parl, h.nums⟩
theorem es.Good.inEscape {s : es.St} (h : es.Good s) (b : UInt8) : es.Good (es.inEscape s b).1 := by
  unfold es.inEscape
  split
  · exact h.command b
  split
  · exact h.addInter b
  split
  · exact es.Good.zero
  split
  · exact ⟨by simp, h.inter, h.parl, h.nums⟩
  split
  · exact ⟨by simp, h.inter, h.parl, h.nums⟩
  · exact es.Good.zero
theorem es.Good.byte {s : es.St} (h : es.Good s) (b : UInt8) : es.Good (es.byte s b).1 := by
  unfold es.byte
  split
  · exact h.inEscape b
  split
  · unfold es.inControl
    split
    · exact h.command b
    split
    · exact h.addInter b
    split
    · exact h.addParam b (by omega)
    split
    · exact es.Good.zero
    · exact es.Good.zero
  split
  · unfold es.inString
    split
    · exact es.Good.zero
    split
    · exact ⟨by simp, h.inter, h.parl, h.nums⟩
    split
    · exact es.Good.zero
    split
    · unfold es.addText
      split <;> exact ⟨h.st, h.inter, h.parl, h.nums⟩
    · exact h
  split
  · unfold es.inClosing
    split
    · exact es.Good.zero
    · exact es.Good.one.inEscape b
  · unfold es.inGround
    split
    · exact ⟨h.st, h.inter, h.parl, h.nums⟩
    · exact es.Good.command (s := { s with wait := [] }) ⟨h.st, h.inter, h.parl, h.nums⟩ b
end Go.Proofs.YtijfpfkmfibjjaaDoor
