/- A byte. -/
import Derived.Test.YtijfpfkmfibjjaaDoorEscGood
namespace Go.Proofs.YtijfpfkmfibjjaaDoor
open Go.RowKit

theorem byte_any (p B : Nat) (s : es.St) (cur : Array Value) (V : Value) (l : List es.Act) (b : UInt8) (w : World) (h : PsAt w p s cur) (ha : ActsAt w B V l) (hl : l.length ≤ 1099511627000) (hpB : p < B) (hBw : B ≤ w.heap.size) (ht : UTabs w) (hg : es.Good s) :
    Calls Tryd.prog (stepOf s.state) #[.pointer (some ⟨p, 0, none⟩), V, .int .u8 b.toNat] w fun e w' => ∃ V', e = .returned V' ∧ ActsAt w' B V' (l ++ (es.byte s b).2) ∧ (∃ cur', PsAt w' p (es.byte s b).1 cur') ∧ Kept w w' (Fr p B) := by
  have hl' : l.length ≤ 1099511627776 := by omega
  unfold es.byte stepOf
  by_cases h1 : s.state = 1
  · rw [if_pos h1, if_pos h1]; exact inEscape_any p B s cur V l b w h ha hl' hpB hBw hg.inter
  rw [if_neg h1, if_neg h1]
  by_cases h2 : s.state = 2
  · rw [if_pos h2, if_pos h2]; exact inControl_any p B s cur V l b w h ha hl' hpB hBw hg.inter hg.nums
  rw [if_neg h2, if_neg h2]
  by_cases h3 : s.state = 3
  · rw [if_pos h3, if_pos h3]; exact inString_any p B s cur V l b w h ha hl' hpB hBw
  rw [if_neg h3, if_neg h3]
  by_cases h4 : s.state = 4
  · rw [if_pos h4, if_pos h4]; exact inClosing_any p B s cur V l b w h ha hl' hpB hBw
  rw [if_neg h4, if_neg h4]
  refine inGround_any p B s cur V l b w h ha hl hpB hBw ht ?_
  have := gl.read_len (s.wait ++ [b]).length (s.wait ++ [b]) (Nat.le_refl _)
  have hf := h.is.few
  simp only [List.length_append, List.length_cons, List.length_nil] at this
  unfold gl.read
  simp only [List.length_append, List.length_cons, List.length_nil]
  omega
theorem es.command_len (s : es.St) (b : UInt8) : (es.command s b).2.length ≤ 1 := by
  unfold es.command
  split
  · simp
  split
  · simp
  split <;> simp
theorem es.say_len (s : es.St) (a : es.Act) : (es.say s a).2.length ≤ 1 := by
  unfold es.say
  split <;> simp
theorem es.inEscape_len (s : es.St) (b : UInt8) : (es.inEscape s b).2.length ≤ 1 := by
  unfold es.inEscape
  split
  · exact es.command_len s b
  split
  · simp
  split
  · simp
  split
  · simp
  split
  · simp
  · exact es.say_len _ _
theorem es.byte_len (s : es.St) (b : UInt8) (hw : s.wait.length ≤ 3) : (es.byte s b).2.length ≤ 4 := by
  unfold es.byte
  split
  · have := es.inEscape_len s b; omega
  split
  · unfold es.inControl
    split
    · have := es.command_len s b; omega
    split
    · simp
    split
    · simp
    split
    · have := es.say_len s (es.csi s b); omega
    · simp
  split
  · unfold es.inString
    split
    · have := es.say_len s (es.str s); omega
    split
    · simp
    split
    · simp
    split <;> simp
  split
  · unfold es.inClosing
    split
    · have := es.say_len s (es.str s); omega
    · have := es.inEscape_len { state := 1 } b; omega
  · unfold es.inGround
    split
    · have := gl.read_len (s.wait ++ [b]).length (s.wait ++ [b]) (Nat.le_refl _)
      simp only [List.length_append, List.length_cons, List.length_nil, List.length_map] at this ⊢
      unfold gl.read
      simp only [List.length_append, List.length_cons, List.length_nil]
      omega
    · have := es.command_len { s with wait := [] } b
      simp only [List.length_append, List.length_replicate]
      omega
end Go.Proofs.YtijfpfkmfibjjaaDoor
