/- Bytes that are written out; small things that all laws need. -/
import Derived.Test.YtgkodjkhhmcnnaaDoorGlOwn2
import Derived.Test.YtgkodjkhhmcnnaaDoorGlFull
namespace Go.Proofs.YtgkodjkhhmcnnaaDoor
open Go.RowKit

/-- a number of 64 bits -/
def I64 (x : Int) : Prop := -9223372036854775808 ≤ x ∧ x ≤ 9223372036854775807
/-- bytes that are written out: their row bears the run-time's mark -/
abbrev litB (l : List UInt8) : Obj := .cells ((u8s l).map (Value.int .u8)).toArray 5 (l.length, l.length + 1)
theorem bts_new (W : World) (l : List UInt8) (h : l.length ≤ 1000) (n : Nat) (hn : W.heap.size = n) : Bts (W.alloc (litB l)) (some ⟨n, 0, none⟩) l.length l.length l := by
  subst hn
  refine ⟨u8s_len l, Nat.le_refl _, by unfold maxLen; omega, .inr ⟨W.heap.size, 0, rfl, by simp, fun k hk => ?_⟩⟩
  rw [World.cell?_alloc_mark]
  have hk' : k < (u8s l).length := by rw [u8s_len]; exact hk
  simp [hk']
theorem conv_lit (W : World) (l : List UInt8) (n : Nat) (hn : W.heap.size = n) : (convert 34 34 (.slice (some ⟨n, 0, none⟩) l.length l.length)).run Tryd.prog (W.alloc (.cells ((u8s l).map (Value.int .u8)).toArray 5)) = .ok (.slice (some ⟨n, 0, none⟩) l.length l.length) (W.alloc (litB l)) := by
  have h := Go.Joins.run_convert_bytes_const_at (P := Tryd.prog) W 34 5 ((u8s l).map (Value.int .u8)).toArray l.length l.length n hn.symm Tryd.underlying34 Tryd.underlying5
  rw [h]
  simp [litB, u8s_len]
theorem below_one (W : World) (o : Obj) : Below W.heap.size W (W.alloc o) := (Below.refl _ _).alloc (Nat.le_refl _) o
theorem own_made0 {w : World} {B : Nat} (cap : Nat) (cur : Array Value) (hB : B ≤ w.heap.size) (hm : cap ≤ maxLen) (hs : cur.size = cap) (T : TypeId) (K : IntKind) :
    Own (w.alloc (.cells cur T)) B T K (some ⟨w.heap.size, 0, none⟩) 0 cap [] :=
  ⟨World.ownsRow_made w cur cap hB hm (by omega)⟩
theorem cell_lt {W : World} {a : Addr} {v : Value} (h : W.cell? a = some v) : a.block < W.heap.size := by
  rcases Nat.lt_or_ge a.block W.heap.size with h' | h'
  · exact h'
  · simp [World.cell?, Array.getElem?_eq_none h'] at h
end Go.Proofs.YtgkodjkhhmcnnaaDoor
