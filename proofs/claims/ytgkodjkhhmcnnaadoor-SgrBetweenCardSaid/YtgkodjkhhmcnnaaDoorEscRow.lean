/- A row of bytes beside a parser. -/
import Derived.Test.YtgkodjkhhmcnnaaDoorEscTwo
import Derived.Lib.AppendStr
namespace Go.Proofs.YtgkodjkhhmcnnaaDoor
open Go.RowKit

theorem str_one0 (w : World) (b : UInt8) : (convert 34 9 (.slice (some ⟨w.heap.size, 0, none⟩) 1 1)).run Tryd.prog (w.alloc (.cells #[.int .u8 b.toNat] 5)) = .ok (.string ⟨#[b]⟩) (w.alloc (.cells #[.int .u8 b.toNat] 5)) :=
  run_convert_bytes_back (P := Tryd.prog) (w.alloc (.cells #[.int .u8 b.toNat] 5)) 34 9 5 ⟨w.heap.size, 0, none⟩ 1 [b] Tryd.underlying34 Tryd.underlying5 Tryd.underlying9 (fun j hj => by
    obtain rfl : j = 0 := by simpa using hj
    rw [addr_add0]
    exact cell_of_heap (heap_alloc_new w _))
theorem PG.grown {w w' : World} {p : Nat} {s : es.St} {row : Option Nat} (h : PG w p s) (hg : w.grownBy w' row) (hr : row ≠ some p) (ht : UTabs w') : PG w' p s := by
  obtain ⟨c, h1⟩ := h.at_
  exact ⟨⟨c, ⟨(hg.block p h1.lt (fun e => hr e.symm)).trans h1.at_, h1.is⟩⟩, h.good, ht⟩
/-- bytes in a row of the law's own, and a parser in block p -/
structure RP (w W : World) (p : Nat) (s : es.St) (V : Value) (l : List UInt8) : Prop where
  row : RowB W w.heap.size V l
  off : V.ownBlock ≠ some p
  op : OP w W p s
theorem RP.step {w W W' : World} {p : Nat} {s : es.St} {V : Value} {l : List UInt8} (h : RP w W p s V l) (hb : Below W.heap.size W W') : RP w W' p s V l := ⟨h.row.below hb, h.off, h.op.step hb⟩
theorem OP.grown {w W W' : World} {p : Nat} {s : es.St} {v : Value} (h : OP w W p s) (ht : UTabs w) (hg : W.grownBy W' v.ownBlock) (hr : v.ownBlock ≠ some p) (hv : ∀ k, v.ownBlock = some k → w.heap.size ≤ k) : OP w W' p s := by
  have hb : Below w.heap.size w W' := h.bel.trans ((Below.refl _ W).grown hg h.bel.size hv)
  exact ⟨h.ps.grown hg hr (ht.step hb), hb, h.le⟩
theorem wpList_rp {ops : Array Oper} {rest : List Oper} {op : Oper} {a : Act} {Q : Exit → Act → World → Prop} (hgd : op.guard = none) (sl x : Operand)
    (ho : op.op = .call { callee := .builtin .append, args := #[sl, x], argTypes := #[34, 34] }) (w W : World) (p : Nat) (s : es.St) (V : Value) (l : List UInt8) (hs : a.eval sl = V) (h : RP w W p s V l) (ht : UTabs w)
    (o : Option Addr) (m c : Nat) (bs : List UInt8) (hx : a.eval x = .slice o m c) (hxi : Bts W o m c bs) (hnm : l.length + m ≤ 17592186044416)
    (hk : ∀ v' w', RP w w' p s v' (l ++ bs) → wpList Tryd.prog ops Q rest (a.put op.dst v') w') : wpList Tryd.prog ops Q (op :: rest) a W := by
  obtain ⟨i0, hi, hz0, hz1, hz2⟩ := info_parts infoB
  have hlt := h.op.ps.lt
  refine wpList_append_nums (K := .u8) hgd sl x 34 ho w.heap.size 5 i0 (Value.int .u8 0) 1 Tryd.underlying34 hi hz0 hz1 hz2 (by decide) rfl V l.length (u8s l) hs h.row o m c (u8s bs) hx hxi hnm h.op.bel.size (fun v' w' r1 r2 r3 => hk v' w' ⟨?_, ?_, ?_⟩)
  · refine rowB_append ?_
    have hm : bs.length = m := hxi.size
    rw [hm]
    simpa [cs] using r1
  · rcases r3 with e | e
    · rw [e]; exact h.off
    · rw [e]; intro e'; have := Option.some.inj e'; omega
  · exact h.op.grown ht r2 h.off (fun k hk' => (h.row.lt k hk').1)
theorem wpList_rps {ops : Array Oper} {rest : List Oper} {op : Oper} {a : Act} {Q : Exit → Act → World → Prop} (hgd : op.guard = none) (sl x : Operand)
    (ho : op.op = .call { callee := .builtin .append, args := #[sl, x], argTypes := #[34, 9] }) (w W : World) (p : Nat) (s : es.St) (V : Value) (l : List UInt8) (hs : a.eval sl = V) (h : RP w W p s V l) (ht : UTabs w)
    (bs : List UInt8) (hx : a.eval x = .string ⟨bs.toArray⟩) (hnm : l.length + bs.length ≤ 17592186044416)
    (hk : ∀ v' w', RP w w' p s v' (l ++ bs) → wpList Tryd.prog ops Q rest (a.put op.dst v') w') : wpList Tryd.prog ops Q (op :: rest) a W := by
  obtain ⟨i0, hi, hz0, hz1, hz2⟩ := info_parts infoB
  have hlt := h.op.ps.lt
  have hsz : (ByteArray.mk bs.toArray).size = bs.length := by simp [ByteArray.size]
  have hb : ∀ k, V.ownBlock = some k → w.heap.size ≤ k ∧ k < W.heap.size := fun k hk' => h.row.lt k hk'
  refine Lib.wpList_append_own_string W hgd sl x 34 9 ho w.heap.size 5 i0 Tryd.underlying34 Tryd.underlying9 hi hz0 hz1 hz2 V l.length (cs .u8 (u8s l)) hs h.row ⟨bs.toArray⟩ hx (by rw [hsz]; unfold maxLen; omega) (by rw [hsz]; omega) h.op.bel.size (fun v' w' r1 r2 r3 => hk v' w' ⟨?_, ?_, ?_⟩)
  · refine rowB_append ?_
    rw [hsz] at r1
    have e : Lib.strCells ⟨bs.toArray⟩ = cs .u8 (u8s bs) := by simp [Lib.strCells, cs, u8s]
    rw [e] at r1
    simpa [cs] using r1
  · intro e
    have h2 := r1.lt p e
    rcases r1.2 with ⟨e1, _⟩ | ⟨g, cap, cur, e1, h3, h4, _⟩
    · rw [e1] at e; cases e
    · rw [e1] at e
      obtain rfl : g = p := by simpa [Value.ownBlock] using e
      obtain ⟨c, hc⟩ := (h.op.grown ht r2 h.off (fun k hk' => (hb k hk').1)).ps.at_
      rw [hc.at_] at h4
      simp at h4
  · exact h.op.grown ht r2 h.off (fun k hk' => (hb k hk').1)
/-- what a row's bytes say, fed to the parser -/
theorem RP.feed {w W : World} {p : Nat} {s : es.St} {V : Value} {l : List UInt8} (h : RP w W p s V l) (n : Nat) (hn : l.length = n) (hl : n ≤ 137438953472) :
    ∃ o c, V = .slice o n c ∧ Calls Tryd.prog 6 #[.pointer (some ⟨p, 0, none⟩), .slice o n c] W fun e w' => ∃ ro rc, e = .returned (.slice ro (es.feed s l).2.length rc) ∧ ActsIn w' ro (es.feed s l).2.length rc (es.feed s l).2 ∧ OP w w' p (es.feed s l).1 := by
  subst hn
  obtain ⟨o, c, rfl, hO⟩ := Own.of (K := .u8) h.row
  refine ⟨o, c, rfl, (feed_pg p s o l.length c l W h.op.ps hO.nums (fun h0 d hd e => ?_) hl).mono ?_⟩
  · obtain ⟨g, c', e1, _⟩ := own_some hO.row (by omega)
    cases e1
    cases hd
    exact h.off (by rw [← e]; rfl)
  · rintro e w' ⟨ro, rc, rfl, h1, h2, h3⟩
    exact ⟨ro, rc, rfl, h1.inS.1, h.op.fed h2 h3⟩
end Go.Proofs.YtgkodjkhhmcnnaaDoor
