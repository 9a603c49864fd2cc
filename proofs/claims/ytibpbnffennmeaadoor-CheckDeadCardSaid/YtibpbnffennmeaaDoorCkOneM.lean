/- CheckOne on lists: 352 functions. -/
import Derived.Test.YtibpbnffennmeaaDoorCkAlive
namespace Go.Proofs.YtibpbnffennmeaaDoor
open Go.RowKit
def ck.pushes (k : Nat) : List md.Ins := (List.range k).map fun i => ⟨1, (i : Nat)⟩
def ck.drops (n : Nat) : List md.Ins := List.replicate n ⟨2, 0⟩
def ck.oneN (op k more : Nat) : Nat := ((k : Int) - (ck.plain op).1 + (ck.plain op).2.1 + more).toNat
def ck.oneCode (op k more : Nat) : List md.Ins := ck.pushes k ++ [⟨op, 0⟩] ++ ck.drops (ck.oneN op k more) ++ [⟨27, 0⟩]
def ck.oneFl (op k more : Nat) : ck.Flaw := if (ck.plain op).1 ≤ (k : Int) ∧ more = 0 then ⟨0, 0, 0⟩ else ⟨0, -1, 130⟩
theorem ck.one_all : ∀ op : Nat, op < 24 → (op = 5 ∨ op = 6 ∨ ∀ k : Nat, k < 8 → ∀ more : Nat, more < 2 → ck.check (ck.mone (ck.oneCode op k more)) = ck.oneFl op k more) := by decide +kernel
theorem ck.one_plain : ∀ op : Nat, op < 24 → (ck.plain op).2.2 = true ∧ 0 ≤ (ck.plain op).1 ∧ (ck.plain op).1 ≤ 2 ∧ 0 ≤ (ck.plain op).2.1 ∧ (ck.plain op).2.1 ≤ 2 := by decide +kernel
theorem ck.one_eff (op : Nat) (h : op < 24) (l : List md.Ins) : ck.effect (ck.mone l) 0 ⟨(op : Int), 0⟩ = ck.plain op := by
  have hb : ck.below 0 ((ck.mone l).funcs.length : Int) = true := ck.below_iff.2 ⟨Int.le_refl 0, show (0 : Int) < ((1 : Nat) : Int) by decide⟩
  unfold ck.effect
  rw [if_pos hb]
  simp only
  rw [if_neg (by omega), if_neg (by omega), if_neg (by omega)]
theorem ck.pushes_snoc (k : Nat) : ck.pushes (k + 1) = ck.pushes k ++ [⟨1, (k : Nat)⟩] := by
  unfold ck.pushes
  rw [List.range_succ, List.map_append]
  rfl
theorem ck.drops_snoc (n : Nat) : ck.drops (n + 1) = ck.drops n ++ [⟨2, 0⟩] := by
  unfold ck.drops
  rw [List.replicate_succ']
theorem ck.pushes_len (k : Nat) : (ck.pushes k).length = k := by simp [ck.pushes]
theorem ck.drops_len (k : Nat) : (ck.drops k).length = k := by simp [ck.drops]
theorem ck.oneN_le (op k more : Nat) (h : op < 24) (hk : k < 8) (hm : more < 2) : ck.oneN op k more ≤ 10 := by
  have := ck.one_plain op h
  unfold ck.oneN
  omega
theorem ck.one_i64 (op k more : Nat) (hk : k < 8) : md.codeI (ck.oneCode op k more) := by
  intro i hi
  unfold ck.oneCode at hi
  simp only [List.mem_append, List.mem_singleton] at hi
  rcases hi with ((hi | hi) | hi) | hi
  · unfold ck.pushes at hi
    obtain ⟨j, hj, rfl⟩ := List.mem_map.1 hi
    have := List.mem_range.1 hj
    exact ⟨by simp only; omega, by simp only; omega⟩
  · subst hi; exact ⟨show (-9223372036854775808 : Int) ≤ 0 by decide, show (0 : Int) ≤ 9223372036854775807 by decide⟩
  · unfold ck.drops at hi
    obtain rfl := List.eq_of_mem_replicate hi
    exact ⟨by decide, by decide⟩
  · subst hi; exact ⟨by decide, by decide⟩
theorem i64_and1023 (n : Int) : bits .and .i64 n 1023 = n % 1024 := by
  have key : ((BitVec.ofInt 64 n &&& BitVec.ofInt 64 1023).toNat : Int) = n % 1024 := by
    have h1 : BitVec.ofInt 64 1023 = 1023#64 := by decide
    rw [h1, BitVec.toNat_and, BitVec.toNat_ofInt, show (1023#64).toNat = 1023 from rfl, show (1023 : Nat) = 2 ^ 10 - 1 from rfl, Nat.and_two_pow_sub_one_eq_mod]
    omega
  show IntKind.i64.wrap ((BitVec.ofInt 64 n &&& BitVec.ofInt 64 1023).toNat : Nat) = n % 1024
  rw [key, IntKind.wrap_i64]
  omega
theorem i64_and7 (n : Int) : bits .and .i64 n 7 = n % 8 := by
  have key : ((BitVec.ofInt 64 n &&& BitVec.ofInt 64 7).toNat : Int) = n % 8 := by
    have h1 : BitVec.ofInt 64 7 = 7#64 := by decide
    rw [h1, BitVec.toNat_and, BitVec.toNat_ofInt, show (7#64).toNat = 7 from rfl, show (7 : Nat) = 2 ^ 3 - 1 from rfl, Nat.and_two_pow_sub_one_eq_mod]
    omega
  show IntKind.i64.wrap ((BitVec.ofInt 64 n &&& BitVec.ofInt 64 7).toNat : Nat) = n % 8
  rw [key, IntKind.wrap_i64]
  omega
theorem infoInsC : (Tryd.prog.info? 46).map (fun i => (i.zero, i.size, i.bytes)) = some (some (Value.agg #[.int .i64 0, .int .i64 0]), 2, 16) := by kernel_rfl
/-- an instruction more behind a row of one's own; the world ahead of the literal is w0 -/
theorem wpList_ins (w0 : World) (i : md.Ins) {ops : Array Oper} {rest : List Oper} {op : Oper} {a : Act} {Q : Exit → Act → World → Prop} (hgd : op.guard = none) (s x : Operand)
    (ho : op.op = Op.call { callee := Callee.builtin Builtin.append, args := #[s, x], argTypes := #[40, 40] }) (B : Nat) (V : Value) (l l' : List md.Ins) (hl' : l ++ [i] = l') (hs : a.eval s = V) (hown : w0.ownsRow B 46 2 V l.length (codeC l))
    (g : Nat) (hg0 : g = w0.heap.size) (hx : a.eval x = .slice (some ⟨g, 0, none⟩) 1 1) (hlen : l.length ≤ 1000) (hB : B ≤ w0.heap.size)
    (h : ∀ V' w', w'.ownsRow B 46 2 V' l'.length (codeC l') → w0.grownBy w' V.ownBlock → wpList Tryd.prog ops Q rest (a.put op.dst V') w') : wpList Tryd.prog ops Q (op :: rest) a (w0.alloc (.cells #[.int .i64 i.op, .int .i64 i.n] 46)) := by
  subst hg0
  subst hl'
  refine wpList_plain hgd fun K hK => ?_
  obtain ⟨i0, hi, hz0, hz1, hz2⟩ := info_parts infoInsC
  have hb0 := below_one w0 (.cells #[.int .i64 i.op, .int .i64 i.n] 46)
  have hn := heap_alloc_new w0 (.cells #[.int .i64 i.op, .int .i64 i.n] 46)
  obtain ⟨V', w', hrun, r1, r2, _⟩ := run_append_own (P := Tryd.prog) _ B 40 op.type 46 i0 _ 2 16 Tryd.underlying40 hi hz0 hz1 hz2 rfl (by decide) V l.length (codeC l) (row_below hown hb0)
    ⟨w0.heap.size, 0, none⟩ 1 1 (insC i) rfl (fun j u hu => by rw [addr_b0, cell_of_heap hn]; simpa [insC] using hu) (fun u hu => by simp [insC] at hu; rcases hu with rfl | rfl <;> rfl) (by unfold maxLen; omega) (by omega) (by simp; omega)
  unfold Oper.wp execOp
  simp only [ho, resolve, invoke, builtin, Sem.run_bind, Sem.run_pure, Result.andThen_ok, List.map_toArray, List.map_cons, List.map_nil, hs, hx, hrun]
  refine hK _ _ (h V' w' ?_ ⟨r2.os, r2.tape, r2.output, Nat.le_trans hb0.size r2.size, fun k hk hne => (r2.block k (Nat.lt_of_lt_of_le hk hb0.size) hne).trans (hb0.block k hk)⟩)
  rw [List.length_append, List.length_singleton, codeC_snoc]
  exact r1
end Go.Proofs.YtibpbnffennmeaaDoor
