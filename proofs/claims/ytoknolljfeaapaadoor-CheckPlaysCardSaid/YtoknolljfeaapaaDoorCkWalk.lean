/- Heights that spread, in memory: the row of heights, the places that wait; reach, reachAll. -/
import Derived.Test.YtoknolljfeaapaaDoorCkPts
namespace Go.Proofs.YtoknolljfeaapaaDoor
open Go.RowKit
def inC (l : List Int) : List Value := l.map fun x => Value.int .i64 x
theorem infoInt : (Tryd.prog.info? 3).map (fun i => (i.zero, i.size, i.bytes)) = some (some (Value.int .i64 0), 1, 8) := by kernel_rfl
theorem naC_at {l : List Nat} {j : Nat} (h : j < l.length) : (naC l)[j]? = some (.int .i64 (l[j] : Nat)) := by simp [naC, h]
/-- places that wait: a row, or the rest of one -/
def Todo (w : World) (B : Nat) (V : Value) (l : List Nat) : Prop :=
  ∃ (ao : Option Addr) (cap : Nat), V = .slice ao l.length cap ∧ l.length ≤ cap ∧ cap ≤ 9223372036854775807 ∧ ((ao = none ∧ cap = 0) ∨ ∃ (g off : Nat) (cur : Array Value), ao = some ⟨g, off, none⟩ ∧ B ≤ g ∧ w.heap[g]? = some (.cells cur 3 (0, 0)) ∧ (0 < cap → off + cap ≤ cur.size) ∧ ∀ j u, (naC l)[j]? = some u → cur[off + j]? = some u)
theorem Todo.nil (w : World) (B : Nat) : Todo w B (.slice none 0 0) [] := ⟨none, 0, rfl, Nat.le_refl _, by decide, .inl ⟨rfl, rfl⟩⟩
theorem Todo.keep {w w' : World} {B : Nat} {V : Value} {l : List Nat} (h : Todo w B V l) (hk : ∀ g cur, V.ownBlock = some g → w.heap[g]? = some (.cells cur 3 (0, 0)) → w'.heap[g]? = w.heap[g]?) : Todo w' B V l := by
  obtain ⟨ao, cap, rfl, h1, h2, h3⟩ := h
  refine ⟨ao, cap, rfl, h1, h2, h3.imp id ?_⟩
  rintro ⟨g, off, cur, rfl, hB, hg, hc, hj⟩
  exact ⟨g, off, cur, rfl, hB, (hk g cur rfl hg).trans hg, hc, hj⟩
theorem Todo.len {w : World} {B : Nat} {o : Option Addr} {n cap : Nat} {l : List Nat} (h : Todo w B (.slice o n cap) l) : n = l.length ∧ n ≤ cap ∧ cap ≤ 9223372036854775807 := by
  obtain ⟨o', cap', e, h1, h2, -⟩ := h
  obtain ⟨-, rfl, rfl⟩ := Value.slice.inj e
  exact ⟨rfl, h1, h2⟩
theorem Todo.form {w : World} {B : Nat} {V : Value} {l : List Nat} (h : Todo w B V l) : ∃ o cap, V = .slice o l.length cap := by
  obtain ⟨o, cap, e, -⟩ := h
  exact ⟨o, cap, e⟩
/-- the first one, and the rest -/
theorem Todo.tail {w : World} {B : Nat} {o : Option Addr} {n cap k : Nat} {r : List Nat} (h : Todo w B (.slice o n cap) (k :: r)) : ∃ g off, o = some ⟨g, off, none⟩ ∧ g < w.heap.size ∧ w.cell? ⟨g, off, none⟩ = some (.int .i64 (k : Nat)) ∧ Todo w B (.slice (slo o cap 1) (n - 1) (cap - 1)) r ∧ (slo o cap 1 = some ⟨g, off, none⟩ ∨ slo o cap 1 = some ⟨g, off + 1, none⟩) := by
  obtain ⟨o', cap', e, h1, h2, h3⟩ := h
  obtain ⟨rfl, rfl, rfl⟩ := Value.slice.inj e
  rw [List.length_cons] at h1 ⊢
  rcases h3 with ⟨-, h3⟩ | ⟨g, off, cur, rfl, hB, hg, hc, hj⟩
  · omega
  refine ⟨g, off, rfl, heap_lt hg, ?_, ?_, ?_⟩
  · rw [cell_of_heap hg]
    exact hj 0 _ rfl
  · refine ⟨_, _, rfl, by omega, by omega, .inr ?_⟩
    unfold slo
    split
    · rename_i hcap
      refine ⟨g, off, cur, rfl, hB, hg, fun h => by omega, fun j u hu => ?_⟩
      have : r = [] := List.eq_nil_of_length_eq_zero (by omega)
      subst this
      simp [naC] at hu
    · refine ⟨g, off + 1, cur, by rw [Option.map_some, addr_plain], hB, hg, fun h => by have := hc (by omega); omega, fun j u hu => ?_⟩
      rw [Nat.add_assoc, Nat.add_comm 1 j]
      exact hj (j + 1) u hu
  · unfold slo
    split
    · exact .inl rfl
    · exact .inr (by rw [Option.map_some, addr_plain])
set_option maxRecDepth 100000 in
theorem run_ilo (o : Option Addr) (n cap : Nat) (k : IntKind) (l : Nat) (hl : (l : Int) ≤ (n : Int)) (wx : World) : (Instr.slice 34 (.slice o n cap) (some (.int k (l : Int))) none none).run Tryd.prog wx = .ok (.slice (slo o cap l) (n - l) (cap - l)) wx := by
  rw [run_slice_l wx 34 o n cap Tryd.underlying34 k l (by omega) (by omega)]
  have hz : (sizeOf (Tryd.prog.elem 34)).run Tryd.prog wx = .ok 1 wx := by kernel_rfl
  rw [hz]
  simp [Result.andThen, sliced, slo]
theorem Todo.of_own {w : World} {B : Nat} {V : Value} {l : List Nat} (hl : 0 < l.length) (h : w.ownsRow B 3 1 V l.length (naC l)) : Todo w B V l ∧ ∃ g, V.ownBlock = some g ∧ B ≤ g := by
  rcases h.2 with ⟨rfl, h0⟩ | ⟨g, cap, cur, rfl, hB, hg, hc, hm, hs, ht⟩
  · omega
  · refine ⟨⟨_, cap, rfl, hc, by unfold maxLen at hm; omega, .inr ⟨g, 0, cur, rfl, hB, hg, fun _ => by omega, fun j u hu => ?_⟩⟩, g, rfl, hB⟩
    rw [Nat.zero_add, ← Array.getElem?_toList]
    have : (cur.toList.take (l.length * 1))[j]? = some u := by rw [ht]; exact hu
    rw [List.getElem?_take] at this
    split at this
    · exact this
    · cases this
set_option maxRecDepth 100000 in
/-- one place more -/
theorem wpList_todo (w0 : World) (k : Nat) {ops : Array Oper} {rest : List Oper} {op : Oper} {a : Act} {Q : Exit → Act → World → Prop} (hgd : op.guard = none) (s x : Operand)
    (ho : op.op = .call { callee := .builtin .append, args := #[s, x], argTypes := #[34, 34] }) (B : Nat) (V : Value) (l : List Nat) (hs : a.eval s = V) (hT : Todo w0 B V l)
    (g0 : Nat) (hg0 : g0 = w0.heap.size) (hx : a.eval x = .slice (some ⟨g0, 0, none⟩) 1 1) (hlen : l.length ≤ 1000) (hB : B ≤ w0.heap.size)
    (h : ∀ V' w', Todo w' B V' (l ++ [k]) → Fr (fun y => V.ownBlock = some y) w0 w' → (V'.ownBlock = V.ownBlock ∨ ∃ y, V'.ownBlock = some y ∧ w0.heap.size ≤ y) → wpList Tryd.prog ops Q rest (a.put op.dst V') w') :
    wpList Tryd.prog ops Q (op :: rest) a (w0.alloc (.cells #[.int .i64 (k : Nat)] 3)) := by
  subst hg0
  obtain ⟨i0, hi, hz0, hz1, hz2⟩ := info_parts infoInt
  have hb0 := below_one w0 (.cells #[.int .i64 (k : Nat)] 3)
  have hn0 := heap_alloc_new w0 (.cells #[.int .i64 (k : Nat)] 3)
  have hsz : (w0.alloc (.cells #[.int .i64 (k : Nat)] 3)).heap.size = w0.heap.size + 1 := World.size_alloc _ _
  have eapp : naC (l ++ [k]) = naC l ++ [Value.int .i64 (k : Nat)] := by simp [naC]
  have hlk : (l ++ [k]).length = l.length + 1 := by simp
  have hnew : ∀ j u, [Value.int .i64 (k : Nat)][j]? = some u → (w0.alloc (.cells #[.int .i64 (k : Nat)] 3)).cell? ((⟨w0.heap.size, 0, none⟩ : Addr).add j) = some u := fun j u hu => by
    rw [addr_b0, cell_of_heap hn0]
    simpa using hu
  have hgrown : ∀ v' w', w'.ownsRow (w0.alloc (.cells #[.int .i64 (k : Nat)] 3)).heap.size 3 1 v' (l.length + 1) (naC l ++ [Value.int .i64 (k : Nat)]) → (w0.alloc (.cells #[.int .i64 (k : Nat)] 3)).grownBy w' none → wpList Tryd.prog ops Q rest (a.put op.dst v') w' := fun v' w' r1 r2 => by
    rw [← eapp, ← hlk] at r1
    obtain ⟨t1, g, t2, t3⟩ := Todo.of_own (by simp) r1
    refine h v' w' ?_ ?_ (.inr ⟨g, t2, by omega⟩)
    · obtain ⟨ao, cap, e, q1, q2, q3⟩ := t1
      refine ⟨ao, cap, e, q1, q2, q3.imp id ?_⟩
      rintro ⟨g', off, cur, e1, hB', rest'⟩
      exact ⟨g', off, cur, e1, by omega, rest'⟩
    · exact ((Fr.refl _ w0).below hb0).then ⟨r2.os, r2.tape, r2.output, r2.size, fun y hy _ => r2.block y hy (by simp)⟩
  obtain ⟨ao, cap, rfl, h1, h2, h3⟩ := hT
  rcases h3 with ⟨rfl, rfl⟩ | ⟨g, off, cur, rfl, hBg, hg, hc, hj⟩
  · have h0 : l.length = 0 := by omega
    refine wpList_append_grows _ hgd s x 34 ho 3 i0 _ 1 8 Tryd.underlying34 hi hz0 hz1 hz2 rfl (by decide) none l.length 0 (naC l) hs (fun _ => ⟨h0, rfl⟩) (by simp [naC]) (fun b hb => by cases hb) ⟨w0.heap.size, 0, none⟩ 1 1 [.int .i64 (k : Nat)] hx (by simp) hnew (fun u hu => by simp at hu; subst hu; rfl) (by omega) (by unfold maxLen; omega) (by omega) hgrown
  · have hgl := heap_lt hg
    have hg' : (w0.alloc (.cells #[.int .i64 (k : Nat)] 3)).heap[g]? = some (.cells cur 3 (0, 0)) := (hb0.block _ hgl).trans hg
    refine wpList_append_arg _ hgd s x 34 ho 3 i0 _ 1 8 Tryd.underlying34 hi hz0 hz1 hz2 rfl (by decide) g off l.length cap (naC l) hs (by simp [naC]) (fun j u hu => by rw [cell_of_heap hg']; exact hj j u hu) ⟨w0.heap.size, 0, none⟩ 1 1 [.int .i64 (k : Nat)] hx (by simp) hnew (fun u hu => by simp at hu; subst hu; rfl) (fun hr j hjl => ?_) (by unfold maxLen; omega) (by omega) (fun hr => ?_) (fun _ => hgrown)
    · have := hc (by omega)
      have hj0 : j = 0 := by simpa using hjl
      subst hj0
      refine ⟨?_, thaw hg'⟩
      rw [cell_of_heap hg', Array.getElem?_eq_getElem (by omega)]
      rfl
    · have hsp := hc (by omega)
      have hst : ((w0.alloc (.cells #[.int .i64 (k : Nat)] 3)).setCells g (off + l.length * 1) [.int .i64 (k : Nat)]).heap[g]? = some (.cells (cur.setIfInBounds (off + l.length * 1) (.int .i64 (k : Nat))) 3 (0, 0)) := heap_setCell_same _ g _ _ _ _ hg'
      refine h _ _ ⟨some ⟨g, off, none⟩, cap, by rw [hlk], by omega, h2, .inr ⟨g, off, _, rfl, hBg, hst, fun _ => by simpa using hsp, fun j u hu => ?_⟩⟩ ?_ (.inl rfl)
      · rw [eapp] at hu
        rw [Array.getElem?_setIfInBounds]
        by_cases hjl : j < l.length
        · rw [if_neg (by omega)]
          rw [List.getElem?_append_left (by simpa [naC] using hjl)] at hu
          exact hj j u hu
        · have hje : j = l.length := by
            have := (List.getElem?_eq_some_iff.1 hu).1
            simp [naC] at this
            omega
          subst hje
          rw [List.getElem?_append_right (by simp [naC])] at hu
          simp [naC] at hu
          rw [if_pos (by omega), if_pos (by omega), hu]
      · exact ((Fr.refl _ w0).below hb0).setCell ⟨g, _, none⟩ _ (.inr rfl)
end Go.Proofs.YtoknolljfeaapaaDoor
