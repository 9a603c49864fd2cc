/- CheckDead: memory: a row behind a row (functions, instructions), a function's code changed. -/
import Derived.Test.YtibpbnffennmeaaDoorCkOneM
import Derived.Test.YtibpbnffennmeaaDoorCkDeadM
import Derived.Maps.AppendAt
namespace Go.Proofs.YtibpbnffennmeaaDoor
open Go.RowKit
/-- an instruction as CheckDead puts it behind a function -/
def ck.tame (i : md.Ins) : md.Ins :=
  if i.op = 24 ∨ i.op = 25 ∨ i.op = 5 ∨ i.op = 6 ∨ i.op = 26 ∨ i.op = 28 ∨ i.op < 0 ∨ 29 < i.op then ⟨7, 0⟩
  else if md.has i.op = true then i else ⟨i.op, 0⟩
theorem ck.tame_calm (i : md.Ins) : ck.calm (ck.tame i) := by
  unfold ck.tame
  by_cases h : i.op = 24 ∨ i.op = 25 ∨ i.op = 5 ∨ i.op = 6 ∨ i.op = 26 ∨ i.op = 28 ∨ i.op < 0 ∨ 29 < i.op
  · rw [if_pos h]
    exact ⟨by decide, by decide, by decide, by decide, by decide, by decide⟩
  · rw [if_neg h]
    have k : ck.calm i := ⟨by omega, by omega, by omega, by omega, by omega, by omega⟩
    by_cases h2 : md.has i.op = true
    · rw [if_pos h2]
      exact k
    · rw [if_neg h2]
      exact k
theorem ck.tame_i64 {l : List md.Ins} (h : md.codeI l) : md.codeI (l.map ck.tame) := by
  intro i hi
  obtain ⟨j, hj, rfl⟩ := List.mem_map.1 hi
  have := h j hj
  unfold ck.tame
  split
  · exact ⟨by decide, by decide⟩
  · split
    · exact this
    · exact ⟨by simp only; decide, by simp only; decide⟩
theorem ck.dead_i64 {m : md.Mod} {f : Nat} {x : List md.Ins} (h : md.fnsI m.funcs) (hf : f < m.funcs.length) (hx : md.codeI x) : md.fnsI (ck.dead m f x).funcs := by
  intro g hg
  unfold ck.dead at hg
  rcases List.mem_or_eq_of_mem_set hg with hg | rfl
  · exact h g hg
  · intro i hi
    rcases List.mem_append.1 hi with hi | hi
    · rw [ck.fnAt_lt hf] at hi
      exact h _ (List.getElem_mem hf) i hi
    · exact hx i hi
theorem FnsC.set {w : World} {D : Nat → Prop} {VC : Value} {c : List md.Ins} (hc : InsIn w D VC c) : ∀ (l : List md.Fn) (cs : List Value) (f : Nat) (h : f < l.length), FnsC w D l cs → FnsC w D (l.set f { l[f] with code := c }) (cs.set (f * 4 + 3) VC)
  | [], cs, f, h, _ => by simp at h
  | g :: r, cs, 0, h, hs => by
    obtain ⟨c0, c1, rfl, ⟨V0, rfl, -⟩, h1⟩ := hs
    exact ⟨[.int .i64 g.params, .int .i64 g.results, .int .i64 g.locals, VC], c1, rfl, ⟨VC, rfl, hc⟩, h1⟩
  | g :: r, cs, f + 1, h, hs => by
    obtain ⟨c0, c1, rfl, h0, h1⟩ := hs
    have h4 := h0.four
    refine ⟨c0, c1.set (f * 4 + 3) VC, ?_, h0, FnsC.set hc r c1 f (by simpa using h) h1⟩
    rw [List.set_append_right _ _ (by omega)]
    congr 2
    omega
theorem FnC.one {w : World} {D : Nat → Prop} {f : md.Fn} {c : List Value} (h : FnC w D f c) : ∀ u ∈ c, u.oneCell' = true := by
  obtain ⟨VC, rfl, ⟨_, _, rfl, -⟩⟩ := h
  intro u hu
  simp only [List.mem_cons, List.not_mem_nil, or_false] at hu
  rcases hu with rfl | rfl | rfl | rfl <;> rfl
theorem FnsC.one {w : World} {D : Nat → Prop} : ∀ (l : List md.Fn) (cs : List Value), FnsC w D l cs → ∀ u ∈ cs, u.oneCell' = true
  | [], cs, h => by
    obtain rfl : cs = [] := h
    intro u hu
    cases hu
  | f :: r, cs, h => by
    obtain ⟨c0, c1, rfl, h0, h1⟩ := h
    intro u hu
    rcases List.mem_append.1 hu with hu | hu
    · exact h0.one u hu
    · exact FnsC.one r c1 h1 u hu
theorem codeC_one (l : List md.Ins) : ∀ u ∈ codeC l, u.oneCell' = true := by
  intro u hu
  unfold codeC at hu
  obtain ⟨i, -, hu⟩ := List.mem_flatMap.1 hu
  simp only [insC, List.mem_cons, List.not_mem_nil, or_false] at hu
  rcases hu with rfl | rfl <;> rfl
theorem own_set {w : World} {B g i : Nat} {e : TypeId} {size n cap : Nat} {cs : List Value} (h : w.ownsRow B e size (.slice (some ⟨g, 0, none⟩) n cap) n cs) (u : Value) : (w.setCell ⟨g, i, none⟩ u).ownsRow B e size (.slice (some ⟨g, 0, none⟩) n cap) n (cs.set i u) := by
  refine ⟨by rw [List.length_set]; exact h.1, ?_⟩
  rcases h.2 with ⟨e1, -⟩ | ⟨g', cap', cur, e1, hB, hg, h1, h2, h3, h4⟩
  · cases e1
  · injection e1 with a1 a2 a3
    injection a1 with a1
    injection a1 with a1
    subst a1
    subst a3
    refine .inr ⟨g, cap, _, rfl, hB, heap_setCell_same w g i _ _ u hg, h1, h2, by simpa using h3, ?_⟩
    rw [Array.toList_setIfInBounds, List.take_set, h4]
/-- a row behind a row of one's own -/
theorem wpList_rows (S T : TypeId) (z b : Nat) (hS : Tryd.prog.underlying S = some (.slice T)) {z0 : Value} (hT : (Tryd.prog.info? T).map (fun i => (i.zero, i.size, i.bytes)) = some (some z0, z, b)) (hzs : z0.cells.size = z) (hz : 0 < z)
    {w : World} {ops : Array Oper} {rest : List Oper} {op : Oper} {a : Act} {Q : Exit → Act → World → Prop} (hgd : op.guard = none) (s x : Operand)
    (ho : op.op = .call { callee := .builtin .append, args := #[s, x], argTypes := #[S, S] }) (B : Nat) (V : Value) (n : Nat) (cs : List Value) (hs : a.eval s = V) (hown : w.ownsRow B T z V n cs) (hBw : B ≤ w.heap.size)
    (ad : Addr) (m cap : Nat) (D : Nat → Prop) (ks : List Value) (hx : a.eval x = .slice (some ad) m cap) (hk : RowIn w D (.slice (some ad) m cap) z m ks) (hm : 0 < m) (hone : ∀ u ∈ ks, u.oneCell' = true) (hn : n + m ≤ 8192) (hbb : (n + m) * b ≤ 140737488355328) (n' : Nat) (hn' : n + m = n') (ks' : List Value) (hks' : cs ++ ks = ks')
    (h : ∀ V' w', w'.ownsRow B T z V' n' ks' → w.grownBy w' V.ownBlock → wpList Tryd.prog ops Q rest (a.put op.dst V') w') :
    wpList Tryd.prog ops Q (op :: rest) a w := by
  subst hn'
  subst hks'
  refine wpList_plain hgd fun K hK => ?_
  obtain ⟨i0, hi, hz0, hz1, hz2⟩ := info_parts hT
  obtain ⟨bb, off, e1, hD, hlt, hc⟩ := RowIn.at_ hk 0 hm
  obtain rfl := Option.some.inj e1
  have h3 : ks.length = m * z := by obtain ⟨_, _, _, _, _, h3, _⟩ := hk; exact h3
  have hnews : ∀ j u, ks[j]? = some u → w.cell? ((⟨bb, off, none⟩ : Addr).add j) = some u := fun j u hu => by
    rw [addr_plain]
    exact hc j u hu
  obtain ⟨V', w', hrun, r1, r2, r3, r4⟩ := run_append_own_at (P := Tryd.prog) w B S op.type T i0 _ z b hS hi hz0 hz1 hz2 hzs hz V n cs hown ⟨bb, off, none⟩ m cap ks h3 hnews hone (by unfold maxLen; omega) hbb hBw
  unfold Oper.wp execOp
  simp only [ho, resolve, invoke, builtin, Sem.run_bind, Sem.run_pure, Result.andThen_ok, List.map_toArray, List.map_cons, List.map_nil, hs, hx, hrun]
  exact hK _ _ (h V' w' r1 r2)
theorem dead_mod {wr : World} {m : md.Mod} {f B B1 B2 g1 ac1 : Nat} {VD VF VC : Value} {X l : List md.Ins} {cs : List Value} (hlt : f < m.funcs.length) (hM : ModIn wr (fun k => k < B) VD VF m)
    (hF : wr.ownsRow B1 42 4 (.slice (some ⟨g1, 0, none⟩) m.funcs.length ac1) m.funcs.length cs) (hC : FnsC wr (fun k => k < B) m.funcs cs) (hB : B ≤ g1) (hI : wr.ownsRow B2 46 2 VC l.length (codeC l)) (hg : g1 < B2) (hl : (ck.fnAt m f).code ++ X = l) :
    ModIn (wr.setCell ⟨g1, f * 4 + 3, none⟩ VC) (fun k => k < wr.heap.size) VD (.slice (some ⟨g1, 0, none⟩) m.funcs.length ac1) (ck.dead m f X) := by
  have hkeep : ∀ k, k ≠ g1 → (wr.setCell ⟨g1, f * 4 + 3, none⟩ VC).heap[k]? = wr.heap[k]? := fun k hk => Below.heap_setCell wr _ VC k hk
  have hsz : wr.heap.size ≤ (wr.setCell ⟨g1, f * 4 + 3, none⟩ VC).heap.size := by simp
  have hIn : InsIn (wr.setCell ⟨g1, f * 4 + 3, none⟩ VC) (fun k => k < wr.heap.size) VC l :=
    RowIn.keep (RowIn.of_own hI (codeC_len _) (fun k => B2 ≤ k ∧ k < wr.heap.size) (fun g hg => hI.lt g hg)) (fun k hk _ => hkeep k (by omega)) hsz (fun k _ h => h)
  have hC2 : FnsC (wr.setCell ⟨g1, f * 4 + 3, none⟩ VC) (fun k => k < wr.heap.size) m.funcs cs := FnsC.keep (fun k hk _ => hkeep k (by omega)) hsz (fun k _ h => h) _ _ hC
  refine ⟨RowIn.keep hM.data (fun k hk _ => hkeep k (by omega)) hsz (fun k _ h => h), cs.set (f * 4 + 3) VC, ?_, ?_⟩
  · have h1 := own_set (i := f * 4 + 3) hF VC
    rw [ck.dead_len]
    exact RowIn.of_own h1 h1.1 _ (fun g hg => by have := (h1.lt g hg).2; simpa using this)
  · have h2 := FnsC.set hIn m.funcs cs f hlt hC2
    have e : (ck.dead m f X).funcs = m.funcs.set f { m.funcs[f] with code := l } := by
      unfold ck.dead
      rw [← ck.fnAt_lt hlt, hl]
    rw [e]
    exact h2
theorem infoFnC : (Tryd.prog.info? 42).map (fun i => (i.zero, i.size, i.bytes)) = some (some (Value.agg #[.int .i64 0, .int .i64 0, .int .i64 0, .slice none 0 0]), 4, 48) := by kernel_rfl
theorem own_pos {w : World} {B : Nat} {e : TypeId} {size : Nat} {V : Value} {n : Nat} {xs : List Value} (h : w.ownsRow B e size V n xs) (hn : 0 < n) : ∃ g cap, V = .slice (some ⟨g, 0, none⟩) n cap ∧ B ≤ g ∧ g < w.heap.size ∧ n ≤ cap ∧ cap ≤ 9223372036854775807 := by
  rcases h.2 with ⟨-, h0⟩ | ⟨g, cap, cur, rfl, hB, hg, hc, hm, -⟩
  · omega
  · exact ⟨g, cap, rfl, hB, heap_lt hg, hc, by unfold maxLen at hm; omega⟩
end Go.Proofs.YtibpbnffennmeaaDoor
