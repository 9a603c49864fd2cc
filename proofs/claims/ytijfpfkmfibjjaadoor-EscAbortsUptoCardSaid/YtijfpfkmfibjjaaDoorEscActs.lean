/- What is said: a row of acts. -/
import Derived.Test.YtijfpfkmfibjjaaDoorEscCmd
namespace Go.Proofs.YtijfpfkmfibjjaaDoor
open Go.RowKit

theorem infoAct : (Tryd.prog.info? 45).map (fun i => (i.zero, i.size, i.bytes)) = some (some (Value.agg #[.int .i64 0, .int .i32 0, .int .u8 0, .int .u8 0, .string ByteArray.empty, .slice none 0 0, .string ByteArray.empty]), 7, 72) := by kernel_rfl
/-- an act's cells -/
def actC (a : es.Act) (o : Option Addr) (cap : Nat) : List Value := [.int .i64 a.kind, .int .i32 a.r, .int .u8 a.final, .int .u8 a.priv, .string ⟨a.inter.toArray⟩, .slice o a.params.length cap, .string ⟨a.text.toArray⟩]
/-- an act's numbers -/
structure Act1 (w : World) (B : Nat) (a : es.Act) (o : Option Addr) (cap : Nat) : Prop where
  nums : Nums .i64 w o a.params.length cap a.params
  own : a.params.length ≠ 0 → ∀ d, o = some d → B ≤ d.block ∧ ∃ c, w.heap[d.block]? = some (.cells c 3 (0, 0))
theorem Act1.kept {w w' : World} {B : Nat} {a : es.Act} {o : Option Addr} {cap : Nat} (h : Act1 w B a o cap) {S : Nat → Prop} (hk : Kept w w' S) (hS : ∀ k c, B ≤ k → w.heap[k]? = some (.cells c 3 (0, 0)) → ¬ S k) : Act1 w' B a o cap := by
  have hn := h.nums
  by_cases h0 : a.params.length = 0
  · exact ⟨⟨hn.len, hn.le, hn.max, .inl h0⟩, fun h1 => absurd h0 h1⟩
  · refine ⟨hn.same (fun k hk' off hoff => ?_) hk.size, fun h1 d hd => ?_⟩
    · obtain ⟨h4, c, h5⟩ := h.own h0 _ hoff
      exact hk.block k hk' (hS k c h4 h5)
    · obtain ⟨h4, c, h5⟩ := h.own h1 d hd
      exact ⟨h4, c, hk.same h5 (hS _ c h4 h5)⟩
/-- a row's cells -/
def rowC (L : List (es.Act × Option Addr × Nat)) : List Value := L.flatMap fun q => actC q.1 q.2.1 q.2.2
theorem rowC_len (L : List (es.Act × Option Addr × Nat)) : (rowC L).length = L.length * 7 := by
  induction L with
  | nil => rfl
  | cons q L ih =>
    have : (rowC (q :: L)).length = 7 + (rowC L).length := by simp [rowC, actC]; omega
    rw [this, ih, List.length_cons]
    omega
theorem rowC_append (L : List (es.Act × Option Addr × Nat)) (q : es.Act × Option Addr × Nat) : rowC (L ++ [q]) = rowC L ++ actC q.1 q.2.1 q.2.2 := by simp [rowC]
/-- acts in a row of one's own -/
def ActsAt (w : World) (B : Nat) (v : Value) (l : List es.Act) : Prop :=
  ∃ L : List (es.Act × Option Addr × Nat), L.map (·.1) = l ∧ w.ownsRow B 45 7 v L.length (rowC L) ∧ ∀ q ∈ L, Act1 w B q.1 q.2.1 q.2.2
theorem ActsAt.nil (w : World) (B : Nat) : ActsAt w B (.slice none 0 0) [] := ⟨[], rfl, World.ownsRow_nil w B _ 7, fun q hq => by cases hq⟩
/-- a frame that leaves what is B or more -/
theorem ActsAt.kept {w w' : World} {B : Nat} {v : Value} {l : List es.Act} (h : ActsAt w B v l) {S : Nat → Prop} (hk : Kept w w' S) (hS : ∀ k, B ≤ k → ¬ S k) : ActsAt w' B v l := by
  obtain ⟨L, h1, h2, h3⟩ := h
  exact ⟨L, h1, hk.row h2 (fun k hk' => hS k (h2.lt k hk').1), fun q hq => (h3 q hq).kept hk (fun k c h _ => hS k h)⟩
theorem ActsAt.below {w w' : World} {B : Nat} {v : Value} {l : List es.Act} (h : ActsAt w B v l) (hk : Below w.heap.size w w') : ActsAt w' B v l := by
  obtain ⟨L, h1, h2, h3⟩ := h
  have hk' := Kept.of_below hk (fun _ => False)
  exact ⟨L, h1, hk'.row h2 (fun _ _ h => h), fun q hq => (h3 q hq).kept hk' (fun _ _ _ _ h => h)⟩
/-- an act more: what is no row of acts is left -/
theorem wpList_append_act' {w : World} {ops : Array Oper} {rest : List Oper} {op : Oper} {a : Act} {Q : Exit → Act → World → Prop} (hgd : op.guard = none) (s x : Operand)
    (ho : op.op = .call { callee := .builtin .append, args := #[s, x], argTypes := #[37, 37] }) (B : Nat) (v : Value) (l : List es.Act) (hs : a.eval s = v) (hown : ActsAt w B v l)
    (g : Nat) (act : es.Act) (o : Option Addr) (cap : Nat) (hx : a.eval x = .slice (some ⟨g, 0, none⟩) 1 1) (hg : w.heap[g]? = some (.cells (actC act o cap).toArray 45 (0, 0))) (hp : Act1 w B act o cap)
    (hlen : l.length ≤ 1099511627776) (hbase : B ≤ w.heap.size)
    (h : ∀ v' w', ActsAt w' B v' (l ++ [act]) → Below B w w' → (∀ (k : Nat) (ob : Obj), w.heap[k]? = some ob → (∀ c, ob ≠ Obj.cells c 45 (0, 0)) → w'.heap[k]? = some ob) → wpList Tryd.prog ops Q rest (a.put op.dst v') w') : wpList Tryd.prog ops Q (op :: rest) a w := by
  obtain ⟨i0, hi, hz0, hz1, hz2⟩ := info_parts infoAct
  obtain ⟨L, h1, h2, h3⟩ := hown
  have hL : L.length = l.length := by rw [← h1, List.length_map]
  refine wpList_append_own (P := Tryd.prog) w hgd s x 37 ho B 45 i0 _ 7 72 Tryd.underlying37 hi hz0 hz1 hz2 rfl (by omega) v L.length (rowC L) hs h2
    ⟨g, 0, none⟩ 1 1 (actC act o cap) hx (by simp [actC]) (fun j u hu => ?_) (fun u hu => ?_) (by unfold maxLen; omega) (by omega) hbase (fun v' w' r1 r2 r3 => h v' w' ?_ ?_ ?_)
  · rw [addr_b0, cell_of_heap hg]; simpa using hu
  · simp [actC] at hu
    rcases hu with rfl | rfl | rfl | rfl | rfl | rfl | rfl <;> rfl
  · refine ⟨L ++ [(act, o, cap)], by simp [h1], by rw [rowC_append, List.length_append]; exact r1, fun q hq => ?_⟩
    have hk := (Kept.refl w (fun k => v.ownBlock = some k)).grown r2 (fun k hk _ => hk)
    have hne : ∀ k c, B ≤ k → w.heap[k]? = some (.cells c 3 (0, 0)) → ¬ v.ownBlock = some k := by
      intro k c _ hkc hv
      rcases h2.2 with ⟨rfl, _⟩ | ⟨g', cap', cur', rfl, _, hg', _⟩
      · cases hv
      · obtain rfl : g' = k := by simpa [Value.ownBlock] using hv
        rw [hg'] at hkc
        simp at hkc
    rcases List.mem_append.1 hq with hq | hq
    · exact (h3 q hq).kept hk hne
    · obtain rfl : q = (act, o, cap) := by simpa using hq
      exact hp.kept hk hne
  · exact (Below.refl B w).grown r2 hbase (fun k hk => (h2.lt k hk).1)
  · intro k ob hk hne
    refine (r2.block k (Array.getElem?_eq_some_iff.1 hk).1 (fun e' => ?_)).trans hk
    rcases h2.2 with ⟨rfl, _⟩ | ⟨g', cap', cur', rfl, _, hg', _⟩
    · cases e'
    · obtain rfl : k = g' := by simpa [Value.ownBlock] using e'
      rw [hg'] at hk
      exact hne _ (Option.some.inj hk).symm
/-- an act more -/
theorem wpList_append_act {w : World} {ops : Array Oper} {rest : List Oper} {op : Oper} {a : Act} {Q : Exit → Act → World → Prop} (hgd : op.guard = none) (s x : Operand)
    (ho : op.op = .call { callee := .builtin .append, args := #[s, x], argTypes := #[37, 37] }) (B : Nat) (v : Value) (l : List es.Act) (hs : a.eval s = v) (hown : ActsAt w B v l)
    (g : Nat) (act : es.Act) (o : Option Addr) (cap : Nat) (hx : a.eval x = .slice (some ⟨g, 0, none⟩) 1 1) (hg : w.heap[g]? = some (.cells (actC act o cap).toArray 45 (0, 0))) (hp : Act1 w B act o cap)
    (hlen : l.length ≤ 1099511627776) (hbase : B ≤ w.heap.size)
    (h : ∀ v' w', ActsAt w' B v' (l ++ [act]) → Below B w w' → wpList Tryd.prog ops Q rest (a.put op.dst v') w') : wpList Tryd.prog ops Q (op :: rest) a w := 
  wpList_append_act' hgd s x ho B v l hs hown g act o cap hx hg hp hlen hbase fun v' w' r1 r2 _ => h v' w' r1 r2
end Go.Proofs.YtijfpfkmfibjjaaDoor
