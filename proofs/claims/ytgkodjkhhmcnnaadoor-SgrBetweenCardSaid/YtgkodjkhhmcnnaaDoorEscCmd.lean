/- command. What is said: a row of acts. command. say. prints. -/
import Derived.Test.YtgkodjkhhmcnnaaDoorEscSeq
import Derived.Laws.Tables
namespace Go.Proofs.YtgkodjkhhmcnnaaDoor
open Go.RowKit

theorem zero_cells : Tryd.zeroCells33 = zeroC := by kernel_rfl
theorem one_cells : zeroC.all (·.oneCell') = true := by decide +kernel
theorem esc_cells : escC.all (·.oneCell') = true := by decide +kernel
theorem run_zero (p : Nat) (s : es.St) (cur : Array Value) (w : World) (h : PsAt w p s cur) :
    (storeCells ⟨p, 0, none⟩ Tryd.zeroCells33.toList).run Tryd.prog w = .ok () (w.setRow p zeroC) := by
  have := run_storeCells_from (P := Tryd.prog) p 33 zeroC.toList 0 cur w h.at_ (by rw [Array.length_toList, zeroC_size, h.is.size]) (fun v hv => (Array.all_eq_true_iff_forall_mem.1 one_cells) v (by simpa using hv))
  rw [zero_cells]
  simpa using this
theorem escC_size : escC.size = 284 := by unfold escC; rw [Array.size_setIfInBounds]; exact zeroC_size
theorem run_esc (p : Nat) (s : es.St) (cur : Array Value) (w : World) (h : PsAt w p s cur) :
    (storeCells ⟨p, 0, none⟩ (Tryd.zeroCells33.toList.set 0 (.int .i64 1))).run Tryd.prog w = .ok () (w.setRow p escC) := by
  have := run_storeCells_from (P := Tryd.prog) p 33 escC.toList 0 cur w h.at_ (by rw [Array.length_toList, escC_size, h.is.size]) (fun v hv => (Array.all_eq_true_iff_forall_mem.1 esc_cells) v (by simpa using hv))
  rw [zero_cells, show zeroC.toList.set 0 (.int .i64 1) = escC.toList by unfold escC; rw [Array.toList_setIfInBounds]]
  simpa using this
theorem row_at {w : World} {p : Nat} {s s' : es.St} {cur c : Array Value} (h : PsAt w p s cur) (hc : PsIs c s') : PsAt (w.setRow p c) p s' c := ⟨setRow_heap w p cur c _ _ h.at_, hc⟩
theorem Kept.setRow {a w : World} {S : Nat → Prop} (h : Kept a w S) {p : Nat} (hp : p < a.heap.size → S p) (c : Array Value) : Kept a (w.setRow p c) S :=
  ⟨h.os, h.tape, h.output, by rw [setRow_size]; exact h.size, fun k hk hn => by rw [setRow_other w p k c (fun e => hn (e ▸ hp (e ▸ hk)))]; exact h.block k hk hn⟩
theorem cmd_try (p : Nat) (s : es.St) (cur : Array Value) (v : Value) (w : World) (h : PsAt w p s cur) :
    Calls Tryd.prog 55 #[.pointer (some ⟨p, 0, none⟩), v, .int .u8 24] w fun e w' => e = .returned v ∧ (∃ cur', PsAt w' p {} cur') ∧ Kept w w' (· = p) := by
  have hz := run_zero p s cur w h
  go_enter Tryd.func55, Tryd.ntmps55
  go_wp2_with fail
  go_ret
  exact ⟨rfl, ⟨_, row_at h zero_is⟩, (Kept.refl w (· = p)).setRow (fun _ => rfl) _⟩
end Go.Proofs.YtgkodjkhhmcnnaaDoor
namespace Go.Proofs.YtgkodjkhhmcnnaaDoor
open Go.RowKit

theorem infoAct : (Tryd.prog.info? 45).map (fun i => (i.zero, i.size, i.bytes)) = some (some (Value.agg #[.int .i64 0, .int .i32 0, .int .u8 0, .int .u8 0, .string ByteArray.empty, .slice none 0 0, .string ByteArray.empty]), 7, 72) := by kernel_rfl
/-- an act's cells -/
def actC (a : es.Act) (o : Option Addr) (cap : Nat) : List Value := [.int .i64 a.kind, .int .i32 a.r, .int .u8 a.final, .int .u8 a.priv, .string ⟨a.inter.toArray⟩, .slice o a.params.length cap, .string ⟨a.text.toArray⟩]
/-- an act's numbers -/
structure Act1 (w : World) (B : Nat) (a : es.Act) (o : Option Addr) (cap : Nat) : Prop where
  nums : Nums .i64 w o a.params.length cap a.params
  own : a.params.length ≠ 0 → ∀ d, o = some d → B ≤ d.block ∧ ∃ c, w.heap[d.block]? = some (.cells c 3 (0, 0))
theorem Act1.kept {w w' : World} {B : Nat} {a : es.Act} {o : Option Addr} {cap : Nat} (h : Act1 w B a o cap) {S : Nat → Prop} (hk : Kept w w' S) (hS : ∀ k c, B ≤ k → w.heap[k]? = some (.cells c 3 (0, 0)) → ¬ S k) : Act1 w' B a o cap := by
  have hn := h.nums
  by_cases h0 : a.params.length = 0
  · exact ⟨⟨hn.len, hn.le, hn.max, .inl h0⟩, fun h1 => absurd h0 h1⟩
  · refine ⟨hn.same (fun k hk' off hoff => ?_) hk.size, fun h1 d hd => ?_⟩
    · obtain ⟨h4, c, h5⟩ := h.own h0 _ hoff
      exact hk.block k hk' (hS k c h4 h5)
    · obtain ⟨h4, c, h5⟩ := h.own h1 d hd
      exact ⟨h4, c, hk.same h5 (hS _ c h4 h5)⟩
/-- a row's cells -/
def rowC (L : List (es.Act × Option Addr × Nat)) : List Value := L.flatMap fun q => actC q.1 q.2.1 q.2.2
theorem rowC_len (L : List (es.Act × Option Addr × Nat)) : (rowC L).length = L.length * 7 := by
  induction L with
  | nil => rfl
  | cons q L ih =>
    have : (rowC (q :: L)).length = 7 + (rowC L).length := by simp [rowC, actC]; omega
    rw [this, ih, List.length_cons]
    omega
theorem rowC_append (L : List (es.Act × Option Addr × Nat)) (q : es.Act × Option Addr × Nat) : rowC (L ++ [q]) = rowC L ++ actC q.1 q.2.1 q.2.2 := by simp [rowC]
/-- acts in a row of one's own -/
def ActsAt (w : World) (B : Nat) (v : Value) (l : List es.Act) : Prop :=
  ∃ L : List (es.Act × Option Addr × Nat), L.map (·.1) = l ∧ w.ownsRow B 45 7 v L.length (rowC L) ∧ ∀ q ∈ L, Act1 w B q.1 q.2.1 q.2.2
theorem ActsAt.nil (w : World) (B : Nat) : ActsAt w B (.slice none 0 0) [] := ⟨[], rfl, World.ownsRow_nil w B _ 7, fun q hq => by cases hq⟩
/-- a frame that leaves what is B or more -/
theorem ActsAt.kept {w w' : World} {B : Nat} {v : Value} {l : List es.Act} (h : ActsAt w B v l) {S : Nat → Prop} (hk : Kept w w' S) (hS : ∀ k, B ≤ k → ¬ S k) : ActsAt w' B v l := by
  obtain ⟨L, h1, h2, h3⟩ := h
  exact ⟨L, h1, hk.row h2 (fun k hk' => hS k (h2.lt k hk').1), fun q hq => (h3 q hq).kept hk (fun k c h _ => hS k h)⟩
theorem ActsAt.below {w w' : World} {B : Nat} {v : Value} {l : List es.Act} (h : ActsAt w B v l) (hk : Below w.heap.size w w') : ActsAt w' B v l := by
  obtain ⟨L, h1, h2, h3⟩ := h
  have hk' := Kept.of_below hk (fun _ => False)
  exact ⟨L, h1, hk'.row h2 (fun _ _ h => h), fun q hq => (h3 q hq).kept hk' (fun _ _ _ _ h => h)⟩
/-- an act more: what is no row of acts is left -/
theorem wpList_append_act' {w : World} {ops : Array Oper} {rest : List Oper} {op : Oper} {a : Act} {Q : Exit → Act → World → Prop} (hgd : op.guard = none) (s x : Operand)
    (ho : op.op = .call { callee := .builtin .append, args := #[s, x], argTypes := #[37, 37] }) (B : Nat) (v : Value) (l : List es.Act) (hs : a.eval s = v) (hown : ActsAt w B v l)
    (g : Nat) (act : es.Act) (o : Option Addr) (cap : Nat) (hx : a.eval x = .slice (some ⟨g, 0, none⟩) 1 1) (hg : w.heap[g]? = some (.cells (actC act o cap).toArray 45 (0, 0))) (hp : Act1 w B act o cap)
    (hlen : l.length ≤ 1099511627776) (hbase : B ≤ w.heap.size)
    (h : ∀ v' w', ActsAt w' B v' (l ++ [act]) → Below B w w' → (∀ (k : Nat) (ob : Obj), w.heap[k]? = some ob → (∀ c, ob ≠ Obj.cells c 45 (0, 0)) → w'.heap[k]? = some ob) → wpList Tryd.prog ops Q rest (a.put op.dst v') w') : wpList Tryd.prog ops Q (op :: rest) a w := by
  obtain ⟨i0, hi, hz0, hz1, hz2⟩ := info_parts infoAct
  obtain ⟨L, h1, h2, h3⟩ := hown
  have hL : L.length = l.length := by rw [← h1, List.length_map]
  refine wpList_append_own (P := Tryd.prog) w hgd s x 37 ho B 45 i0 _ 7 72 Tryd.underlying37 hi hz0 hz1 hz2 rfl (by omega) v L.length (rowC L) hs h2
    ⟨g, 0, none⟩ 1 1 (actC act o cap) hx (by simp [actC]) (fun j u hu => ?_) (fun u hu => ?_) (by unfold maxLen; omega) (by omega) hbase (fun v' w' r1 r2 r3 => h v' w' ?_ ?_ ?_)
  · rw [addr_b0, cell_of_heap hg]; simpa using hu
  · simp [actC] at hu
    rcases hu with rfl | rfl | rfl | rfl | rfl | rfl | rfl <;> rfl
  · refine ⟨L ++ [(act, o, cap)], by simp [h1], by rw [rowC_append, List.length_append]; exact r1, fun q hq => ?_⟩
    have hk := (Kept.refl w (fun k => v.ownBlock = some k)).grown r2 (fun k hk _ => hk)
    have hne : ∀ k c, B ≤ k → w.heap[k]? = some (.cells c 3 (0, 0)) → ¬ v.ownBlock = some k := by
      intro k c _ hkc hv
      rcases h2.2 with ⟨rfl, _⟩ | ⟨g', cap', cur', rfl, _, hg', _⟩
      · cases hv
      · obtain rfl : g' = k := by simpa [Value.ownBlock] using hv
        rw [hg'] at hkc
        simp at hkc
    rcases List.mem_append.1 hq with hq | hq
    · exact (h3 q hq).kept hk hne
    · obtain rfl : q = (act, o, cap) := by simpa using hq
      exact hp.kept hk hne
  · exact (Below.refl B w).grown r2 hbase (fun k hk => (h2.lt k hk).1)
  · intro k ob hk hne
    refine (r2.block k (Array.getElem?_eq_some_iff.1 hk).1 (fun e' => ?_)).trans hk
    rcases h2.2 with ⟨rfl, _⟩ | ⟨g', cap', cur', rfl, _, hg', _⟩
    · cases e'
    · obtain rfl : k = g' := by simpa [Value.ownBlock] using e'
      rw [hg'] at hk
      exact hne _ (Option.some.inj hk).symm
/-- an act more -/
theorem wpList_append_act {w : World} {ops : Array Oper} {rest : List Oper} {op : Oper} {a : Act} {Q : Exit → Act → World → Prop} (hgd : op.guard = none) (s x : Operand)
    (ho : op.op = .call { callee := .builtin .append, args := #[s, x], argTypes := #[37, 37] }) (B : Nat) (v : Value) (l : List es.Act) (hs : a.eval s = v) (hown : ActsAt w B v l)
    (g : Nat) (act : es.Act) (o : Option Addr) (cap : Nat) (hx : a.eval x = .slice (some ⟨g, 0, none⟩) 1 1) (hg : w.heap[g]? = some (.cells (actC act o cap).toArray 45 (0, 0))) (hp : Act1 w B act o cap)
    (hlen : l.length ≤ 1099511627776) (hbase : B ≤ w.heap.size)
    (h : ∀ v' w', ActsAt w' B v' (l ++ [act]) → Below B w w' → wpList Tryd.prog ops Q rest (a.put op.dst v') w') : wpList Tryd.prog ops Q (op :: rest) a w := 
  wpList_append_act' hgd s x ho B v l hs hown g act o cap hx hg hp hlen hbase fun v' w' r1 r2 _ => h v' w' r1 r2
end Go.Proofs.YtgkodjkhhmcnnaaDoor
namespace Go.Proofs.YtgkodjkhhmcnnaaDoor
open Go.RowKit

/-- what a call on a parser in p with acts from B on may turn -/
abbrev Fr (p B : Nat) : Nat → Prop := fun k => k = p ∨ B ≤ k
theorem Kept.fr {w w' : World} {p B : Nat} (h : Kept w w' (· = p)) : Kept w w' (Fr p B) := h.weaken (fun _ _ h => .inl h)
theorem Kept.fr_below {w w' : World} {p B : Nat} (h : Below B w w') : Kept w w' (Fr p B) := ⟨h.os, h.tape, h.output, h.size, fun k _ hn => h.block k (Nat.lt_of_not_le fun h => hn (.inr h))⟩
theorem Kept.fr_trans {a b c : World} {p B : Nat} (h : Kept a b (Fr p B)) (k : Kept b c (Fr p B)) : Kept a c (Fr p B) := h.trans k (fun _ _ h => h)
theorem act1_none (w : World) (B : Nat) (a : es.Act) (h : a.params = []) : Act1 w B a none 0 := ⟨⟨rfl, by simp [h], by omega, .inl (by simp [h])⟩, fun h0 => absurd (by simp [h]) h0⟩
set_option maxRecDepth 100000 in
set_option maxHeartbeats 1600000 in
theorem command_any (p B : Nat) (s : es.St) (cur : Array Value) (V : Value) (l : List es.Act) (b : UInt8) (w : World) (h : PsAt w p s cur) (ha : ActsAt w B V l) (hl : l.length ≤ 1099511627776) (hpB : p < B) (hBw : B ≤ w.heap.size) :
    Calls Tryd.prog 55 #[.pointer (some ⟨p, 0, none⟩), V, .int .u8 b.toNat] w fun e w' => ∃ V', e = .returned V' ∧ ActsAt w' B V' (l ++ (es.command s b).2) ∧ (∃ cur', PsAt w' p (es.command s b).1 cur') ∧ Kept w w' (Fr p B) := by
  have hz := run_zero p s cur w h
  have he := run_esc p s cur w h
  have HA := Lib.hid ha
  have HZ := Lib.hid (row_at h zero_is)
  have HE := Lib.hid (row_at h esc_is)
  have HH := Lib.hid h
  have HKR := Lib.hid (fun c => (Kept.refl w (· = p)).setRow (fun _ => rfl) c)
  have HAK := Lib.hid (fun w' (hk : Kept w w' (· = p)) => ha.kept hk (fun k hk e => by omega))
  clear h ha
  by_cases h24 : b.toNat = 24 ∨ b.toNat = 26
  · have e : es.command s b = ({}, []) := by unfold es.command; rw [if_pos h24]
    rw [e, List.append_nil]
    rcases h24 with h | h
    all_goals
      rw [show (b.toNat : Int) = _ from congrArg Nat.cast h]
      go_enter Tryd.func55, Tryd.ntmps55
      go_wp2_with fail
      go_ret
      exact ⟨_, rfl, HAK.out _ (HKR.out _), ⟨_, HZ.out⟩, (HKR.out _).fr⟩
  by_cases h27 : b.toNat = 27
  · have e : es.command s b = ({ state := 1 }, []) := by unfold es.command; rw [if_neg h24, if_pos h27]
    rw [e, List.append_nil, show (b.toNat : Int) = _ from congrArg Nat.cast h27]
    go_enter Tryd.func55, Tryd.ntmps55
    go_wp2_with fail
    go_ret
    exact ⟨_, rfl, HAK.out _ (HKR.out _), ⟨_, HE.out⟩, (HKR.out _).fr⟩
  by_cases h127 : b.toNat = 127
  · have e : es.command s b = (s, []) := by unfold es.command; rw [if_neg h24, if_neg h27, if_pos h127]
    rw [e, List.append_nil, show (b.toNat : Int) = _ from congrArg Nat.cast h127]
    go_enter Tryd.func55, Tryd.ntmps55
    go_wp2_with fail
    go_ret
    exact ⟨_, rfl, HA.out, ⟨_, HH.out⟩, Kept.refl _ _⟩
  · have e : es.command s b = (s, [es.exec b]) := by unfold es.command; rw [if_neg h24, if_neg h27, if_neg h127]
    rw [e]
    have b1 : ((b.toNat : Int) == 24) = false := by simp; omega
    have b2 : ((b.toNat : Int) == 26) = false := by simp; omega
    have b3 : ((b.toNat : Int) == 27) = false := by simp; omega
    have b4 : ((b.toNat : Int) == 127) = false := by simp; omega
    have hA1 : ActsAt (w.alloc (.cells (actC (es.exec b) none 0).toArray 45)) B V l := HA.out.below ((Below.refl _ _).alloc (Nat.le_refl _) _)
    have hP1 := act1_none (w.alloc (.cells (actC (es.exec b) none 0).toArray 45)) B (es.exec b) rfl
    have hG1 := heap_alloc_new w (.cells (actC (es.exec b) none 0).toArray 45)
    have HT := Lib.hid (And.intro hA1 (And.intro hP1 hG1))
    have HB1 := Lib.hid ((Below.refl B w).alloc hBw (.cells (actC (es.exec b) none 0).toArray 45))
    clear hA1 hP1 hG1 hz he
    go_enter Tryd.func55, Tryd.ntmps55
    go_wp2_with (at_builtin; refine wpList_append_act rfl (.tmp 8) (.tmp 11) rfl B V l rfl HT.out.1 w.heap.size (es.exec b) none 0 rfl HT.out.2.2 HT.out.2.1 hl (by simp; omega) (fun v' w' r1 r2 => ?_))
    have HB2 : Below B w w' := HB1.out.trans r2
    go_ret
    exact ⟨_, rfl, r1, ⟨_, HH.out.below HB2 hpB⟩, Kept.fr_below HB2⟩
end Go.Proofs.YtgkodjkhhmcnnaaDoor
namespace Go.Proofs.YtgkodjkhhmcnnaaDoor
open Go.RowKit

/-- an act as a value -/
abbrev actV (a : es.Act) (o : Option Addr) (cap : Nat) : Value := .agg #[.int .i64 a.kind, .int .i32 a.r, .int .u8 a.final, .int .u8 a.priv, .string ⟨a.inter.toArray⟩, .slice o a.params.length cap, .string ⟨a.text.toArray⟩]
set_option maxRecDepth 100000 in
set_option maxHeartbeats 1600000 in
theorem say_any (p B : Nat) (s : es.St) (cur : Array Value) (V : Value) (l : List es.Act) (act : es.Act) (o : Option Addr) (cap : Nat) (w : World) (h : PsAt w p s cur) (ha : ActsAt w B V l) (hl : l.length ≤ 1099511627776) (hpB : p < B) (hBw : B ≤ w.heap.size) (h1 : Act1 w B act o cap) :
    Calls Tryd.prog 58 #[.pointer (some ⟨p, 0, none⟩), V, actV act o cap] w fun e w' => ∃ V', e = .returned V' ∧ ActsAt w' B V' (l ++ (es.say s act).2) ∧ (∃ cur', PsAt w' p (es.say s act).1 cur') ∧ Kept w w' (Fr p B) := by
  have c5 : w.cell? ⟨p, 5, none⟩ = some (.bool s.spoiled) := (h.c 5).trans h.is.spoiled
  have hpw := h.lt
  have hb0 : Below w.heap.size w (w.alloc (.cells #[.int .i64 act.kind, .int .i32 act.r, .int .u8 act.final, .int .u8 act.priv, .string ⟨act.inter.toArray⟩, .slice o act.params.length cap, .string ⟨act.text.toArray⟩] 45)) := (Below.refl _ _).alloc (Nat.le_refl _) _
  have HW := Lib.hid (And.intro (h.alloc (.cells #[.int .i64 act.kind, .int .i32 act.r, .int .u8 act.final, .int .u8 act.priv, .string ⟨act.inter.toArray⟩, .slice o act.params.length cap, .string ⟨act.text.toArray⟩] 45)) (And.intro (ha.below hb0) (And.intro (h1.kept (Kept.of_below hb0 (fun _ => False)) (fun _ _ _ _ h => h)) ((Below.refl B w).alloc hBw (.cells #[.int .i64 act.kind, .int .i32 act.r, .int .u8 act.final, .int .u8 act.priv, .string ⟨act.inter.toArray⟩, .slice o act.params.length cap, .string ⟨act.text.toArray⟩] 45)))))
  clear h ha h1 hb0
  unfold es.say
  cases hs : s.spoiled with
  | true =>
    rw [hs] at c5
    rw [if_pos rfl, List.append_nil]
    have hz := run_zero p s cur _ HW.out.1
    have HZ := Lib.hid (row_at HW.out.1 zero_is)
    go_enter Tryd.func58, Tryd.ntmps58
    go_wp2_with fail
    go_ret
    have hk := (Kept.refl (w.alloc (.cells #[.int .i64 act.kind, .int .i32 act.r, .int .u8 act.final, .int .u8 act.priv, .string ⟨act.inter.toArray⟩, .slice o act.params.length cap, .string ⟨act.text.toArray⟩] 45)) (· = p)).setRow (fun _ => rfl) zeroC
    exact ⟨_, rfl, HW.out.2.1.kept hk (fun k hk e => by omega), ⟨_, HZ.out⟩, (Kept.fr_below HW.out.2.2.2).fr_trans hk.fr⟩
  | false =>
    rw [hs] at c5
    rw [if_neg (by simp)]
    have hg0 := heap_alloc_new w (.cells #[.int .i64 act.kind, .int .i32 act.r, .int .u8 act.final, .int .u8 act.priv, .string ⟨act.inter.toArray⟩, .slice o act.params.length cap, .string ⟨act.text.toArray⟩] 45)
    have HG0 := Lib.hid hg0
    clear hg0
    have hb1 : Below (w.alloc (.cells #[.int .i64 act.kind, .int .i32 act.r, .int .u8 act.final, .int .u8 act.priv, .string ⟨act.inter.toArray⟩, .slice o act.params.length cap, .string ⟨act.text.toArray⟩] 45)).heap.size (w.alloc (.cells #[.int .i64 act.kind, .int .i32 act.r, .int .u8 act.final, .int .u8 act.priv, .string ⟨act.inter.toArray⟩, .slice o act.params.length cap, .string ⟨act.text.toArray⟩] 45)) ((w.alloc (.cells #[.int .i64 act.kind, .int .i32 act.r, .int .u8 act.final, .int .u8 act.priv, .string ⟨act.inter.toArray⟩, .slice o act.params.length cap, .string ⟨act.text.toArray⟩] 45)).alloc (.cells #[.int .i64 act.kind, .int .i32 act.r, .int .u8 act.final, .int .u8 act.priv, .string ⟨act.inter.toArray⟩, .slice o act.params.length cap, .string ⟨act.text.toArray⟩] 45)) := (Below.refl _ _).alloc (Nat.le_refl _) _
    have HA1 := Lib.hid (HW.out.2.1.below hb1)
    have HP1 := Lib.hid (HW.out.2.2.1.kept (Kept.of_below hb1 (fun _ => False)) (fun _ _ _ _ h => h))
    have HG1 : Hid (((w.alloc (.cells #[.int .i64 act.kind, .int .i32 act.r, .int .u8 act.final, .int .u8 act.priv, .string ⟨act.inter.toArray⟩, .slice o act.params.length cap, .string ⟨act.text.toArray⟩] 45)).alloc (.cells #[.int .i64 act.kind, .int .i32 act.r, .int .u8 act.final, .int .u8 act.priv, .string ⟨act.inter.toArray⟩, .slice o act.params.length cap, .string ⟨act.text.toArray⟩] 45)).heap[w.heap.size + 1]? = some (.cells #[.int .i64 act.kind, .int .i32 act.r, .int .u8 act.final, .int .u8 act.priv, .string ⟨act.inter.toArray⟩, .slice o act.params.length cap, .string ⟨act.text.toArray⟩] 45)) := Lib.hid (by
      have := heap_alloc_new (w.alloc (.cells #[.int .i64 act.kind, .int .i32 act.r, .int .u8 act.final, .int .u8 act.priv, .string ⟨act.inter.toArray⟩, .slice o act.params.length cap, .string ⟨act.text.toArray⟩] 45)) (.cells #[.int .i64 act.kind, .int .i32 act.r, .int .u8 act.final, .int .u8 act.priv, .string ⟨act.inter.toArray⟩, .slice o act.params.length cap, .string ⟨act.text.toArray⟩] 45)
      rw [show (w.alloc (.cells #[.int .i64 act.kind, .int .i32 act.r, .int .u8 act.final, .int .u8 act.priv, .string ⟨act.inter.toArray⟩, .slice o act.params.length cap, .string ⟨act.text.toArray⟩] 45)).heap.size = w.heap.size + 1 by simp] at this
      exact this)
    have HB1 := Lib.hid (HW.out.2.2.2.alloc (show B ≤ (w.alloc (.cells #[.int .i64 act.kind, .int .i32 act.r, .int .u8 act.final, .int .u8 act.priv, .string ⟨act.inter.toArray⟩, .slice o act.params.length cap, .string ⟨act.text.toArray⟩] 45)).heap.size by simp; omega) (.cells #[.int .i64 act.kind, .int .i32 act.r, .int .u8 act.final, .int .u8 act.priv, .string ⟨act.inter.toArray⟩, .slice o act.params.length cap, .string ⟨act.text.toArray⟩] 45))
    have HS1 := Lib.hid (HW.out.1.alloc (.cells #[.int .i64 act.kind, .int .i32 act.r, .int .u8 act.final, .int .u8 act.priv, .string ⟨act.inter.toArray⟩, .slice o act.params.length cap, .string ⟨act.text.toArray⟩] 45))
    clear hb1
    go_enter Tryd.func58, Tryd.ntmps58
    go_wp2_with (at_builtin; refine wpList_append_act rfl (.tmp 13) (.tmp 15) rfl B V l rfl HA1.out (w.heap.size + 1) act o cap rfl HG1.out HP1.out hl (by simp; omega) (fun v' w' r1 r2 => ?_); have hps := HS1.out.below r2 hpB; have hz := run_zero p s cur w' hps; have HR := Lib.hid (And.intro hps (And.intro r1 r2)); clear hps r1 r2)
    have hk := (Kept.refl w' (· = p)).setRow (fun _ => rfl) zeroC
    go_ret
    exact ⟨_, rfl, HR.out.2.1.kept hk (fun k hk e => by omega), ⟨_, row_at HR.out.1 zero_is⟩, (Kept.fr_below (HB1.out.trans HR.out.2.2)).fr_trans hk.fr⟩
end Go.Proofs.YtgkodjkhhmcnnaaDoor
namespace Go.Proofs.YtgkodjkhhmcnnaaDoor
open Go.RowKit

/-- what is no row of acts is left -/
abbrev NoActs (w w' : World) : Prop := ∀ (k : Nat) (ob : Obj), w.heap[k]? = some ob → (∀ c, ob ≠ Obj.cells c 45 (0, 0)) → w'.heap[k]? = some ob
theorem Own.acts {w w' : World} {B : Nat} {o : Option Addr} {n cap : Nat} {zs : List Int} (h : Own w B 21 .i32 o n cap zs) (hk : NoActs w w') : Own w' B 21 .i32 o n cap zs := by
  obtain ⟨h1, h2⟩ := h.row
  refine ⟨h1, h2.imp id ?_⟩
  rintro ⟨g, c, cur, e1, e2, e3, e4⟩
  exact ⟨g, c, cur, e1, e2, hk g _ e3 (fun c' e => by simp at e), e4⟩
set_option maxRecDepth 100000 in
set_option maxHeartbeats 1600000 in
theorem prints_any (B : Nat) (V : Value) (l : List es.Act) (ro : Option Addr) (n rc : Nat) (zs : List Int) (w : World) (ha : ActsAt w B V l) (ho : Own w B 21 .i32 ro n rc zs) (hl : l.length + n ≤ 1099511627776) (hBw : B ≤ w.heap.size) :
    Calls Tryd.prog 64 #[V, .slice ro n rc] w fun e w' => ∃ V', e = .returned V' ∧ ActsAt w' B V' (l ++ zs.map es.print) ∧ Below B w w' := by
  have hlen := ho.len
  have HA := Lib.hid ha
  have HO := Lib.hid ho
  clear ha ho
  go_enter Tryd.func64, Tryd.ntmps64
  go_wp2_with fail
  go_loopg [0, 9] n (fun gg s0 s9 wr => ∃ (k : Nat) (U : Value), s0 = U ∧ s9 = .int .i64 k ∧ k ≤ n ∧ n - k ≤ gg ∧ Hid (ActsAt wr B U (l ++ (zs.take k).map es.print)) ∧ Hid (Own wr B 21 .i32 ro n rc zs) ∧ Hid (Below B w wr))
  case atStart => exact ⟨0, V, rfl, rfl, Nat.zero_le _, by omega, Lib.hid (by simpa using HA.out), HO, Lib.hid (Below.refl _ _)⟩
  case round =>
    obtain ⟨k, U, rfl, rfl, hkn, hgg, HU, HR, HB⟩ := hrel
    clear HA HO
    by_cases hlt : k < n
    · have hki : (k : Int) < (n : Int) := by omega
      have hk0 : (0 : Int) ≤ (k : Int) := by omega
      obtain ⟨b, off, rfl, hbl, hc⟩ := HR.out.nums.cell hlt
      obtain ⟨r, hr⟩ : ∃ r, zs.getD k 0 = r := ⟨_, rfl⟩
      rw [hr] at hc
      have hBr : B ≤ wr.heap.size := Nat.le_trans hBw HB.out.size
      have hb1 : Below wr.heap.size wr (wr.alloc (Obj.cells #[.int .i64 1, .int .i32 r, .int .u8 0, .int .u8 0, .string ⟨#[]⟩, .slice none 0 0, .string ⟨#[]⟩] 45)) := (Below.refl _ _).alloc (Nat.le_refl _) _
      have hA1 := HU.out.below hb1
      have hP1 := act1_none (wr.alloc (Obj.cells #[.int .i64 1, .int .i32 r, .int .u8 0, .int .u8 0, .string ⟨#[]⟩, .slice none 0 0, .string ⟨#[]⟩] 45)) B (es.print r) rfl
      have hG1 := heap_alloc_new wr (Obj.cells #[.int .i64 1, .int .i32 r, .int .u8 0, .int .u8 0, .string ⟨#[]⟩, .slice none 0 0, .string ⟨#[]⟩] 45)
      have hO1 := HR.out.below hb1
      have HT := Lib.hid (And.intro hA1 (And.intro hP1 hG1))
      have HO1 := Lib.hid hO1
      have HB1 := Lib.hid (HB.out.alloc hBr (Obj.cells #[.int .i64 1, .int .i32 r, .int .u8 0, .int .u8 0, .string ⟨#[]⟩, .slice none 0 0, .string ⟨#[]⟩] 45))
      have HE : Hid (l ++ (zs.take k).map es.print ++ [es.print r] = l ++ (zs.take (k + 1)).map es.print) := Lib.hid (by
        have hk : k < zs.length := by omega
        rw [List.take_add_one, List.getElem?_eq_getElem hk]
        have : zs[k] = r := by rw [← hr]; simp [List.getD, hk]
        simp [this])
      have hll : (l ++ (zs.take k).map es.print).length ≤ 1099511627776 := by simp; omega
      clear hb1 hA1 hP1 hG1 hO1 hr HU HR
      go_wp2_with (at_builtin; refine wpList_append_act' rfl (.tmp 13) (.tmp 16) rfl B _ _ rfl HT.out.1 wr.heap.size (es.print r) none 0 rfl HT.out.2.2 HT.out.2.1 hll (by simp; omega) (fun v' w' r1 r2 r3 => ?_); have HX := Lib.hid (And.intro r1 (And.intro (HB1.out.trans r2) (HO1.out.acts r3))); clear r1 r2 r3)
      go_roundg (n - (k + 1))
      case measure => omega
      case rel => exact ⟨k + 1, _, rfl, by go_num, by omega, Nat.le_refl _, Lib.hid (HE.out ▸ HX.out.1), Lib.hid HX.out.2.2, Lib.hid HX.out.2.1⟩
    · obtain rfl : k = n := by omega
      go_wp2_with fail
      go_ret
      refine ⟨_, rfl, ?_, HB.out⟩
      have := HU.out
      rwa [← hlen, List.take_length] at this
end Go.Proofs.YtgkodjkhhmcnnaaDoor
