/- take, Take, Send, Shut. -/
import Derived.Test.YtgegphciaejkiaaBuDel
namespace Go.Proofs.Ytgegphciaejkiaa
open Go.RowKit
theorem results_row_tmp {P : Program} {fn : Func} {p u : Tmp} {ty : TypeId} (h : fn.results = #[.cell p ty, .tmp u]) (tmps : Array Value) (w : World) (g : Nat) (t : TypeId) (cs : Array Value) (fr : Nat × Nat) (d : TypeDesc)
    (hp : tmps.getD p undef = .pointer (some ⟨g, 0, none⟩)) (hg : w.heap[g]? = some (.cells cs t fr))
    (hu : P.underlying ty = some d) (hd : (match d with | .struct _ | .array _ _ => true | _ => false) = true) (hi : (P.info? ty).map (·.size) = some cs.size) :
    (results fn tmps).run P w = .ok (.tuple #[.agg cs, tmps.getD u undef]) w := by
  rw [results_cell_tmp h, hp]
  simp [asAddr, run_loadVar_row w g t ty cs fr d hg hu hd hi, Result.andThen]
abbrev evO (e : bu.Ev) : Obj := .cells #[.int .i64 e.kind, .int .i64 e.a, .int .i64 e.b, .string e.text] 31
abbrev evZO : Obj := .cells #[.int .i64 0, .int .i64 0, .int .i64 0, .string ⟨#[]⟩] 31
abbrev setEv (X : World) (b : Nat) (e : bu.Ev) : World := (((X.setCell ⟨b, 0, none⟩ (.int .i64 e.kind)).setCell ⟨b, 1, none⟩ (.int .i64 e.a)).setCell ⟨b, 2, none⟩ (.int .i64 e.b)).setCell ⟨b, 3, none⟩ (.string e.text)
theorem setEv_at {X : World} {b : Nat} {x0 x1 x2 x3 : Value} (h : X.heap[b]? = some (.cells #[x0, x1, x2, x3] 31 (0, 0))) (e : bu.Ev) : (setEv X b e).heap[b]? = some (evO e) :=
  heap_setCell_same _ b 3 _ _ _ (heap_setCell_same _ b 2 _ _ _ (heap_setCell_same _ b 1 _ _ _ (heap_setCell_same X b 0 _ _ _ h)))
theorem setEv_far (X : World) (b : Nat) (e : bu.Ev) (k : Nat) (hk : k ≠ b) : (setEv X b e).heap[k]? = X.heap[k]? :=
  (Below.heap_setCell _ _ _ k hk).trans ((Below.heap_setCell _ _ _ k hk).trans ((Below.heap_setCell _ _ _ k hk).trans (Below.heap_setCell _ _ _ k hk)))
/-- a bus behind a call that makes it no new block -/
def BuK (q : Nat) (V : Nat → Value) (w w' : World) (S' : Nat → bu.Slot) : Prop := ∃ V', BuAt w' q S' V' ∧ Fr (Own q V) w w' ∧ ∀ y, Own q V' y → Own q V y
theorem BuK.toR {q : Nat} {V : Nat → Value} {w w' : World} {S' : Nat → bu.Slot} (h : BuK q V w w' S') : BuR q V w w' S' := by
  obtain ⟨V', h1, h2, h3⟩ := h
  exact ⟨V', h1, h2, fun y hy => .inl (h3 y hy)⟩
theorem BuK.same {q : Nat} {S : Nat → bu.Slot} {V : Nat → Value} {w : World} (h : BuAt w q S V) : BuK q V w w S := ⟨V, h, Fr.refl _ _, fun _ h => h⟩
/-- an event is stored into a box that is not the bus's -/
theorem BuK.ev {q : Nat} {S : Nat → bu.Slot} {V : Nat → Value} {w X : World} {b : Nat} (h : BuK q V w X S) (hb : w.heap.size ≤ b) (hn : ¬ Own q V b) (e : bu.Ev) : BuK q V w (setEv X b e) S := by
  obtain ⟨V', h1, h2, h3⟩ := h
  refine ⟨V', h1.keep fun y hy => setEv_far X b e y (fun x => hn (h3 b (x ▸ hy))), ?_, h3⟩
  exact (((h2.setCell _ _ (.inl hb)).setCell _ _ (.inl hb)).setCell _ _ (.inl hb)).setCell _ _ (.inl hb)
theorem BuK.from_ {q : Nat} {S : Nat → bu.Slot} {V : Nat → Value} {w w1 w2 : World} (f : Below w.heap.size w w1) (h : BuK q V w1 w2 S) : BuK q V w w2 S := by
  obtain ⟨V', h1, h2, h3⟩ := h
  exact ⟨V', h1, (Fr.of_below f _).then h2, h3⟩
theorem BuR.step {q : Nat} {S2 : Nat → bu.Slot} {V V1 : Nat → Value} {w w1 w2 : World} (f1 : Fr (Own q V) w w1) (s1 : ∀ y, Own q V1 y → Own q V y ∨ w.heap.size ≤ y) (h : BuR q V1 w1 w2 S2) : BuR q V w w2 S2 := by
  obtain ⟨V2, g1, g2, g3⟩ := h
  refine ⟨V2, g1, f1.trans g2 (fun k hk hs => ?_), fun y hy => ?_⟩
  · rcases s1 k hs with h | h
    · exact h
    · omega
  · rcases g3 y hy with h | h
    · exact s1 y h
    · exact .inr (Nat.le_trans f1.size h)
theorem queue_lies {w : World} {B : Nat} {V : Value} {e : bu.Ev} {l : List bu.Ev} (h : EvRow w B V (e :: l)) : ∃ g cap, V = .slice (some ⟨g, 0, none⟩) (l.length + 1) cap ∧ B ≤ g ∧ g < w.heap.size ∧ l.length + 1 ≤ cap ∧ w.cell? ⟨g, 0, none⟩ = some (.int .i64 e.kind) ∧ w.cell? ⟨g, 1, none⟩ = some (.int .i64 e.a) ∧ w.cell? ⟨g, 2, none⟩ = some (.int .i64 e.b) ∧ w.cell? ⟨g, 3, none⟩ = some (.string e.text) := by
  have hin := RowIn.of_own h (evsC_len _) (fun _ => True) (fun _ _ => trivial)
  rcases h.2 with ⟨-, h1⟩ | ⟨g, cap, cur, rfl, hB, hg, hc, -⟩
  · simp at h1
  · obtain ⟨b, off, e1, -, -, hcc⟩ := RowIn.at_ hin 0 (by simp)
    injection e1 with e1
    injection e1 with e1 e2
    subst e1 e2
    refine ⟨g, cap, rfl, hB, heap_lt hg, by simpa using hc, ?_, ?_, ?_, ?_⟩
    · have := hcc 0 _ (show (evsC (e :: l))[0]? = some (.int .i64 e.kind) from rfl); simpa using this
    · have := hcc 1 _ (show (evsC (e :: l))[1]? = some (.int .i64 e.a) from rfl); simpa using this
    · have := hcc 2 _ (show (evsC (e :: l))[2]? = some (.int .i64 e.b) from rfl); simpa using this
    · have := hcc 3 _ (show (evsC (e :: l))[3]? = some (.string e.text) from rfl); simpa using this
theorem take_stored {w W2 w3 : World} {q i g cap : Nat} {S : Nat → bu.Slot} {V : Nat → Value} {l : List bu.Ev} {n : Nat} (h : BuAt W2 q S V) (hi : i < 4) (hw : Below w.heap.size w W2) (hv : V i = .slice (some ⟨g, 0, none⟩) n cap) (hr : EvRow w3 q (.slice (some ⟨g, 0, none⟩) l.length cap) l) (hf : Fr (· = g) W2 w3) :
    BuK q V w (w3.setCell ⟨q, i * 11 + 9, none⟩ (.slice (some ⟨g, 0, none⟩) l.length cap)) (bu.upd S i { S i with queue := l }) := by
  have hob : (V i).ownBlock = some g := by rw [hv]; rfl
  refine ⟨_, h.setQ hi (.slice (some ⟨g, 0, none⟩) l.length cap) l (fun y hy hn => hf.block y (h.own_lt hy).2 (fun e => hn (by rw [hob, e]))) hr (.inl hob.symm), ?_, ?_⟩
  · refine Fr.setCell ?_ _ _ (.inr (.inl rfl))
    exact (Fr.of_below hw _).trans hf (fun k _ x => .inr ⟨i, hi, by rw [hob, x]⟩)
  · intro y hy
    rcases hy with rfl | ⟨j, hj, e⟩
    · exact .inl rfl
    · by_cases ej : j = i
      · subst ej
        have e2 : (Value.slice (some ⟨g, 0, none⟩) l.length cap).ownBlock = some y := by simpa using e
        exact .inr ⟨j, hj, hob.trans e2⟩
      · have e2 : (V j).ownBlock = some y := by simpa [ej] using e
        exact .inr ⟨j, hj, e2⟩
set_option maxRecDepth 100000 in
set_option maxHeartbeats 3200000 in
theorem take_any (q i : Nat) (hi : i < 4) (S : Nat → bu.Slot) (V : Nat → Value) (ev : bu.Ev) (l : List bu.Ev) (w : World) (h : BuAt w q S V) (hl : (S i).queue = ev :: l) (hn : l.length ≤ 16) :
    Calls Try.prog 33 #[.pointer (some ⟨q, i * 11, none⟩)] w fun e w' => e = .returned (evV ev) ∧ BuK q V w w' (bu.upd S i { S i with queue := l }) := by
  have hx := below_one w evZO
  have hb2 := below_one (w.alloc evZO) (evO ev)
  have hq0 := h.lt
  have HOL := Lib.hid (fun y (hy : Own q V y) => (h.own_lt hy).2)
  have hr0 := h.row i hi
  rw [hl] at hr0
  obtain ⟨g, cap, hv, hBg, hg, hcap, k0, k1, k2, k3⟩ := queue_lies hr0
  have HV := Lib.hid hv
  have c9 := (h.cells hi).2.2.1
  rw [hv] at c9
  have HB2 := Lib.hid (And.intro (h.below (hx.trans (hb2.mono hx.size))) (hx.trans (hb2.mono hx.size)))
  have HN2 := Lib.hid (And.intro ((hb2.block _ (by simp)).trans (heap_alloc_new w evZO)) (heap_alloc_new (w.alloc evZO) (evO ev)))
  have HL := Lib.hid hl
  clear h hl hr0 hv hx hb2
  go_enter Try.func33, Try.ntmps33
  go_upto_region 2 with fail
  generalize (w.alloc evZO).alloc (evO ev) = W2 at *
  rw [World.size_alloc] at HN2
  have c9' := (HB2.out.1.cells hi).2.2.1
  rw [HV.out] at c9'
  have hq2 := HB2.out.1.lt
  have hr2 := HB2.out.1.row i hi
  rw [HL.out, HV.out] at hr2
  have HDE := Lib.hid (del_any W2 q g cap ev l hr2 (by omega))
  clear hr2 k0 k1 k2 k3 c9
  go_wp2_with fail
  refine HDE.out.mono ?_
  rintro e w3 ⟨rfl, hr3, hf3⟩
  have hqg : q ≠ g := fun x => (HB2.out.1.ne hi) (by rw [HV.out, ← x]; rfl)
  have c93 := (cell_of_eq (hf3.block q hq2 hqg) (i * 11 + 9)).trans c9'
  have f93 : w3.frozen? ⟨q, i * 11 + 9, none⟩ = false := by
    obtain ⟨A, e1, -⟩ := HB2.out.1.box
    exact thaw ((hf3.block q hq2 hqg).trans e1)
  have hq3 : q < w3.heap.size := Nat.lt_of_lt_of_le hq2 hf3.size
  have H4 := Lib.hid (take_stored HB2.out.1 hi HB2.out.2 HV.out hr3 hf3)
  have HN4 : Hid ((w3.setCell ⟨q, i * 11 + 9, none⟩ (.slice (some ⟨g, 0, none⟩) l.length cap)).heap[w.heap.size]? = some evZO ∧ (w3.setCell ⟨q, i * 11 + 9, none⟩ (.slice (some ⟨g, 0, none⟩) l.length cap)).heap[w.heap.size + 1]? = some (evO ev)) := Lib.hid
    ⟨(Below.heap_setCell _ _ _ _ (by simp only; omega)).trans ((hf3.block _ (heap_lt HN2.out.1) (by omega)).trans HN2.out.1), (Below.heap_setCell _ _ _ _ (by simp only; omega)).trans ((hf3.block _ (heap_lt HN2.out.2) (by omega)).trans HN2.out.2)⟩
  clear hr3 hf3 HDE c9' hq2 HB2 HN2
  go_upto_region 3 with fail
  generalize w3.setCell ⟨q, i * 11 + 9, none⟩ (.slice (some ⟨g, 0, none⟩) l.length cap) = w4 at *
  clear c93 f93 hq3
  have z0 : w4.cell? ⟨w.heap.size, 0, none⟩ = some (.int .i64 0) := (cell_of_heap HN4.out.1).trans rfl
  have z1 : w4.cell? ⟨w.heap.size, 1, none⟩ = some (.int .i64 0) := (cell_of_heap HN4.out.1).trans rfl
  have z2 : w4.cell? ⟨w.heap.size, 2, none⟩ = some (.int .i64 0) := (cell_of_heap HN4.out.1).trans rfl
  have z3 : w4.cell? ⟨w.heap.size, 3, none⟩ = some (.string ⟨#[]⟩) := (cell_of_heap HN4.out.1).trans rfl
  have f0 := thaw (k := 0) HN4.out.1
  have f1 := thaw (k := 1) HN4.out.1
  have f2 := thaw (k := 2) HN4.out.1
  have f3 := thaw (k := 3) HN4.out.1
  have hlz := heap_lt HN4.out.1
  have y0 : w4.cell? ⟨w.heap.size + 1, 0, none⟩ = some (.int .i64 ev.kind) := (cell_of_heap HN4.out.2).trans rfl
  have y1 : w4.cell? ⟨w.heap.size + 1, 1, none⟩ = some (.int .i64 ev.a) := (cell_of_heap HN4.out.2).trans rfl
  have y2 : w4.cell? ⟨w.heap.size + 1, 2, none⟩ = some (.int .i64 ev.b) := (cell_of_heap HN4.out.2).trans rfl
  have y3 : w4.cell? ⟨w.heap.size + 1, 3, none⟩ = some (.string ev.text) := (cell_of_heap HN4.out.2).trans rfl
  have hly := heap_lt HN4.out.2
  have HF := Lib.hid (And.intro (setEv_at HN4.out.1 ev) (BuK.ev H4.out (Nat.le_refl _) (fun x => absurd (HOL.out _ x) (Nat.lt_irrefl _)) ev))
  go_wp2_with fail
  refine bodyPost_ret (results_cell_row rfl _ _ w.heap.size 31 _ (0, 0) _ rfl HF.out.1 Try.underlying31 rfl (by kernel_rfl)) rfl ?_
  exact ⟨rfl, HF.out.2⟩
namespace bu
def takeR (S : Nat → Slot) (p : Int) : Option Ev × (Nat → Slot) := match openA S p with | none => (none, S) | some i => match (S i).queue with | [] => (none, S) | e :: l => (some e, upd S i { S i with queue := l })
def sendR (S : Nat → Slot) (p : Int) (e : Ev) : Int × (Nat → Slot) := match openA S p with | none => (5, S) | some i => (if (putS (S i) e).1 = true then 0 else 3, upd S i (putS (S i) e).2)
def evZ : Ev := ⟨0, 0, 0, ⟨#[]⟩⟩
end bu
/-- what Take answers -/
def TakeAns (q : Nat) (V : Nat → Value) (w w' : World) (e : Ending) (r : Option bu.Ev × (Nat → bu.Slot)) : Prop := e = .returned (.tuple #[evV (r.1.getD bu.evZ), .bool r.1.isSome]) ∧ BuK q V w w' r.2
theorem TakeAns.eq {q : Nat} {V : Nat → Value} {w w' : World} {e : Ending} {r r' : Option bu.Ev × (Nat → bu.Slot)} (h : TakeAns q V w w' e r) (hr : r = r') : TakeAns q V w w' e r' := hr ▸ h
set_option maxRecDepth 100000 in
set_option maxHeartbeats 3200000 in
theorem takeP_any (q : Nat) (S : Nat → bu.Slot) (V : Nat → Value) (p : Int) (w : World) (h : BuAt w q S V) (hn : ∀ i, i < 4 → (S i).queue.length ≤ 16) : Calls Try.prog 20 #[.pointer (some ⟨q, 0, none⟩), .int .i64 p] w fun e w' => TakeAns q V w w' e (bu.takeR S p) := by
  have hb1 := below_one w evZO
  have HO := Lib.hid (opened_any q S V p (w.alloc evZO) (h.below hb1))
  have HB := Lib.hid (And.intro (h.below hb1) hb1)
  have HN := Lib.hid (heap_alloc_new w evZO)
  have HOL := Lib.hid (fun y (hy : Own q V y) => (h.own_lt hy).2)
  have HL : Hid (bu.takeR S p = match bu.openA S p with | none => (none, S) | some i => match (S i).queue with | [] => (none, S) | e :: l => (some e, bu.upd S i { S i with queue := l })) := Lib.hid rfl
  have hlt := fun i (e : bu.openA S p = some i) => (bu.openA_lt e).1
  generalize bu.takeR S p = R at *
  obtain ⟨X, hX⟩ : ∃ X, bu.openA S p = X := ⟨_, rfl⟩
  rw [hX] at HO HL hlt
  clear hX h hb1
  go_enter Try.func20, Try.ntmps20
  go_upto_region 1 with fail
  generalize w.alloc evZO = w1 at *
  have z0 : w1.cell? ⟨w.heap.size, 0, none⟩ = some (.int .i64 0) := (cell_of_heap HN.out).trans rfl
  have z1 : w1.cell? ⟨w.heap.size, 1, none⟩ = some (.int .i64 0) := (cell_of_heap HN.out).trans rfl
  have z2 : w1.cell? ⟨w.heap.size, 2, none⟩ = some (.int .i64 0) := (cell_of_heap HN.out).trans rfl
  have z3 : w1.cell? ⟨w.heap.size, 3, none⟩ = some (.string ⟨#[]⟩) := (cell_of_heap HN.out).trans rfl
  have f0 := thaw (k := 0) HN.out
  have f1 := thaw (k := 1) HN.out
  have f2 := thaw (k := 2) HN.out
  have f3 := thaw (k := 3) HN.out
  have hlz := heap_lt HN.out
  have HZ := Lib.hid (And.intro (setEv_at HN.out bu.evZ) (BuK.ev (BuK.from_ HB.out.2 (BuK.same HB.out.1)) (Nat.le_refl _) (fun x => absurd (HOL.out _ x) (Nat.lt_irrefl _)) bu.evZ))
  cases X with
  | none =>
    have HR : Hid (R = (none, S)) := Lib.hid HL.out
    clear HL hlt
    go_wp2_with fail
    refine HO.out.mono ?_
    rintro e w' ⟨rfl, hw⟩
    replace hw := hw.symm
    subst hw
    dsimp only [slP, Option.map_none, Option.map_some]
    go_wp2_with fail
    refine bodyPost_ret (results_row_tmp rfl _ _ w.heap.size 31 _ (0, 0) _ rfl HZ.out.1 Try.underlying31 rfl (by kernel_rfl)) rfl ?_
    exact TakeAns.eq (r := (none, S)) ⟨rfl, HZ.out.2⟩ HR.out.symm
  | some i =>
    have hi := hlt i rfl
    have hni := hn i hi
    have c9 := (HB.out.1.cells hi).2.2.1
    obtain ⟨o, c, hv⟩ := own_slice (HB.out.1.row i hi)
    rw [hv] at c9
    have hq := HB.out.1.lt
    cases hqu : (S i).queue with
    | nil =>
      have HR : Hid (R = (none, S)) := Lib.hid (by have := HL.out; simp only [hqu] at this; exact this)
      rw [hqu] at c9
      clear HL hlt hv hqu hni
      go_wp2_with fail
      refine HO.out.mono ?_
      rintro e w' ⟨rfl, hw⟩
      replace hw := hw.symm
      subst hw
      dsimp only [slP, Option.map_none, Option.map_some]
      go_wp2_with fail
      refine bodyPost_ret (results_row_tmp rfl _ _ w.heap.size 31 _ (0, 0) _ rfl HZ.out.1 Try.underlying31 rfl (by kernel_rfl)) rfl ?_
      exact TakeAns.eq (r := (none, S)) ⟨rfl, HZ.out.2⟩ HR.out.symm
    | cons ev l =>
      have HR : Hid (R = (some ev, bu.upd S i { S i with queue := l })) := Lib.hid (by have := HL.out; simp only [hqu] at this; exact this)
      rw [hqu] at c9 hni
      simp only [List.length_cons] at hni
      have HTK := Lib.hid (take_any q i hi S V ev l w1 HB.out.1 hqu (by omega))
      clear HL hlt hv hqu HZ
      have hz16 : ((l.length : Int) + 1 == 0) = false := by simp; omega
      go_wp2_with fail
      refine HO.out.mono ?_
      rintro e w' ⟨rfl, hw⟩
      replace hw := hw.symm
      subst hw
      dsimp only [slP, Option.map_none, Option.map_some]
      go_wp2_with fail
      refine HTK.out.mono ?_
      rintro e w2 ⟨rfl, hk2⟩
      have hbx : w2.heap[w.heap.size]? = some evZO := by
        obtain ⟨V', -, g2, -⟩ := hk2
        exact (g2.block _ (heap_lt HN.out) (fun x => absurd (HOL.out _ x) (Nat.lt_irrefl _))).trans HN.out
      have HK2 := Lib.hid (And.intro (setEv_at hbx ev) (BuK.ev (BuK.from_ HB.out.2 hk2) (Nat.le_refl _) (fun x => absurd (HOL.out _ x) (Nat.lt_irrefl _)) ev))
      clear hk2 z0 z1 z2 z3 f0 f1 f2 f3 hlz c9 hq
      have z0 : w2.cell? ⟨w.heap.size, 0, none⟩ = some (.int .i64 0) := (cell_of_heap hbx).trans rfl
      have z1 : w2.cell? ⟨w.heap.size, 1, none⟩ = some (.int .i64 0) := (cell_of_heap hbx).trans rfl
      have z2 : w2.cell? ⟨w.heap.size, 2, none⟩ = some (.int .i64 0) := (cell_of_heap hbx).trans rfl
      have z3 : w2.cell? ⟨w.heap.size, 3, none⟩ = some (.string ⟨#[]⟩) := (cell_of_heap hbx).trans rfl
      have f0 := thaw (k := 0) hbx
      have f1 := thaw (k := 1) hbx
      have f2 := thaw (k := 2) hbx
      have f3 := thaw (k := 3) hbx
      have hlz := heap_lt hbx
      clear hbx
      go_wp2_with fail
      refine bodyPost_ret (results_row_tmp rfl _ _ w.heap.size 31 _ (0, 0) _ rfl HK2.out.1 Try.underlying31 rfl (by kernel_rfl)) rfl ?_
      exact TakeAns.eq (r := (some ev, bu.upd S i { S i with queue := l })) ⟨rfl, HK2.out.2⟩ HR.out.symm
set_option maxRecDepth 100000 in
set_option maxHeartbeats 3200000 in
theorem sendP_any (q : Nat) (S : Nat → bu.Slot) (V : Nat → Value) (p : Int) (ev : bu.Ev) (w : World) (h : BuAt w q S V) (hn : ∀ i, i < 4 → (S i).queue.length ≤ 16) (hd : ∀ i, i < 4 → 0 ≤ (S i).dropped ∧ (S i).dropped < 9223372036854775807) : Calls Try.prog 21 #[.pointer (some ⟨q, 0, none⟩), .int .i64 p, evV ev] w fun e w' => e = .returned (.int .i64 (bu.sendR S p ev).1) ∧ BuR q V w w' (bu.sendR S p ev).2 := by
  have hb1 := below_one w (evO ev)
  have HO := Lib.hid (opened_any q S V p (w.alloc (evO ev)) (h.below hb1))
  have HB := Lib.hid (And.intro (h.below hb1) hb1)
  have HN := Lib.hid (heap_alloc_new w (evO ev))
  have HL : Hid (bu.sendR S p ev = match bu.openA S p with | none => (5, S) | some i => (if (bu.putS (S i) ev).1 = true then 0 else 3, bu.upd S i (bu.putS (S i) ev).2)) := Lib.hid rfl
  have hlt := fun i (e : bu.openA S p = some i) => (bu.openA_lt e).1
  generalize bu.sendR S p ev = R at *
  obtain ⟨X, hX⟩ : ∃ X, bu.openA S p = X := ⟨_, rfl⟩
  rw [hX] at HO HL hlt
  clear hX h hb1
  go_enter Try.func21, Try.ntmps21
  go_upto_region 1 with fail
  generalize w.alloc (evO ev) = w1 at *
  cases X with
  | none =>
    have HR : Hid (R = (5, S)) := Lib.hid HL.out
    clear HL hlt
    go_wp2_with fail
    refine HO.out.mono ?_
    rintro e w' ⟨rfl, hw⟩
    replace hw := hw.symm
    subst hw
    dsimp only [slP, Option.map_none, Option.map_some]
    go_wp2_with fail
    go_ret
    rw [HR.out]
    exact ⟨rfl, V, HB.out.1, Fr.of_below HB.out.2 _, fun _ h => .inl h⟩
  | some i =>
    have hi := hlt i rfl
    have HPU := Lib.hid (put_any q i hi S V ev w1 HB.out.1 (hd i hi) (hn i hi))
    have HR : Hid (R = (if (bu.putS (S i) ev).1 = true then 0 else 3, bu.upd S i (bu.putS (S i) ev).2)) := Lib.hid HL.out
    clear HL hlt
    obtain ⟨P, hP⟩ : ∃ P, bu.putS (S i) ev = P := ⟨_, rfl⟩
    rw [hP] at HPU HR
    clear hP
    obtain ⟨ok, s2⟩ := P
    dsimp only at HPU HR
    have x0 : w1.cell? ⟨w.heap.size, 0, none⟩ = some (.int .i64 ev.kind) := (cell_of_heap HN.out).trans rfl
    have x1 : w1.cell? ⟨w.heap.size, 1, none⟩ = some (.int .i64 ev.a) := (cell_of_heap HN.out).trans rfl
    have x2 : w1.cell? ⟨w.heap.size, 2, none⟩ = some (.int .i64 ev.b) := (cell_of_heap HN.out).trans rfl
    have x3 : w1.cell? ⟨w.heap.size, 3, none⟩ = some (.string ev.text) := (cell_of_heap HN.out).trans rfl
    have hlx := heap_lt HN.out
    go_wp2_with fail
    refine HO.out.mono ?_
    rintro e w' ⟨rfl, hw⟩
    replace hw := hw.symm
    subst hw
    dsimp only [slP, Option.map_none, Option.map_some]
    go_wp2_with fail
    refine HPU.out.mono ?_
    rintro e w2 ⟨rfl, hk2⟩
    have HK2 := Lib.hid (BuR.step (Fr.of_below HB.out.2 (Own q V)) (fun y hy => .inl hy) hk2)
    clear hk2 x0 x1 x2 x3 hlx
    cases ok
    all_goals
      go_wp2_with fail
      go_ret
      rw [HR.out]
      exact ⟨rfl, HK2.out⟩
end Go.Proofs.Ytgegphciaejkiaa
