/- A clock's Pass. -/
import Derived.Test.YtfelmnhhldgobaaTmTell
namespace Go.Proofs.Ytfelmnhhldgobaa
open Go.RowKit
/-- a row behind a row of one's own -/
theorem wpList_rowsAt (S T : TypeId) (z b : Nat) (hS : Try.prog.underlying S = some (.slice T)) {z0 : Value} (hT : (Try.prog.info? T).map (fun i => (i.zero, i.size, i.bytes)) = some (some z0, z, b)) (hzs : z0.cells.size = z) (hz : 0 < z)
    {w : World} {ops : Array Oper} {rest : List Oper} {op : Oper} {a : Act} {Q : Exit → Act → World → Prop} (hgd : op.guard = none) (s x : Operand)
    (ho : op.op = .call { callee := .builtin .append, args := #[s, x], argTypes := #[S, S] }) (B : Nat) (V : Value) (n : Nat) (cs : List Value) (hs : a.eval s = V) (hown : w.ownsRow B T z V n cs) (hBw : B ≤ w.heap.size)
    (ad : Addr) (m cap : Nat) (D : Nat → Prop) (ks : List Value) (hx : a.eval x = .slice (some ad) m cap) (hk : RowIn w D (.slice (some ad) m cap) z m ks) (hm : 0 < m) (hone : ∀ u ∈ ks, u.oneCell' = true) (hn : n + m ≤ 8192) (hbb : (n + m) * b ≤ 140737488355328) (n' : Nat) (hn' : n + m = n') (ks' : List Value) (hks' : cs ++ ks = ks')
    (h : ∀ V' w', w'.ownsRow B T z V' n' ks' → w.grownBy w' V.ownBlock → (V'.ownBlock = V.ownBlock ∨ V'.ownBlock = some w.heap.size) → wpList Try.prog ops Q rest (a.put op.dst V') w') :
    wpList Try.prog ops Q (op :: rest) a w := by
  subst hn'
  subst hks'
  refine wpList_plain hgd fun K hK => ?_
  obtain ⟨i0, hi, hz0, hz1, hz2⟩ := info_parts hT
  obtain ⟨bb, off, e1, hD, hlt, hc⟩ := RowIn.at_ hk 0 hm
  obtain rfl := Option.some.inj e1
  have h3 : ks.length = m * z := by obtain ⟨_, _, _, _, _, h3, _⟩ := hk; exact h3
  have hnews : ∀ j u, ks[j]? = some u → w.cell? ((⟨bb, off, none⟩ : Addr).add j) = some u := fun j u hu => by
    rw [addr_plain]
    exact hc j u hu
  obtain ⟨V', w', hrun, r1, r2, r3, r4⟩ := run_append_own_at (P := Try.prog) w B S op.type T i0 _ z b hS hi hz0 hz1 hz2 hzs hz V n cs hown ⟨bb, off, none⟩ m cap ks h3 hnews hone (by unfold maxLen; omega) hbb hBw
  unfold Oper.wp execOp
  simp only [ho, resolve, invoke, builtin, Sem.run_bind, Sem.run_pure, Result.andThen_ok, List.map_toArray, List.map_cons, List.map_nil, hs, hx, hrun]
  exact hK _ _ (h V' w' r1 r2 r4)


def dC (t : tm.T) : List Value := [.int .i64 t.id, .int .i64 t.owner, .int .i64 t.due]
def dsC (l : List tm.T) : List Value := l.flatMap dC
theorem dsC_len : ∀ l : List tm.T, (dsC l).length = l.length * 3
  | [] => rfl
  | x :: l => by
    show (dC x ++ dsC l).length = _
    rw [List.length_append, dsC_len l, List.length_cons]; simp [dC]; omega
theorem dsC_snoc (l : List tm.T) (t : tm.T) : dsC l ++ dC t = dsC (l ++ [t]) := by simp [dsC]
theorem dC_one (t : tm.T) : ∀ u ∈ dC t, u.oneCell' = true := by
  intro u hu
  simp only [dC, List.mem_cons, List.not_mem_nil, or_false] at hu
  rcases hu with rfl | rfl | rfl <;> rfl
theorem due_new (w : World) (t : tm.T) : RowIn (w.alloc (dO t)) (fun _ => True) (.slice (some ⟨w.heap.size, 0, none⟩) 1 1) 3 1 (dC t) := by
  have h := heap_alloc_new w (dO t)
  refine ⟨_, 1, rfl, Nat.le_refl _, by decide, rfl, .inr ⟨w.heap.size, 0, rfl, trivial, heap_lt h, fun k v hv => ?_⟩⟩
  rw [Nat.zero_add, cell_of_heap h]
  simpa [dC] using hv
abbrev DRow (w : World) (B : Nat) (V : Value) (l : List tm.T) : Prop := w.ownsRow B 57 3 V l.length (dsC l)
/-- a clock beside a row of what was told -/
structure PS (w wr : World) (c : Nat) (V V1 Vt : Value) (s : tm.St) (told : List tm.T) : Prop where
  ck : CS wr c V1 s
  row : DRow wr w.heap.size Vt told
  fr : Fr (OwnC c V) w wr
  own : ∀ y, OwnC c V1 y → OwnC c V y ∨ w.heap.size ≤ y
  sep : ∀ y, Vt.ownBlock = some y → ¬ OwnC c V1 y
theorem PS.tell {w wr w2 : World} {c : Nat} {V V1 Vt : Value} {s s2 : tm.St} {told : List tm.T} (p : PS w wr c V V1 Vt s told) (r : CSR c V1 wr w2 s2) : ∃ V2, PS w w2 c V V2 Vt s2 told := by
  obtain ⟨V2, h2, f2, o2⟩ := r
  have hsz := p.fr.size
  refine ⟨V2, h2, own_keep p.row fun g _ _ hg hv _ => f2.block g hg (p.sep g hv), p.fr.trans f2 fun k hk x => (p.own k x).elim id fun a => absurd a (by omega), fun y hy => (o2 y hy).elim (p.own y) fun a => .inr (by omega), fun y hv x => ?_⟩
  rcases o2 y x with a | a
  · exact p.sep y hv a
  · have := (p.row.lt y hv).2
    omega
theorem PS.push {w w2 w3 w4 : World} {c : Nat} {V V2 Vt Vt' : Value} {s : tm.St} {told told' : List tm.T} (p : PS w w2 c V V2 Vt s told) (hb : Below w2.heap.size w2 w3) (hr : DRow w4 w.heap.size Vt' told') (hg : w3.grownBy w4 Vt.ownBlock) (hv : Vt'.ownBlock = Vt.ownBlock ∨ Vt'.ownBlock = some w3.heap.size) : PS w w4 c V V2 Vt' s told' := by
  have f : Fr (fun k => Vt.ownBlock = some k) w3 w4 := Fr.of_grown hg
  refine ⟨p.ck.keep fun y hy => (f.block y (Nat.lt_of_lt_of_le (p.ck.own_lt hy).2 hb.size) (fun e => p.sep y e hy)).trans (hb.block y (p.ck.own_lt hy).2), hr, (p.fr.below hb).trans f (fun k hk e => absurd (p.row.lt k e).1 (by omega)), p.own, fun y e x => ?_⟩
  rcases hv with a | a
  · exact p.sep y (a.symm.trans e) x
  · rw [a] at e
    obtain rfl := Option.some.inj e
    have := (p.ck.own_lt x).2
    have := hb.size
    omega
theorem PS.setNow {w wr : World} {c : Nat} {V V1 Vt : Value} {s : tm.St} {told : List tm.T} (p : PS w wr c V V1 Vt s told) (hc : OwnC c V c) (x : Int) : PS w (wr.setCell ⟨c, 0, none⟩ (.int .i64 x)) c V V1 Vt ⟨x, s.last, s.l⟩ told :=
  ⟨p.ck.setNow x, own_keep p.row fun g _ _ _ hv _ => Below.heap_setCell _ _ _ g (fun e => p.sep g hv (.inl e)), p.fr.setCell _ _ (.inr hc), p.own, p.sep⟩
theorem DRow.cell {w : World} {B : Nat} {o : Option Addr} {n cap : Nat} {l : List tm.T} (h : DRow w B (.slice o n cap) l) (i : Nat) (hi : i < l.length) : n = l.length ∧ ∃ g, o = some ⟨g, 0, none⟩ ∧ g < w.heap.size ∧ w.cell? ⟨g, i * 3, none⟩ = some (.int .i64 (tm.ix l i).id) ∧ w.cell? ⟨g, i * 3 + 1, none⟩ = some (.int .i64 (tm.ix l i).owner) ∧ w.cell? ⟨g, i * 3 + 2, none⟩ = some (.int .i64 (tm.ix l i).due) := by
  have key : ∀ (l : List tm.T) (i k : Nat) (t : tm.T), l[i]? = some t → k < 3 → (dsC l)[i * 3 + k]? = (dC t)[k]? := by
    intro l
    induction l with
    | nil => intro i k t h _; simp at h
    | cons x l ih =>
      intro i k t h hk
      have hl : (dC x).length = 3 := rfl
      show (dC x ++ dsC l)[i * 3 + k]? = _
      cases i with
      | zero =>
        simp only [List.getElem?_cons_zero, Option.some.injEq] at h
        subst h
        rw [Nat.zero_mul, Nat.zero_add, List.getElem?_append_left (by rw [hl]; exact hk)]
      | succ i =>
        rw [List.getElem?_append_right (by rw [hl]; omega), hl, show (i + 1) * 3 + k - 3 = i * 3 + k by omega]
        exact ih i k t (by simpa using h) hk
  rcases h.2 with ⟨h1, h2⟩ | ⟨g', cap', cur, h1, hB, hg, hc, hm, hs, ht⟩
  · omega
  · injection h1 with a1 a2 a3
    subst a1 a2 a3
    have hk := fun k (hk : k < 3) => (by
      have := key l i k _ (tm.ix_at hi) hk
      rw [← ht, List.getElem?_take, if_pos (by omega), Array.getElem?_toList] at this
      exact this : cur[i * 3 + k]? = (dC (tm.ix l i))[k]?)
    exact ⟨rfl, g', rfl, heap_lt hg, (cell_of_heap hg).trans (hk 0 (by decide)), (cell_of_heap hg).trans (hk 1 (by decide)), (cell_of_heap hg).trans (hk 2 (by decide))⟩
def PassAns (c : Nat) (V : Value) (w w' : World) (e : Ending) (R : (List tm.T × Int) × tm.St) : Prop := ∃ V1 Vt, e = .returned (.tuple #[Vt, .int .i64 R.1.2]) ∧ PS w w' c V V1 Vt R.2 R.1.1
set_option maxRecDepth 100000 in
set_option maxHeartbeats 3200000 in
theorem pass_any (c : Nat) (V : Value) (s : tm.St) (till : Int) (w : World) (h : CS w c V s) (hg : tm.Good s) (R : (List tm.T × Int) × tm.St) (hR : tm.passR s till = R) : Calls Try.prog 14 #[.pointer (some ⟨c, 0, none⟩), .int .i64 till] w fun x w' => PassAns c V w w' x R := by
  obtain ⟨c0, c1, c2⟩ := h.cell
  have hlt := h.lt
  have P0 : PS w w c V V (.slice none 0 0) s [] := ⟨h, ⟨rfl, .inl ⟨rfl, rfl⟩⟩, Fr.refl _ _, fun _ x => .inl x, fun _ e => by cases e⟩
  have hwlt := h.lt
  by_cases ht : till < s.now
  · obtain rfl : R = (([], 1), s) := by rw [← hR]; unfold tm.passR; rw [if_pos (.inl ht)]
    have HP := Lib.hid P0
    clear P0 hR h hg
    go_enter Try.func14, Try.ntmps14
    go_wp2_with fail
    go_ret2
    exact ⟨_, _, rfl, HP.out⟩
  cases hT : tm.isT till with
  | false =>
    obtain rfl : R = (([], 1), s) := by rw [← hR]; unfold tm.passR; rw [if_pos (.inr hT)]
    have HP := Lib.hid P0
    have H1 := Lib.hid (isTime_any till w _ hT)
    clear P0 hR h hg
    go_enter Try.func14, Try.ntmps14
    go_wp2_with fail
    refine H1.out.mono ?_
    rintro e w' ⟨rfl, hw⟩
    replace hw := hw.symm
    subst hw
    go_wp2_with fail
    go_ret2
    exact ⟨_, _, rfl, HP.out⟩
  | true =>
  have H1 := Lib.hid (isTime_any till w _ hT)
  obtain ⟨TOT, hTOT⟩ : ∃ x, tm.tellsU 16 s till = x := ⟨_, rfl⟩
  have HR : Hid (R = ((TOT.1, 0), ⟨if TOT.1.length = 16 then (tm.ix TOT.1 15).due else till, s.last, TOT.2.l⟩)) := Lib.hid (by rw [← hR, ← hTOT]; unfold tm.passR; rw [if_neg (by rw [hT]; simp [ht])])
  have HP := Lib.hid (And.intro P0 (And.intro hg hTOT))
  have HLA : Hid (TOT.2.last = s.last) := Lib.hid (by
    have : ∀ n s, (tm.tellsU n s till).2.last = s.last := by
      intro n
      induction n with
      | zero => intro s; rfl
      | succ n ih =>
        intro s
        unfold tm.tellsU
        split
        · simp only; rw [ih]; rfl
        · rfl
    rw [← hTOT]; exact this 16 s)
  clear P0 hg hTOT hR h c1 c2
  go_enter Try.func14, Try.ntmps14
  go_wp2_with fail
  refine H1.out.mono ?_
  rintro e w' ⟨rfl, hw⟩
  replace hw := hw.symm
  subst hw
  clear H1 c0
  go_wp2_with fail
  go_loopg [6] 16 (fun gg s6 wr => ∃ (m : Nat) (told : List tm.T) (V1 : Value) (o : Option Addr) (cap : Nat) (s1 : tm.St), s6 = .slice o told.length cap ∧ m ≤ gg ∧ told.length + m = 16 ∧ Hid (PS w wr c V V1 (.slice o told.length cap) s1 told ∧ tm.Good s1 ∧ told ++ (tm.tellsU m s1 till).1 = TOT.1 ∧ (tm.tellsU m s1 till).2 = TOT.2))
  case atStart => exact ⟨16, [], V, none, 0, s, rfl, Nat.le_refl _, rfl, Lib.hid ⟨HP.out.1, HP.out.2.1, by rw [HP.out.2.2]; rfl, by rw [HP.out.2.2]⟩⟩
  case round =>
    clear HP hlt
    obtain ⟨m, told, V1, o, cap, s1, rfl, hgg, hm, HT⟩ := hrel
    obtain ⟨n, hn⟩ : ∃ n, told.length = n := ⟨_, rfl⟩
    rw [hn] at hm HT
    rw [hn]
    have hlt2 := HT.out.1.ck.lt
    by_cases h0 : m = 0
    · subst h0
      obtain rfl : n = 16 := by omega
      have f0 := thaw (k := 0) HT.out.1.ck.ck
      have d0 := HT.out.1.ck.cell.1
      obtain ⟨-, g, rfl, hgl, -, -, d2⟩ := DRow.cell HT.out.1.row 15 (by omega)
      simp only [Nat.reduceMul, Nat.reduceAdd] at d2
      have hE : TOT.1 = told ∧ TOT.2 = s1 := by
        have a := HT.out.2.2.1
        have b := HT.out.2.2.2
        simp only [tm.tellsU, List.append_nil] at a b
        exact ⟨a.symm, b.symm⟩
      have HE : Hid (R = ((told, 0), ⟨(tm.ix told 15).due, s1.last, s1.l⟩)) := Lib.hid (by rw [HR.out, hE.1, hE.2, if_pos hn, ← HLA.out, hE.2])
      have hcg : ¬ (g = c) := fun e => HT.out.1.sep g rfl (.inl e)
      have HZ := Lib.hid (PS.setNow (HT.out.1.setNow (.inl rfl) till) (.inl rfl) (tm.ix told 15).due)
      have HK := Lib.hid ((HT.out.1.setNow (.inl rfl) till).ck)
      have f0' := thaw (k := 0) HK.out.ck
      have d0' := HK.out.cell.1
      generalize (tm.ix told 15).due = D at *
      clear hE
      go_wp2_with fail
      go_ret2
      obtain rfl := HE.out
      exact ⟨V1, _, rfl, HZ.out⟩
    · obtain ⟨k, rfl⟩ : ∃ k, m = k + 1 := ⟨m - 1, by omega⟩
      have hn16 : (n : Int) < 16 := by omega
      cases hc : tm.comesB s1 till with
      | false =>
        have HC := Lib.hid (comes_any c V1 s1 till wr HT.out.1.ck _ hc)
        have hE : TOT.1 = told ∧ TOT.2 = s1 := by
          have a := HT.out.2.2.1
          have b := HT.out.2.2.2
          unfold tm.tellsU at a b
          rw [if_neg (by rw [hc]; decide)] at a b
          exact ⟨by rw [← a]; simp, b.symm⟩
        have HE : Hid (R = ((told, 0), ⟨till, s1.last, s1.l⟩)) := Lib.hid (by rw [HR.out, hE.1, hE.2, if_neg (by omega), ← HLA.out, hE.2])
        have HZ := Lib.hid (HT.out.1.setNow (.inl rfl) till)
        have f0 := thaw (k := 0) HT.out.1.ck.ck
        have d0 := HT.out.1.ck.cell.1
        have hne : ((n : Int) == 16) = false := beq_eq_false_iff_ne.2 (by omega)
        clear hE
        go_wp2_with fail
        refine HC.out.mono ?_
        rintro e w' ⟨rfl, hw⟩
        replace hw := hw.symm
        subst hw
        go_wp2_with fail
        go_ret2
        obtain rfl := HE.out
        exact ⟨V1, _, rfl, HZ.out⟩
      | true =>
        have HC := Lib.hid (comes_any c V1 s1 till wr HT.out.1.ck _ hc)
        have hpos : 0 < s1.l.length := by unfold tm.comesB at hc; exact (of_decide_eq_true hc).1
        obtain ⟨t, s2, hts⟩ : ∃ t s2, tm.tellR s1 = (t, s2) := ⟨_, _, rfl⟩
        have HTL := Lib.hid (tell_any c V1 s1 wr HT.out.1.ck HT.out.2.1 hpos _ hts)
        have HN : Hid (tm.Good s2 ∧ (told ++ [t]) ++ (tm.tellsU k s2 till).1 = TOT.1 ∧ (tm.tellsU k s2 till).2 = TOT.2) := Lib.hid (by
          have a := HT.out.2.2.1
          have b := HT.out.2.2.2
          unfold tm.tellsU at a b
          rw [if_pos hc, hts] at a b
          have g := HT.out.2.1.tell hpos
          rw [hts] at g
          exact ⟨g, by rw [List.append_assoc]; exact a, b⟩)
        clear hts hc hpos
        go_wp2_with fail
        refine HC.out.mono ?_
        rintro e w' ⟨rfl, hw⟩
        replace hw := hw.symm
        subst hw
        go_wp2_with fail
        refine HTL.out.mono ?_
        rintro e w2 ⟨rfl, r⟩
        obtain ⟨V2, p2⟩ := HT.out.1.tell r
        have HB := Lib.hid (below_one w2 (dO t))
        have HO := Lib.hid (row_below p2.row HB.out)
        have HNW := Lib.hid (due_new w2 t)
        have hst : Hid (dsC told ++ dC t = dsC (told ++ [t])) := Lib.hid (dsC_snoc told t)
        have hBB : Hid (w.heap.size ≤ (w2.alloc (dO t)).heap.size) := Lib.hid (Nat.le_trans p2.fr.size HB.out.size)
        have HP2 := Lib.hid p2
        rw [hn] at HO
        have hnn : n ≤ 16 := by omega
        clear p2 r HTL HC HT
        go_wp2_with (at_builtin; go_loud (refine wpList_rowsAt 39 57 3 24 Try.underlying39 infoD rfl (by decide) rfl _ _ rfl w.heap.size (.slice o n cap) n (dsC told) rfl HO.out hBB.out ⟨w2.heap.size, 0, none⟩ 1 1 (fun _ => True) (dC t) rfl HNW.out (by omega) (dC_one t) (by omega) (by omega) (n + 1) rfl (dsC (told ++ [t])) hst.out ?_))
        intro V' w5 q1 q2 q3
        have H5 : Hid (PS w w5 c V V2 V' s2 (told ++ [t])) := Lib.hid (HP2.out.push HB.out (by show w5.ownsRow w.heap.size _ 3 V' (told ++ [t]).length (dsC (told ++ [t])); rw [List.length_append, hn]; exact q1) q2 (by rw [World.size_alloc]; exact q3))
        obtain ⟨ao', ac', rfl⟩ := own_slice q1
        have hn2 : (told ++ [t]).length = n + 1 := by rw [List.length_append, hn]; rfl
        clear q1 q2 q3
        go_wp2_with fail
        go_roundg k
        case measure => omega
        case rel => exact ⟨k, told ++ [t], V2, ao', ac', s2, by rw [hn2], Nat.le_refl _, by omega, Lib.hid ⟨by rw [hn2]; exact H5.out, HN.out⟩⟩
end Go.Proofs.Ytfelmnhhldgobaa
