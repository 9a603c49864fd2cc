/- The numbers of a style: colourParams, Params. -/
import Derived.Test.YtgkodjkhhmcnnaaDoorSgrApply
namespace Go.Proofs.YtgkodjkhhmcnnaaDoor.S5
open Go.RowKit

theorem Ints.new (w : World) (T : TypeId) (zs : List Int) (h : zs.length ≤ 1000) : Ints (w.alloc (.cells (zs.map (Value.int .i64)).toArray T)) (some ⟨w.heap.size, 0, none⟩) zs.length zs.length zs := by
  refine ⟨rfl, Nat.le_refl _, by unfold maxLen; omega, .inr ⟨w.heap.size, 0, rfl, by simp, fun k hk => ?_⟩⟩
  have he : (w.alloc (.cells (zs.map (Value.int .i64)).toArray T)).heap[w.heap.size]? = some (.cells (zs.map (Value.int .i64)).toArray T) := by
    show (w.heap.push _)[w.heap.size]? = _
    simp
  show (match (w.alloc (.cells (zs.map (Value.int .i64)).toArray T)).heap[w.heap.size]? with
    | some (.cells c _ _) => c[0 + k]?
    | _ => none) = _
  rw [he]
  simp [hk]
/-- what comes back is these numbers, in a slice -/
def Gives (w : World) (zs : List Int) (e : Ending) (w' : World) : Prop := ∃ o n cap, e = .returned (.slice o n cap) ∧ Ints w' o n cap zs ∧ Below w.heap.size w w'
theorem gives_nil (w : World) {zs : List Int} (h : zs = []) : Gives w zs (.returned (.slice none 0 0)) w := ⟨_, _, _, rfl, by rw [h]; exact Ints.nil w, Below.refl _ _⟩
theorem gives_new (w : World) (T : TypeId) {zs ys : List Int} (h : zs = ys) (hl : ys.length ≤ 1000) : Gives w zs (.returned (.slice (some ⟨w.heap.size, 0, none⟩) ys.length ys.length)) (w.alloc (.cells (ys.map (Value.int .i64)).toArray T)) :=
  ⟨_, _, _, rfl, by rw [h]; exact Ints.new w T ys hl, (Below.refl _ _).alloc (Nat.le_refl _) _⟩

set_option maxHeartbeats 800000 in
theorem colourParams_any (c base : Int) (w : World) (hc : sg.rightC c = true) (hb : 30 ≤ base ∧ base ≤ 40) :
    Calls Tryd.prog 42 #[.int .i64 c, .int .i64 base] w (Gives w (sg.colourP c base)) := by
  rw [sg.rightC_iff] at hc
  have HD : Hid (sg.colourP c base = if c = 0 then [] else if c ≤ 8 then [base + c - 1] else if c ≤ 256 then [base + 8, 5, c - 1] else [base + 8, 2, (c - 16777216) / 65536, (c - 16777216) / 256 % 256, (c - 16777216) % 256]) := Lib.hid rfl
  generalize sg.colourP c base = R at *
  obtain ⟨b1, b2⟩ := hb
  by_cases h0 : c = 0
  · subst h0
    rw [if_pos rfl] at HD
    clear hc
    go_enter Tryd.func42, Tryd.ntmps42
    go_wp2
    go_ret
    exact gives_nil w HD.out
  · have e0 : (c == 0) = false := by simpa using h0
    rw [if_neg h0] at HD
    have hc0 : 0 ≤ c := by omega
    by_cases h8 : c ≤ 8
    · rw [if_pos h8] at HD
      clear hc h0
      go_enter Tryd.func42, Tryd.ntmps42
      go_wp2
      go_ret
      exact gives_new w _ HD.out (by simp)
    · rw [if_neg h8] at HD
      by_cases h256 : c ≤ 256
      · rw [if_pos h256] at HD
        clear hc h0
        have h8 : 8 < c := by omega
        go_enter Tryd.func42, Tryd.ntmps42
        go_wp2
        go_ret
        exact gives_new w _ HD.out (by simp)
      · rw [if_neg h256] at HD
        have h1 : 16777216 ≤ c := by omega
        have h2 : c < 33554432 := by omega
        have a1 : bits .and .i64 (c / 65536) 255 = (c - 16777216) / 65536 := by rw [sg.and255 _ (by omega) (by omega)]; omega
        have a2 : bits .and .i64 (c / 256) 255 = (c - 16777216) / 256 % 256 := by rw [sg.and255 _ (by omega) (by omega)]; omega
        have a3 : bits .and .i64 c 255 = (c - 16777216) % 256 := by rw [sg.and255 _ (by omega) (by omega)]; omega
        rw [← a1, ← a2, ← a3] at HD
        clear hc h0 h8 h256 a1 a2 a3
        go_enter Tryd.func42, Tryd.ntmps42
        go_wp2
        go_ret
        exact gives_new w _ HD.out (by simp)

/-- numbers behind a row of the call's own: from whatever slice they come -/
theorem run_append_ints {P : Program} (w : World) (base : Nat) (t ty e : TypeId) (i : TypeInfo) (z : Value) (ht : P.underlying t = some (.slice e)) (hi : P.info? e = some i) (hz : i.zero = some z)
    (hsize : i.size = 1) (hby : i.bytes = 8) (hzs : z.cells.size = 1) (v : Value) (n : Nat) (xs : List Int) (hown : w.ownsRow base e 1 v n (xs.map (Value.int .i64)))
    (o : Option Addr) (m c : Nat) (zs : List Int) (hx : Ints w o m c zs) (hnm : n + m ≤ 1000000) (hbase : base ≤ w.heap.size) :
    ∃ v' w', (Builtin.append_ #[t, t] ty #[v, .slice o m c]).run P w = .ok v' w' ∧ w'.ownsRow base e 1 v' (n + m) ((xs ++ zs).map (Value.int .i64)) ∧ w.grownBy w' v.ownBlock := by
  have hlen := hx.len
  cases o with
  | none =>
    obtain rfl : m = 0 := by
      rcases hx.at_ with h | ⟨_, _, h, _⟩
      · exact h
      · cases h
    obtain rfl : zs = [] := List.length_eq_zero_iff.1 hlen
    refine ⟨v, w, ?_, by simpa using hown, World.grownBy.refl w _⟩
    rcases hown.2 with ⟨rfl, rfl⟩ | ⟨g, cap, cur, rfl, _, _, hnc, _⟩
    · simp [Builtin.append_, run_underlying ht, sizeOf, typeInfo, hi, Builtin.lenOf, Builtin.firstCells]
    · simp [Builtin.append_, run_underlying ht, sizeOf, typeInfo, hi, Builtin.lenOf, Builtin.firstCells, hnc, storeCells]
  | some ad =>
    have hc : ∀ j u, (zs.map (Value.int .i64))[j]? = some u → w.cell? (ad.add j) = some u := by
      intro j u hu
      rcases hx.at_ with h | ⟨b, off, h, _, hk⟩
      · obtain rfl : zs = [] := List.length_eq_zero_iff.1 (by omega)
        simp at hu
      · cases h
        have hj : j < zs.length := by
          have := (List.getElem?_eq_some_iff.1 hu).1
          simpa using this
        have := hk j (by omega)
        simp [hj] at hu
        rw [show (⟨b, off, none⟩ : Addr).add j = ⟨b, off + j, none⟩ by simp [Addr.add], this, ← hu]
        simp [List.getD, hj]
    obtain ⟨v', w', hr, h2, h3, _⟩ := run_append_own (P := P) w base t ty e i z 1 8 ht hi hz hsize hby hzs (by decide) v n _ hown ad m c (zs.map (Value.int .i64)) (by simp [hlen]) hc (by intro u hu; simp at hu; obtain ⟨y, _, rfl⟩ := hu; rfl) (by unfold maxLen; omega) (by omega) hbase
    exact ⟨v', w', hr, by rw [List.map_append]; exact h2, h3⟩
theorem wpList_append_ints {P : Program} {w : World} {ops : Array Oper} {rest : List Oper} {op : Oper} {a : Act} {Q : Exit → Act → World → Prop} (hgd : op.guard = none) (s x : Operand) (t : TypeId)
    (ho : op.op = .call { callee := .builtin .append, args := #[s, x], argTypes := #[t, t] })
    (base : Nat) (e : TypeId) (i : TypeInfo) (z : Value) (ht : P.underlying t = some (.slice e)) (hi : P.info? e = some i) (hz : i.zero = some z)
    (hsize : i.size = 1) (hby : i.bytes = 8) (hzs : z.cells.size = 1) (v : Value) (n : Nat) (xs : List Int) (hs : a.eval s = v) (hown : w.ownsRow base e 1 v n (xs.map (Value.int .i64)))
    (o : Option Addr) (m c : Nat) (zs : List Int) (hx : a.eval x = .slice o m c) (hxi : Ints w o m c zs) (hnm : n + m ≤ 1000000) (hbase : base ≤ w.heap.size)
    (h : ∀ v' w', w'.ownsRow base e 1 v' (n + m) ((xs ++ zs).map (Value.int .i64)) → w.grownBy w' v.ownBlock → wpList P ops Q rest (a.put op.dst v') w') : wpList P ops Q (op :: rest) a w := by
  refine wpList_plain hgd fun K hK => ?_
  obtain ⟨v', w', hr, h2, h3⟩ := run_append_ints (P := P) w base t op.type e i z ht hi hz hsize hby hzs v n xs hown o m c zs hxi hnm hbase
  unfold Oper.wp execOp
  simp only [ho, resolve, invoke, builtin, Sem.run_bind, Sem.run_pure, Result.andThen_ok, List.map_toArray, List.map_cons, List.map_nil, hs, hx, hr]
  exact hK _ _ (h v' w' h2 h3)
theorem infoE : (Tryd.prog.info? 3).map (fun i => (i.zero, i.size, i.bytes)) = some (some (Value.int .i64 0), 1, 8) := by kernel_rfl
end Go.Proofs.YtgkodjkhhmcnnaaDoor.S5
