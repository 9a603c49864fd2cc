/- What a ring's places have in them, as a list from the oldest thing on (plain lists, without Go). -/
namespace Go.Proofs.Ytaklkhjgdopbgaa
namespace rg

theorem add_mod {a b m : Nat} (ha : a < m) (hb : b < m) : (a + b) % m = if a + b < m then a + b else a + b - m := by
  by_cases h : a + b < m
  · rw [if_pos h, Nat.mod_eq_of_lt h]
  · rw [if_neg h, Nat.mod_eq_sub_mod (by omega), Nat.mod_eq_of_lt (by omega)]

section
variable {α : Type} (d : α)

/-- the things that lie in places, the oldest first -/
def things (ps : List α) (first n most : Nat) : List α := (List.range n).map fun i => ps.getD ((first + i) % most) d

/-- what holds of a ring's numbers -/
structure Fit (l first n most : Nat) : Prop where
  n_le : n ≤ l
  l_le : l ≤ most
  m_le : most ≤ 1000
  f0 : l < most → first = 0
  fm : first < most ∨ (most = 0 ∧ first = 0)

variable {d}
theorem length_things (ps : List α) (first n most : Nat) : (things d ps first n most).length = n := by simp [things]
theorem things_get {ps : List α} {first n most i : Nat} (h : i < n) : (things d ps first n most)[i]? = some (ps.getD ((first + i) % most) d) := by
  simp [things, h]
theorem things_getD {ps : List α} {first n most i : Nat} (h : i < n) : (things d ps first n most).getD i d = ps.getD ((first + i) % most) d := by
  simp [List.getD, things_get h]

theorem Fit.place_lt {l first n most : Nat} (h : Fit l first n most) {i : Nat} (hi : i < l) : (first + i) % most < l := by
  have h1 := h.l_le
  have h2 := h.f0
  have h3 := h.fm
  rw [add_mod (by omega) (by omega)]
  split <;> omega
theorem Fit.place_ne {l first n most : Nat} (h : Fit l first n most) {i j : Nat} (hi : i < l) (hj : j < l) (hij : i ≠ j) : (first + i) % most ≠ (first + j) % most := by
  have h1 := h.l_le
  have h2 := h.f0
  have h3 := h.fm
  rw [add_mod (by omega) (by omega), add_mod (by omega) (by omega)]
  split <;> split <;> omega
theorem Fit.place_zero {l first n most : Nat} (h : Fit l first n most) (h0 : 0 < most) : (first + 0) % most = first := by
  have h3 := h.fm
  rw [Nat.add_zero, Nat.mod_eq_of_lt (by omega)]

theorem getD_append_left {l : List α} {x : α} {i : Nat} (h : i < l.length) : (l ++ [x]).getD i d = l.getD i d := by
  simp [List.getD, List.getElem?_append_left h]
theorem getD_append_right {l : List α} {x : α} : (l ++ [x]).getD l.length d = x := by simp [List.getD]
theorem getD_set_same {l : List α} {x : α} {i : Nat} (h : i < l.length) : (l.set i x).getD i d = x := by simp [List.getD, h]
theorem getD_set_other {l : List α} {x : α} {i j : Nat} (h : i ≠ j) : (l.set i x).getD j d = l.getD j d := by simp [List.getD, List.getElem?_set_ne h]

/-- one more, behind the last place -/
theorem push_append {ps : List α} {first n most : Nat} (x : α) (h : Fit ps.length first n most) (hn : n = ps.length) (hlt : n < most) :
    things d (ps ++ [x]) first (n + 1) most = things d ps first n most ++ [x] ∧ Fit (ps ++ [x]).length first (n + 1) most ∧ (first + n) % most = n := by
  have h1 := h.f0 (by omega)
  subst h1
  refine ⟨?_, ⟨by simp; omega, by simp; omega, h.m_le, fun _ => rfl, by left; omega⟩, by rw [Nat.zero_add, Nat.mod_eq_of_lt hlt]⟩
  unfold things
  rw [List.range_succ, List.map_append]
  congr 1
  · apply List.map_congr_left
    intro i hi
    have hi' : i < n := by simpa using hi
    have e : (0 + i) % most = i := by rw [Nat.zero_add, Nat.mod_eq_of_lt (by omega)]
    rw [e, getD_append_left (by omega)]
  · have e : (0 + n) % most = ps.length := by rw [Nat.zero_add, Nat.mod_eq_of_lt hlt, hn]
    simp only [List.map_cons, List.map_nil, e, getD_append_right]

/-- one more, in a place that there is -/
theorem push_set {ps : List α} {first n most : Nat} (x : α) (h : Fit ps.length first n most) (hn : n < ps.length) :
    things d (ps.set ((first + n) % most) x) first (n + 1) most = things d ps first n most ++ [x] ∧ Fit (ps.set ((first + n) % most) x).length first (n + 1) most := by
  refine ⟨?_, ⟨by simp; omega, by simpa using h.l_le, h.m_le, by simpa using h.f0, h.fm⟩⟩
  unfold things
  rw [List.range_succ, List.map_append]
  congr 1
  · apply List.map_congr_left
    intro i hi
    have hi' : i < n := by simpa using hi
    exact getD_set_other (h.place_ne hn (by omega) (by omega))
  · simp only [List.map_cons, List.map_nil, getD_set_same (h.place_lt hn)]

/-- one more in a ring that is full -/
theorem push_full {ps : List α} {first n most : Nat} (x : α) (h : Fit ps.length first n most) (hn : n = most) (h0 : 0 < most) :
    things d (ps.set first x) ((first + 1) % most) n most = (things d ps first n most).tail ++ [x] ∧ Fit (ps.set first x).length ((first + 1) % most) n most ∧
      (things d ps first n most).head? = some (ps.getD first d) := by
  have h1 := h.l_le
  have h2 := h.n_le
  have h3 := h.fm
  have hl : ps.length = most := by omega
  have hlt : (first + 1) % most < most := Nat.mod_lt _ h0
  obtain ⟨m', rfl⟩ : ∃ m', n = m' + 1 := ⟨n - 1, by omega⟩
  refine ⟨?_, ⟨by simp; omega, by simp; omega, h.m_le, fun hh => by simp at hh; omega, .inl hlt⟩, ?_⟩
  · have e1 : things d (ps.set first x) ((first + 1) % most) (m' + 1) most = (List.range m').map (fun i => (ps.set first x).getD (((first + 1) % most + i) % most) d) ++ [(ps.set first x).getD (((first + 1) % most + m') % most) d] := by
      unfold things
      rw [List.range_succ, List.map_append]
      rfl
    have e2 : (things d ps first (m' + 1) most).tail = (List.range m').map (fun i => ps.getD ((first + (i + 1)) % most) d) := by
      unfold things
      rw [List.range_succ_eq_map]
      simp
    rw [e1, e2]
    congr 1
    · apply List.map_congr_left
      intro i hi
      have hi' : i < m' := by simpa using hi
      have e3 : ((first + 1) % most + i) % most = (first + (i + 1)) % most := by
        rw [Nat.mod_add_mod]; congr 1; omega
      rw [e3, getD_set_other]
      rw [add_mod (a := first) (b := i + 1) (by omega) (by omega)]
      split <;> omega
    · have e4 : ((first + 1) % most + m') % most = first := by
        rw [Nat.mod_add_mod, show first + 1 + m' = first + most by omega, Nat.add_mod_right, Nat.mod_eq_of_lt (by omega)]
      rw [e4, getD_set_same (by omega)]
  · unfold things
    rw [List.range_succ_eq_map]
    simp only [List.map_cons, List.head?_cons, Nat.add_zero]
    rw [Nat.mod_eq_of_lt (by omega)]

/-- the newest one out -/
theorem pop_last {ps : List α} {first n most : Nat} (z : α) (h : Fit ps.length first (n + 1) most) :
    things d ps first (n + 1) most = things d (ps.set ((first + n) % most) z) first n most ++ [ps.getD ((first + n) % most) d] ∧ Fit (ps.set ((first + n) % most) z).length first n most ∧ (first + n) % most < ps.length := by
  have hle := h.n_le
  refine ⟨?_, ⟨by simp; omega, by simpa using h.l_le, h.m_le, by simpa using h.f0, h.fm⟩, h.place_lt (by omega)⟩
  unfold things
  rw [List.range_succ, List.map_append]
  congr 1
  apply List.map_congr_left
  intro i hi
  have hi' : i < n := by simpa using hi
  exact (getD_set_other (h.place_ne (by omega) (by omega) (by omega))).symm

theorem fit_new {most : Nat} (h : most ≤ 1000) : Fit 0 0 0 most := ⟨Nat.le_refl _, Nat.zero_le _, h, fun _ => rfl, by omega⟩
end

/-- the last ones of a list, as many as may be -/
def lastOf {α : Type} (M : List α) (most : Nat) : List α := M.drop (M.length - most)
theorem length_lastOf {α : Type} (M : List α) (most : Nat) : (lastOf M most).length = min most M.length := by simp [lastOf]; omega
theorem lastOf_room {α : Type} {M : List α} {most : Nat} (x : α) (h : M.length < most) : lastOf M most = M ∧ lastOf (M ++ [x]) most = M ++ [x] := by
  unfold lastOf
  refine ⟨by rw [show M.length - most = 0 by omega]; rfl, by rw [show (M ++ [x]).length - most = 0 by simp; omega]; rfl⟩
theorem lastOf_full {α : Type} {M : List α} {most : Nat} (x d : α) (h : most ≤ M.length) (h0 : 0 < most) : lastOf (M ++ [x]) most = (lastOf M most).tail ++ [x] ∧ (lastOf M most).headD d = (M ++ [x]).getD (M.length - most) d := by
  unfold lastOf
  refine ⟨?_, ?_⟩
  · rw [List.tail_drop, List.length_append, List.length_singleton, List.drop_append_of_le_length (by omega)]
    congr 2
    omega
  · rw [List.headD_eq_head?_getD, List.head?_drop, List.getD, List.getElem?_append_left (by omega)]
theorem lastOf_none {α : Type} (M : List α) : lastOf M 0 = [] := by simp [lastOf]
theorem getD_none {α : Type} (M : List α) (x d : α) : (M ++ [x]).getD (M.length - 0) d = x := by simp [List.getD]
end rg
end Go.Proofs.Ytaklkhjgdopbgaa
