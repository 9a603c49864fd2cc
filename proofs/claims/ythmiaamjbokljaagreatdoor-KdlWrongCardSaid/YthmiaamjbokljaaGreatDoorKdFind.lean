/- badValue; rows of values and properties as a walk reads them; IndexFunc, ContainsFunc over them (made by tools/mkfind.py). -/
import Derived.Test.YthmiaamjbokljaaGreatDoorKdBad
namespace Go.Proofs.YthmiaamjbokljaaGreatDoor
open Go.RowKit
/-- bounds of a value's, a property's texts -/
def kd.ValB (v : kd.Val) : Prop := v.text.length ≤ 9223372036854775807
def kd.PrpB (x : kd.Prp) : Prop := x.name.length ≤ 9223372036854775807 ∧ kd.ValB x.val
structure ValsIn (w : World) (o : Option Addr) (n cap : Nat) (l : List kd.Val) : Prop where
  len : l.length = n
  le : n ≤ cap
  max : cap ≤ 9223372036854775807
  bd : ∀ v ∈ l, kd.ValB v
  at_ : n = 0 ∨ ∃ b off, o = some ⟨b, off, none⟩ ∧ b < w.heap.size ∧ ∀ k v, l[k]? = some v → w.cell? ⟨b, off + k * 4, none⟩ = some (.int .i64 v.kind) ∧ w.cell? ⟨b, off + k * 4 + 1, none⟩ = some (str v.text) ∧ w.cell? ⟨b, off + k * 4 + 2, none⟩ = some (.int .i64 v.int) ∧ w.cell? ⟨b, off + k * 4 + 3, none⟩ = some (.bool v.flag)
structure PrpsIn (w : World) (o : Option Addr) (n cap : Nat) (l : List kd.Prp) : Prop where
  len : l.length = n
  le : n ≤ cap
  max : cap ≤ 9223372036854775807
  bd : ∀ v ∈ l, kd.PrpB v
  at_ : n = 0 ∨ ∃ b off, o = some ⟨b, off, none⟩ ∧ b < w.heap.size ∧ ∀ k x, l[k]? = some x → w.cell? ⟨b, off + k * 5, none⟩ = some (str x.name) ∧ w.cell? ⟨b, off + k * 5 + 1, none⟩ = some (.int .i64 x.val.kind) ∧ w.cell? ⟨b, off + k * 5 + 2, none⟩ = some (str x.val.text) ∧ w.cell? ⟨b, off + k * 5 + 3, none⟩ = some (.int .i64 x.val.int) ∧ w.cell? ⟨b, off + k * 5 + 4, none⟩ = some (.bool x.val.flag)
theorem ValsIn.fr {S : Nat → Prop} {w w' : World} {o : Option Addr} {n cap : Nat} {l : List kd.Val} (h : ValsIn w o n cap l) (hf : Fr S w w') (hS : ∀ a, o = some a → ¬ S a.block) : ValsIn w' o n cap l :=
  ⟨h.len, h.le, h.max, h.bd, h.at_.imp id fun ⟨b, off, e, hlt, hc⟩ => ⟨b, off, e, Nat.lt_of_lt_of_le hlt hf.size, fun k v hk => by
    obtain ⟨c0, c1, c2, c3⟩ := hc k v hk
    have hb := hf.block b hlt (hS _ e)
    exact ⟨(cell_of_eq hb _).trans c0, (cell_of_eq hb _).trans c1, (cell_of_eq hb _).trans c2, (cell_of_eq hb _).trans c3⟩⟩⟩
theorem PrpsIn.fr {S : Nat → Prop} {w w' : World} {o : Option Addr} {n cap : Nat} {l : List kd.Prp} (h : PrpsIn w o n cap l) (hf : Fr S w w') (hS : ∀ a, o = some a → ¬ S a.block) : PrpsIn w' o n cap l :=
  ⟨h.len, h.le, h.max, h.bd, h.at_.imp id fun ⟨b, off, e, hlt, hc⟩ => ⟨b, off, e, Nat.lt_of_lt_of_le hlt hf.size, fun k v hk => by
    obtain ⟨c0, c1, c2, c3, c4⟩ := hc k v hk
    have hb := hf.block b hlt (hS _ e)
    exact ⟨(cell_of_eq hb _).trans c0, (cell_of_eq hb _).trans c1, (cell_of_eq hb _).trans c2, (cell_of_eq hb _).trans c3, (cell_of_eq hb _).trans c4⟩⟩⟩
theorem ValsIn.below {w w' : World} {o : Option Addr} {n cap : Nat} {l : List kd.Val} (h : ValsIn w o n cap l) (hb : Below w.heap.size w w') : ValsIn w' o n cap l := h.fr (Fr.of_below hb fun _ => False) fun _ _ h => h
theorem PrpsIn.below {w w' : World} {o : Option Addr} {n cap : Nat} {l : List kd.Prp} (h : PrpsIn w o n cap l) (hb : Below w.heap.size w w') : PrpsIn w' o n cap l := h.fr (Fr.of_below hb fun _ => False) fun _ _ h => h
theorem argsC_get : ∀ (l : List kd.Val) (k : Nat) (v : kd.Val), l[k]? = some v → ∀ i, i < 4 → (argsC l)[k * 4 + i]? = (valC v)[i]?
  | [], k, v, h => by simp at h
  | u :: l, 0, v, h => fun i hi => by
    obtain rfl : u = v := by simpa using h
    show (valC u ++ argsC l)[0 * 4 + i]? = _
    rw [List.getElem?_append_left (by show 0 * 4 + i < 4; omega), Nat.zero_mul, Nat.zero_add]
  | u :: l, k + 1, v, h => fun i hi => by
    show (valC u ++ argsC l)[(k + 1) * 4 + i]? = _
    rw [List.getElem?_append_right (by show 4 ≤ _; omega), show (k + 1) * 4 + i - (valC u).length = k * 4 + i by show _ - 4 = _; omega]
    exact argsC_get l k v (by simpa using h) i hi
theorem prpsC_get : ∀ (l : List kd.Prp) (k : Nat) (v : kd.Prp), l[k]? = some v → ∀ i, i < 5 → (prpsC l)[k * 5 + i]? = (prpC v)[i]?
  | [], k, v, h => by simp at h
  | u :: l, 0, v, h => fun i hi => by
    obtain rfl : u = v := by simpa using h
    show (prpC u ++ prpsC l)[0 * 5 + i]? = _
    rw [List.getElem?_append_left (by show 0 * 5 + i < 5; omega), Nat.zero_mul, Nat.zero_add]
  | u :: l, k + 1, v, h => fun i hi => by
    show (prpC u ++ prpsC l)[(k + 1) * 5 + i]? = _
    rw [List.getElem?_append_right (by show 5 ≤ _; omega), show (k + 1) * 5 + i - (prpC u).length = k * 5 + i by show _ - 5 = _; omega]
    exact prpsC_get l k v (by simpa using h) i hi
theorem RowIn.vals {w : World} {D : Nat → Prop} {o : Option Addr} {n cap : Nat} {l : List kd.Val} (h : RowIn w D (.slice o n cap) 4 l.length (argsC l)) (hb : ∀ v ∈ l, kd.ValB v) : ValsIn w o n cap l := by
  obtain ⟨o', cap', e, h1, h2, h3, h4⟩ := h
  obtain ⟨rfl, rfl, rfl⟩ := Value.slice.inj e
  refine ⟨rfl, h1, h2, hb, h4.imp id ?_⟩
  rintro ⟨b, off, e1, hD, hlt, hc⟩
  refine ⟨b, off, e1, hlt, fun k v hk => ?_⟩
  have hg := argsC_get l k v hk
  exact ⟨hc (k * 4) _ (hg 0 (by omega)), hc (k * 4 + 1) _ (hg 1 (by omega)), hc (k * 4 + 2) _ (hg 2 (by omega)), hc (k * 4 + 3) _ (hg 3 (by omega))⟩
theorem RowIn.prps {w : World} {D : Nat → Prop} {o : Option Addr} {n cap : Nat} {l : List kd.Prp} (h : RowIn w D (.slice o n cap) 5 l.length (prpsC l)) (hb : ∀ v ∈ l, kd.PrpB v) : PrpsIn w o n cap l := by
  obtain ⟨o', cap', e, h1, h2, h3, h4⟩ := h
  obtain ⟨rfl, rfl, rfl⟩ := Value.slice.inj e
  refine ⟨rfl, h1, h2, hb, h4.imp id ?_⟩
  rintro ⟨b, off, e1, hD, hlt, hc⟩
  refine ⟨b, off, e1, hlt, fun k v hk => ?_⟩
  have hg := prpsC_get l k v hk
  exact ⟨hc (k * 5) _ (hg 0 (by omega)), hc (k * 5 + 1) _ (hg 1 (by omega)), hc (k * 5 + 2) _ (hg 2 (by omega)), hc (k * 5 + 3) _ (hg 3 (by omega)), hc (k * 5 + 4) _ (hg 4 (by omega))⟩
theorem any_take_step {α : Type} (l : List α) (f : α → Bool) (k : Nat) (h : k < l.length) : (l.take (k + 1)).any f = ((l.take k).any f || f l[k]) := by
  rw [List.take_add_one, List.getElem?_eq_getElem h, List.any_append]
  simp
theorem any_take_true {α : Type} (l : List α) (f : α → Bool) (k : Nat) (h : (l.take k).any f = true) : l.any f = true := by
  rw [List.any_eq_true] at h ⊢
  obtain ⟨x, hx, hf⟩ := h
  exact ⟨x, List.mem_of_mem_take hx, hf⟩
set_option maxRecDepth 100000 in
set_option maxHeartbeats 1600000 in
theorem badValue_any (v : kd.Val) (w : World) (hv : kd.ValB v) : Calls Tryz.prog 42 #[valV v] w fun ev w' => ev = .returned (.bool (kd.badValue v)) ∧ Below w.heap.size w w' := by
  obtain ⟨k, x, i, fl⟩ := v
  have hb := below_one w (.cells #[.int .i64 k, str x, .int .i64 i, .bool fl] 44)
  have HB := Lib.hid hb
  have HT := Lib.hid (badText_any x (w.alloc (.cells #[.int .i64 k, str x, .int .i64 i, .bool fl] 44)) hv)
  have HD : Hid (kd.badValue ⟨k, x, i, fl⟩ = if k = 1 then kd.badText x else !decide (k = 2 ∨ k = 3 ∨ k = 4)) := Lib.hid rfl
  generalize kd.badValue ⟨k, x, i, fl⟩ = R at *
  generalize kd.badText x = T at *
  clear hb
  by_cases h1 : k = 1
  · subst h1
    have HE : Hid (R = T) := Lib.hid (by rw [HD.out, if_pos rfl])
    go_enter Tryz.func42, Tryz.ntmps42
    go_wp2_with fail
    refine HT.out.mono ?_
    rintro ev w1 ⟨rfl, hb1⟩
    have HB1 := Lib.hid (HB.out.trans (hb1.mono HB.out.size))
    clear hb1
    go_wp2_with fail
    go_ret
    exact ⟨ret_bool HE.out.symm, HB1.out⟩
  by_cases h2 : k = 2
  · subst h2
    have HE : Hid (R = false) := Lib.hid (by rw [HD.out]; rfl)
    go_enter Tryz.func42, Tryz.ntmps42
    go_wp2_with fail
    go_ret
    exact ⟨ret_bool HE.out.symm, HB.out⟩
  by_cases h3 : k = 3
  · subst h3
    have HE : Hid (R = false) := Lib.hid (by rw [HD.out]; rfl)
    go_enter Tryz.func42, Tryz.ntmps42
    go_wp2_with fail
    go_ret
    exact ⟨ret_bool HE.out.symm, HB.out⟩
  by_cases h4 : k = 4
  · subst h4
    have HE : Hid (R = false) := Lib.hid (by rw [HD.out]; rfl)
    go_enter Tryz.func42, Tryz.ntmps42
    go_wp2_with fail
    go_ret
    exact ⟨ret_bool HE.out.symm, HB.out⟩
  have HE : Hid (R = true) := Lib.hid (by rw [HD.out, if_neg h1, decide_eq_false (fun h => h.elim h2 (fun h => h.elim h3 h4))]; rfl)
  have b1 : (k == 1) = false := by simpa using h1
  have b2 : (k == 2) = false := by simpa using h2
  have b3 : (k == 3) = false := by simpa using h3
  have b4 : (k == 4) = false := by simpa using h4
  clear h1 h2 h3 h4 HD
  go_enter Tryz.func42, Tryz.ntmps42
  go_wp2_with fail
  go_ret
  exact ⟨ret_bool HE.out.symm, HB.out⟩
abbrev prpV (x : kd.Prp) : Value := .agg #[str x.name, .int .i64 x.val.kind, str x.val.text, .int .i64 x.val.int, .bool x.val.flag]
set_option maxRecDepth 100000 in
set_option maxHeartbeats 1600000 in
theorem vals_index (o : Option Addr) (n cap : Nat) (L : List kd.Val) (w : World) (hs : ValsIn w o n cap L) :
    Calls Tryz.prog 73 #[.slice o n cap, .func (.func 42) #[] #[]] w fun e w' => (∃ r : Int, e = .returned (.int .i64 r) ∧ decide (0 ≤ r) = L.any kd.badValue) ∧ Below w.heap.size w w' := by
  have hm : cap ≤ 9223372036854775807 := hs.max
  have hle := hs.le
  have HS := Lib.hid hs
  clear hs
  go_enter Tryz.func73, Tryz.ntmps73
  go_wp2_with fail
  go_loopg [8] n (fun gg s8 wr => ∃ k : Nat, s8 = .int .i64 k ∧ k ≤ n ∧ n - k ≤ gg ∧ Hid ((L.take k).any kd.badValue = false ∧ Below w.heap.size w wr))
  case atStart => exact ⟨0, rfl, Nat.zero_le _, by omega, Lib.hid ⟨rfl, Below.refl _ _⟩⟩
  case round =>
    obtain ⟨k, rfl, hk, hgg, HA⟩ := hrel
    by_cases hlt : k < n
    · have hkl : k < L.length := by rw [HS.out.len]; exact hlt
      obtain ⟨b, off, rfl, hb, c0, c1, c2, c3⟩ : ∃ b off, o = some ⟨b, off, none⟩ ∧ b < wr.heap.size ∧ wr.cell? ⟨b, off + k * 4, none⟩ = some (.int .i64 L[k].kind) ∧ wr.cell? ⟨b, off + k * 4 + 1, none⟩ = some (str L[k].text) ∧ wr.cell? ⟨b, off + k * 4 + 2, none⟩ = some (.int .i64 L[k].int) ∧ wr.cell? ⟨b, off + k * 4 + 3, none⟩ = some (.bool L[k].flag) := by
        rcases (HS.out.below HA.out.2).at_ with h0 | ⟨b, off, e, hb, hc⟩
        · omega
        · exact ⟨b, off, e, hb, hc k _ (List.getElem?_eq_getElem hkl)⟩
      have hst := any_take_step L kd.badValue k hkl
      rw [HA.out.1, Bool.false_or] at hst
      have HT := Lib.hid (any_take_true L kd.badValue (k + 1))
      have HC := Lib.hid (badValue_any L[k] wr (HS.out.bd _ (List.getElem_mem hkl)))
      have HST := Lib.hid hst
      generalize L[k] = v at *
      have hki : (k : Int) < (n : Int) := by omega
      clear hst hkl
      go_wp2_with fail
      refine HC.out.mono ?_
      rintro ev w2 ⟨rfl, hb2⟩
      have HB2 := Lib.hid (HA.out.2.trans (hb2.mono HA.out.2.size))
      clear hb2
      cases hg : kd.badValue v
      · have HG := Lib.hid hg
        clear hg
        go_wp2_with fail
        go_roundg (n - (k + 1))
        case measure => omega
        case rel => exact ⟨k + 1, by go_num, by omega, Nat.le_refl _, Lib.hid ⟨by rw [HST.out]; exact HG.out, HB2.out⟩⟩
      · have HG := Lib.hid hg
        clear hg
        go_wp2_with fail
        go_ret
        exact ⟨⟨_, rfl, by rw [HT.out (by rw [HST.out]; exact HG.out)]; exact decide_eq_true (by omega)⟩, HB2.out⟩
    · obtain rfl : k = n := by omega
      have HF : Hid (L.any kd.badValue = false) := Lib.hid (by have := HA.out.1; rwa [List.take_of_length_le (by rw [HS.out.len]; exact Nat.le_refl _)] at this)
      go_wp2_with fail
      go_ret
      exact ⟨⟨_, rfl, by rw [HF.out]; rfl⟩, HA.out.2⟩
theorem vals_contains (o : Option Addr) (n cap : Nat) (L : List kd.Val) (w : World) (hs : ValsIn w o n cap L) :
    Calls Tryz.prog 43 #[.slice o n cap, .func (.func 42) #[] #[]] w fun e w' => e = .returned (.bool (L.any kd.badValue)) ∧ Below w.heap.size w w' := by
  have HI := Lib.hid (vals_index o n cap L w hs)
  clear hs
  generalize L.any kd.badValue = B at *
  go_enter Tryz.func43, Tryz.ntmps43
  go_wp2_with fail
  refine HI.out.mono ?_
  rintro e w2 ⟨⟨r, rfl, hr⟩, hb⟩
  have HR := Lib.hid hr
  have HB := Lib.hid hb
  clear hr hb
  go_wp2_with fail
  go_ret
  exact ⟨ret_bool HR.out, HB.out⟩
/-- a property that no text says -/
def kd.badProp (x : kd.Prp) : Bool := kd.badText x.name || kd.badValue x.val
set_option maxRecDepth 100000 in
set_option maxHeartbeats 1600000 in
theorem badProp_any (x : kd.Prp) (w : World) (hx : kd.PrpB x) : Calls Tryz.prog 40 #[prpV x] w fun ev w' => ev = .returned (.bool (kd.badProp x)) ∧ Below w.heap.size w w' := by
  have hb := below_one w (prpO x)
  have HB := Lib.hid hb
  have HN := Lib.hid (heap_alloc_new w (prpO x))
  have HT := Lib.hid (badText_any x.name (w.alloc (prpO x)) hx.1)
  have HV := Lib.hid (fun X => badValue_any x.val X hx.2)
  have HD : Hid (kd.badProp x = (kd.badText x.name || kd.badValue x.val)) := Lib.hid rfl
  generalize kd.badProp x = R at *
  generalize kd.badText x.name = T at *
  clear hb
  go_enter Tryz.func40, Tryz.ntmps40
  go_wp2_with fail
  refine HT.out.mono ?_
  rintro ev w1 ⟨rfl, hb1⟩
  have HB1 := Lib.hid (HB.out.trans (hb1.mono HB.out.size))
  have hq := (hb1.block w.heap.size (by simp)).trans HN.out
  have q1 : w1.cell? ⟨w.heap.size, 1, none⟩ = some (.int .i64 x.val.kind) := (cell_of_heap hq).trans rfl
  have q2 : w1.cell? ⟨w.heap.size, 2, none⟩ = some (str x.val.text) := (cell_of_heap hq).trans rfl
  have q3 : w1.cell? ⟨w.heap.size, 3, none⟩ = some (.int .i64 x.val.int) := (cell_of_heap hq).trans rfl
  have q4 : w1.cell? ⟨w.heap.size, 4, none⟩ = some (.bool x.val.flag) := (cell_of_heap hq).trans rfl
  clear hb1 hq
  cases T
  · go_wp2_with fail
    refine (HV.out _).mono ?_
    rintro ev w2 ⟨rfl, hb2⟩
    have HB2 := Lib.hid (HB1.out.trans (hb2.mono HB1.out.size))
    clear hb2
    go_wp2_with fail
    go_ret
    exact ⟨ret_bool (by rw [HD.out]; rfl), HB2.out⟩
  · go_wp2_with fail
    go_ret
    exact ⟨ret_bool (by rw [HD.out]; rfl), HB1.out⟩
set_option maxRecDepth 100000 in
set_option maxHeartbeats 1600000 in
theorem prps_index (o : Option Addr) (n cap : Nat) (L : List kd.Prp) (w : World) (hs : PrpsIn w o n cap L) :
    Calls Tryz.prog 74 #[.slice o n cap, .func (.func 40) #[] #[]] w fun e w' => (∃ r : Int, e = .returned (.int .i64 r) ∧ decide (0 ≤ r) = L.any kd.badProp) ∧ Below w.heap.size w w' := by
  have hm : cap ≤ 9223372036854775807 := hs.max
  have hle := hs.le
  have HS := Lib.hid hs
  clear hs
  go_enter Tryz.func74, Tryz.ntmps74
  go_wp2_with fail
  go_loopg [8] n (fun gg s8 wr => ∃ k : Nat, s8 = .int .i64 k ∧ k ≤ n ∧ n - k ≤ gg ∧ Hid ((L.take k).any kd.badProp = false ∧ Below w.heap.size w wr))
  case atStart => exact ⟨0, rfl, Nat.zero_le _, by omega, Lib.hid ⟨rfl, Below.refl _ _⟩⟩
  case round =>
    obtain ⟨k, rfl, hk, hgg, HA⟩ := hrel
    by_cases hlt : k < n
    · have hkl : k < L.length := by rw [HS.out.len]; exact hlt
      obtain ⟨b, off, rfl, hb, c0, c1, c2, c3, c4⟩ : ∃ b off, o = some ⟨b, off, none⟩ ∧ b < wr.heap.size ∧ wr.cell? ⟨b, off + k * 5, none⟩ = some (str L[k].name) ∧ wr.cell? ⟨b, off + k * 5 + 1, none⟩ = some (.int .i64 L[k].val.kind) ∧ wr.cell? ⟨b, off + k * 5 + 2, none⟩ = some (str L[k].val.text) ∧ wr.cell? ⟨b, off + k * 5 + 3, none⟩ = some (.int .i64 L[k].val.int) ∧ wr.cell? ⟨b, off + k * 5 + 4, none⟩ = some (.bool L[k].val.flag) := by
        rcases (HS.out.below HA.out.2).at_ with h0 | ⟨b, off, e, hb, hc⟩
        · omega
        · exact ⟨b, off, e, hb, hc k _ (List.getElem?_eq_getElem hkl)⟩
      have hst := any_take_step L kd.badProp k hkl
      rw [HA.out.1, Bool.false_or] at hst
      have HT := Lib.hid (any_take_true L kd.badProp (k + 1))
      have HC := Lib.hid (badProp_any L[k] wr (HS.out.bd _ (List.getElem_mem hkl)))
      have HST := Lib.hid hst
      generalize L[k] = v at *
      have hki : (k : Int) < (n : Int) := by omega
      clear hst hkl
      go_wp2_with fail
      refine HC.out.mono ?_
      rintro ev w2 ⟨rfl, hb2⟩
      have HB2 := Lib.hid (HA.out.2.trans (hb2.mono HA.out.2.size))
      clear hb2
      cases hg : kd.badProp v
      · have HG := Lib.hid hg
        clear hg
        go_wp2_with fail
        go_roundg (n - (k + 1))
        case measure => omega
        case rel => exact ⟨k + 1, by go_num, by omega, Nat.le_refl _, Lib.hid ⟨by rw [HST.out]; exact HG.out, HB2.out⟩⟩
      · have HG := Lib.hid hg
        clear hg
        go_wp2_with fail
        go_ret
        exact ⟨⟨_, rfl, by rw [HT.out (by rw [HST.out]; exact HG.out)]; exact decide_eq_true (by omega)⟩, HB2.out⟩
    · obtain rfl : k = n := by omega
      have HF : Hid (L.any kd.badProp = false) := Lib.hid (by have := HA.out.1; rwa [List.take_of_length_le (by rw [HS.out.len]; exact Nat.le_refl _)] at this)
      go_wp2_with fail
      go_ret
      exact ⟨⟨_, rfl, by rw [HF.out]; rfl⟩, HA.out.2⟩
theorem prps_contains (o : Option Addr) (n cap : Nat) (L : List kd.Prp) (w : World) (hs : PrpsIn w o n cap L) :
    Calls Tryz.prog 44 #[.slice o n cap, .func (.func 40) #[] #[]] w fun e w' => e = .returned (.bool (L.any kd.badProp)) ∧ Below w.heap.size w w' := by
  have HI := Lib.hid (prps_index o n cap L w hs)
  clear hs
  generalize L.any kd.badProp = B at *
  go_enter Tryz.func44, Tryz.ntmps44
  go_wp2_with fail
  refine HI.out.mono ?_
  rintro e w2 ⟨⟨r, rfl, hr⟩, hb⟩
  have HR := Lib.hid hr
  have HB := Lib.hid hb
  clear hr hb
  go_wp2_with fail
  go_ret
  exact ⟨ret_bool HR.out, HB.out⟩
end Go.Proofs.YthmiaamjbokljaaGreatDoor
