/- Which modules may be run, on lists (without Go): what an instruction takes and puts, heights that spread, what is wrong. -/
import Derived.Test.YtbmcmcdgdhabaaaDoorMdMath
namespace Go.Proofs.YtbmcmcdgdhabaaaDoor
namespace ck
open md
def below (n bound : Int) : Bool := decide (0 ≤ n ∧ n < bound)
theorem below_iff {n b : Int} : below n b = true ↔ 0 ≤ n ∧ n < b := by unfold below; exact decide_eq_true_iff
/-- an op that alone tells what it takes and puts -/
def plain (op : Int) : Int × Int × Bool :=
  if op = 0 ∨ op = 24 ∨ op = 29 then (0, 0, true)
  else if op = 1 ∨ op = 5 then (0, 1, true)
  else if op = 2 ∨ op = 6 ∨ op = 25 then (1, 0, true)
  else if op = 3 then (1, 2, true)
  else if op = 4 then (2, 2, true)
  else if op = 19 ∨ op = 20 ∨ op = 22 then (1, 1, true)
  else if op = 21 ∨ op = 23 then (2, 0, true)
  else if 7 ≤ op ∧ op ≤ 18 then (2, 1, true)
  else (0, 0, false)
def hostT : List Int := [3, 3, 0, 1, 1, 3, 1, 0, 1, 3, 0, 2]
def noFn : Fn := ⟨0, 0, 0, []⟩
def fnAt (m : Mod) (k : Nat) : Fn := m.funcs.getD k noFn
theorem fnAt_lt {m : Mod} {k : Nat} (h : k < m.funcs.length) : fnAt m k = m.funcs[k] := by unfold fnAt; rw [List.getD_eq_getElem?_getD, List.getElem?_eq_getElem h, Option.getD_some]
def callEff (m : Mod) (n : Int) : Int × Int × Bool := if below n m.funcs.length = true then ((fnAt m n.toNat).params, (fnAt m n.toNat).results, true) else (0, 0, false)
def hostEff (n : Int) : Int × Int × Bool := if below n 12 = true then (hostT.getD n.toNat 0, 1, true) else (0, 0, false)
def effect (m : Mod) (f : Int) (i : Ins) : Int × Int × Bool :=
  if below f m.funcs.length = true then
    if i.op = 26 then callEff m i.n
    else if i.op = 27 then ((fnAt m f.toNat).results, 0, true)
    else if i.op = 28 then hostEff i.n
    else plain i.op
  else (0, 0, false)
/-- does an instruction's number name what there is? -/
def points (m : Mod) (f : Nat) (i : Ins) : Bool :=
  if i.op = 5 ∨ i.op = 6 then below i.n ((fnAt m f).params + (fnAt m f).locals)
  else if i.op = 24 ∨ i.op = 25 then below i.n (fnAt m f).code.length
  else if i.op = 26 then below i.n m.funcs.length
  else if i.op = 28 then below i.n 12
  else true
def behind (m : Mod) (f : Nat) (i : Ins) (h : Int) : Int × Bool :=
  if h - (effect m f i).1 < 0 ∨ 64 < h - (effect m f i).1 + (effect m f i).2.1 ∨ (i.op = 27 ∧ 0 < h - (effect m f i).1) then (0, false) else (h - (effect m f i).1 + (effect m f i).2.1, true)
def next (i : Ins) (k : Nat) : List Nat :=
  if i.op = 24 then [i.n.toNat] else if i.op = 25 then [i.n.toNat, k + 1] else if i.op = 27 ∨ i.op = 29 then [] else [k + 1]
/-! ### heights that spread -/
structure Wk where
  hs : List Int
  todo : List Nat
def hAt (hs : List Int) (k : Nat) : Int := hs.getD k 0
def reach (s : Wk) (k : Nat) (h : Int) : Wk × Bool :=
  if k = s.hs.length then (s, false)
  else if hAt s.hs k = -1 then (⟨s.hs.set k h, s.todo ++ [k]⟩, true)
  else (s, decide (hAt s.hs k = h))
def reachAll (s : Wk) : List Nat → Int → Wk × Bool
  | [], _ => (s, true)
  | k :: r, h => if (reach s k h).2 = true then reachAll (reach s k h).1 r h else ((reach s k h).1, false)
def insAt (c : List Ins) (k : Nat) : Ins := c.getD k ⟨0, 0⟩
theorem insAt_lt {c : List Ins} {k : Nat} (h : k < c.length) : insAt c k = c[k] := by unfold insAt; rw [List.getD_eq_getElem?_getD, List.getElem?_eq_getElem h, Option.getD_some]
theorem hAt_lt {c : List Int} {k : Nat} (h : k < c.length) : hAt c k = c[k] := by unfold hAt; rw [List.getD_eq_getElem?_getD, List.getElem?_eq_getElem h, Option.getD_some]
/-- a place is gone on from -/
def goOn (m : Mod) (f : Nat) (c : List Ins) (hs : List Int) (k : Nat) (r : List Nat) : Wk × Bool :=
  if (behind m f (insAt c k) (hAt hs k)).2 = true then reachAll ⟨hs, r⟩ (next (insAt c k) k) (behind m f (insAt c k) (hAt hs k)).1 else (⟨hs, r⟩, false)
def spread (m : Mod) (f : Nat) (c : List Ins) : Nat → Wk → Option (List Int)
  | 0, s => some s.hs
  | n + 1, s => match s.todo with
    | [] => some s.hs
    | k :: r => if (goOn m f c s.hs k r).2 = true then spread m f c n (goOn m f c s.hs k r).1 else none
def start (n : Nat) : Wk := (reach ⟨List.replicate n (-1), []⟩ 0 0).1
def heights (m : Mod) (f : Nat) : Option (List Int) := spread m f (fnAt m f).code (fnAt m f).code.length (start (fnAt m f).code.length)
/-! ### what is wrong -/
structure Flaw where
  fn : Int
  ins : Int
  code : Int
deriving DecidableEq
def fine : Flaw := ⟨0, 0, 0⟩
def firstBad (m : Mod) (f : Nat) : Nat → List Ins → Option Nat
  | _, [] => none
  | k, i :: r => if points m f i = true then firstBad m f (k + 1) r else some k
def checkFn (m : Mod) (f : Nat) : Flaw :=
  match firstBad m f 0 (fnAt m f).code with
  | some k => ⟨f, k, 130⟩
  | none => if (heights m f).isSome = true then fine else ⟨f, -1, 130⟩
def checkFrom (m : Mod) : Nat → Nat → Flaw
  | 0, _ => fine
  | n + 1, f => if checkFn m f = fine then checkFrom m n (f + 1) else checkFn m f
def check (m : Mod) : Flaw :=
  if err m ≠ 0 then ⟨-1, -1, 1⟩
  else if (fnAt m 0).params ≠ 3 ∨ (fnAt m 0).results ≠ 0 then ⟨0, -1, 1⟩
  else checkFrom m m.funcs.length 0
def heightsOf (m : Mod) (f : Int) : List Int := if check m = fine ∧ below f m.funcs.length = true then (heights m f.toNat).getD [] else []

/-! ### how long it takes -/
def unr : List Int → Nat
  | [] => 0
  | x :: r => (if x = -1 then 1 else 0) + unr r
theorem unr_set : ∀ (hs : List Int) (k : Nat) (h : Int), k < hs.length → hAt hs k = -1 → h ≠ -1 → unr (hs.set k h) + 1 = unr hs
  | [], k, h, hk, _, _ => by simp at hk
  | x :: r, 0, h, _, h1, h2 => by
    have e : x = -1 := h1
    subst e
    show (if h = -1 then 1 else 0) + unr r + 1 = (if (-1 : Int) = -1 then 1 else 0) + unr r
    rw [if_neg h2, if_pos rfl]
    omega
  | x :: r, k + 1, h, hk, h1, h2 => by
    have := unr_set r k h (by simpa using hk) h1 h2
    show (if x = -1 then 1 else 0) + unr (r.set k h) + 1 = (if x = -1 then 1 else 0) + unr r
    omega
theorem unr_le : ∀ hs : List Int, unr hs ≤ hs.length
  | [] => Nat.le_refl _
  | x :: r => by
    have := unr_le r
    show (if x = -1 then 1 else 0) + unr r ≤ r.length + 1
    split <;> omega
def mu (s : Wk) : Nat := unr s.hs + s.todo.length
/-- what is kept while places are reached: lengths, places, heights -/
structure Ok (n : Nat) (s : Wk) : Prop where
  len : s.hs.length = n
  todo : ∀ k ∈ s.todo, k < n ∧ 0 ≤ hAt s.hs k
  hs : ∀ k, k < n → -1 ≤ hAt s.hs k ∧ hAt s.hs k ≤ 64
theorem hAt_set {hs : List Int} {k j : Nat} {h : Int} (hk : k < hs.length) : hAt (hs.set k h) j = if j = k then h else hAt hs j := by
  unfold hAt
  rw [List.getD_eq_getElem?_getD, List.getD_eq_getElem?_getD, List.getElem?_set]
  by_cases e : k = j
  · subst e
    rw [if_pos rfl, if_pos hk, if_pos rfl, Option.getD_some]
  · rw [if_neg e, if_neg (fun x => e x.symm)]
/-- how one state comes behind another: heights that are there stay -/
def Ge (a b : List Int) : Prop := b.length = a.length ∧ ∀ k, k < a.length → 0 ≤ hAt a k → hAt b k = hAt a k
theorem Ge.refl (a : List Int) : Ge a a := ⟨rfl, fun _ _ _ => rfl⟩
theorem Ge.trans {a b c : List Int} (h : Ge a b) (g : Ge b c) : Ge a c := ⟨g.1.trans h.1, fun k hk h0 => by
  have h1 := h.2 k hk h0
  rw [g.2 k (by rw [h.1]; exact hk) (by rw [h1]; exact h0), h1]⟩
theorem reach_keeps {n : Nat} {s : Wk} (hs : Ok n s) {k : Nat} (hk : k ≤ n) {h : Int} (h0 : 0 ≤ h) (h1 : h ≤ 64) :
    Ok n (reach s k h).1 ∧ mu (reach s k h).1 = mu s ∧ Ge s.hs (reach s k h).1.hs ∧ (∀ j ∈ s.todo, j ∈ (reach s k h).1.todo) ∧ (∀ j, j < n → hAt (reach s k h).1.hs j = hAt s.hs j ∨ (j = k ∧ hAt s.hs j = -1 ∧ j ∈ (reach s k h).1.todo)) ∧ ((reach s k h).2 = true → k < n ∧ hAt (reach s k h).1.hs k = h) := by
  unfold reach
  split
  · exact ⟨hs, rfl, Ge.refl _, fun _ h => h, fun j _ => .inl rfl, fun h => by cases h⟩
  · rename_i hne
    have hkn : k < s.hs.length := by have := hs.len; omega
    split
    · rename_i hu
      refine ⟨⟨by simp [hs.len], fun j hj => ?_, fun j hj => ?_⟩, ?_, ⟨by simp, fun j hj h2 => ?_⟩, fun j hj => by simp [hj], fun j hj => ?_, fun _ => ⟨by have := hs.len; omega, by simp only; rw [hAt_set hkn, if_pos rfl]⟩⟩
      · simp only [List.mem_append, List.mem_singleton] at hj
        rw [hAt_set hkn]
        rcases hj with hj | rfl
        · have := hs.todo j hj
          refine ⟨this.1, ?_⟩
          split <;> omega
        · exact ⟨by have := hs.len; omega, by rw [if_pos rfl]; exact h0⟩
      · simp only
        rw [hAt_set hkn]
        have := hs.hs j hj
        split <;> omega
      · have := unr_set s.hs k h hkn hu (by omega)
        unfold mu
        simp
        omega
      · simp only
        rw [hAt_set hkn, if_neg]
        rintro rfl
        omega
      · simp only
        rw [hAt_set hkn]
        by_cases e : j = k
        · subst e
          exact .inr ⟨rfl, hu, by simp⟩
        · rw [if_neg e]
          exact .inl rfl
    · exact ⟨hs, rfl, Ge.refl _, fun _ h => h, fun j _ => .inl rfl, fun h => ⟨by have := hs.len; omega, of_decide_eq_true h⟩⟩
theorem reachAll_keeps {n : Nat} : ∀ (l : List Nat) (s : Wk), Ok n s → (∀ k ∈ l, k ≤ n) → ∀ {h : Int}, 0 ≤ h → h ≤ 64 →
    Ok n (reachAll s l h).1 ∧ mu (reachAll s l h).1 = mu s ∧ Ge s.hs (reachAll s l h).1.hs ∧ (∀ j ∈ s.todo, j ∈ (reachAll s l h).1.todo) ∧ (∀ j, j < n → hAt (reachAll s l h).1.hs j = hAt s.hs j ∨ (j ∈ l ∧ hAt s.hs j = -1 ∧ j ∈ (reachAll s l h).1.todo)) ∧ ((reachAll s l h).2 = true → ∀ k ∈ l, k < n ∧ hAt (reachAll s l h).1.hs k = h)
  | [], s, hs, _, h, _, _ => ⟨hs, rfl, Ge.refl _, fun _ h => h, fun _ _ => .inl rfl, fun _ k hk => by cases hk⟩
  | k :: r, s, hs, hl, h, h0, h1 => by
    obtain ⟨a1, a2, a3, a4, a5, a6⟩ := reach_keeps hs (hl k (by simp)) h0 h1
    unfold reachAll
    split
    · rename_i ht
      obtain ⟨b1, b2, b3, b4, b5, b6⟩ := reachAll_keeps r (reach s k h).1 a1 (fun j hj => hl j (by simp [hj])) h0 h1
      refine ⟨b1, b2.trans a2, a3.trans b3, fun j hj => b4 j (a4 j hj), fun j hj => ?_, fun hb j hj => ?_⟩
      · rcases b5 j hj with e | ⟨e1, e2, e3⟩
        · rcases a5 j hj with g | ⟨g1, g2, g3⟩
          · exact .inl (e.trans g)
          · exact .inr ⟨by simp [g1], g2, b4 j g3⟩
        · rcases a5 j hj with g | ⟨g1, g2, g3⟩
          · exact .inr ⟨by simp [e1], by rw [← g]; exact e2, e3⟩
          · exact .inr ⟨by simp [g1], g2, e3⟩
      · rcases List.mem_cons.1 hj with rfl | hj
        · obtain ⟨g1, g2⟩ := a6 ht
          refine ⟨g1, ?_⟩
          rw [b3.2 j (by rw [a1.len]; exact g1) (by rw [g2]; exact h0), g2]
        · exact b6 hb j hj
    · exact ⟨a1, a2, a3, a4, fun j hj => (a5 j hj).imp id fun ⟨g1, g2, g3⟩ => ⟨by simp [g1], g2, g3⟩, fun h => by cases h⟩
/-! ### functions whose instructions' numbers are right -/
structure Pt (m : Mod) (f : Nat) : Prop where
  fns : ∀ g ∈ m.funcs, 0 ≤ g.params ∧ 0 ≤ g.results ∧ g.results ≤ 1
  lt : f < m.funcs.length
  pts : ∀ i ∈ (fnAt m f).code, points m f i = true
theorem effect_nn {m : Mod} (hm : ∀ g ∈ m.funcs, 0 ≤ g.params ∧ 0 ≤ g.results ∧ g.results ≤ 1) (f : Int) (i : Ins) : 0 ≤ (effect m f i).1 ∧ 0 ≤ (effect m f i).2.1 := by
  have hf : ∀ k, 0 ≤ (fnAt m k).params ∧ 0 ≤ (fnAt m k).results := fun k => by
    by_cases hk : k < m.funcs.length
    · rw [fnAt_lt hk]
      have := hm _ (List.getElem_mem hk)
      omega
    · unfold fnAt
      rw [List.getD_eq_getElem?_getD, List.getElem?_eq_none (by omega), Option.getD_none]
      exact ⟨by decide, by decide⟩
  unfold effect
  split
  · split
    · unfold callEff
      split
      · exact hf _
      · exact ⟨by decide, by decide⟩
    · split
      · exact ⟨(hf _).2, Int.le_refl 0⟩
      · split
        · unfold hostEff
          split
          · rename_i h
            obtain ⟨h0, h1⟩ := below_iff.1 h
            refine ⟨?_, show (0 : Int) ≤ 1 by decide⟩
            have : i.n.toNat < 12 := by omega
            have key : ∀ k : Nat, k < 12 → 0 ≤ hostT.getD k 0 := by decide
            exact key _ this
          · exact ⟨by decide, by decide⟩
        · unfold plain
          repeat' split
          all_goals exact ⟨by decide, by decide⟩
  · exact ⟨by decide, by decide⟩
theorem behind_ok {m : Mod} (hm : ∀ g ∈ m.funcs, 0 ≤ g.params ∧ 0 ≤ g.results ∧ g.results ≤ 1) {f : Nat} {i : Ins} {h : Int} (hb : (behind m f i h).2 = true) :
    0 ≤ (behind m f i h).1 ∧ (behind m f i h).1 ≤ 64 ∧ (behind m f i h).1 = h - (effect m f i).1 + (effect m f i).2.1 ∧ (effect m f i).1 ≤ h ∧ (i.op = 27 → h = (effect m f i).1) := by
  have := effect_nn hm f i
  unfold behind at hb ⊢
  split at hb
  · cases hb
  · rename_i hx
    rw [if_neg hx]
    refine ⟨?_, ?_, rfl, ?_, fun h27 => ?_⟩ <;> (try simp only) <;> omega
theorem next_le {m : Mod} {f : Nat} {i : Ins} {k n : Nat} (hn : n = (fnAt m f).code.length) (hk : k < n) (hp : points m f i = true) : ∀ j ∈ next i k, j ≤ n := by
  intro j hj
  unfold next at hj
  unfold points at hp
  split at hj
  · rename_i h24
    rw [if_neg (by omega), if_pos (by omega)] at hp
    have := below_iff.1 hp
    simp at hj
    omega
  · split at hj
    · rename_i h25
      rw [if_neg (by omega), if_pos (by omega)] at hp
      have := below_iff.1 hp
      simp at hj
      omega
    · split at hj
      · simp at hj
      · simp at hj
        omega
/-- a place that is gone on from -/
theorem goOn_keeps {m : Mod} {f : Nat} (hp : Pt m f) {hs : List Int} {k : Nat} {r : List Nat} (h : Ok (fnAt m f).code.length ⟨hs, k :: r⟩) :
    Ok (fnAt m f).code.length (goOn m f (fnAt m f).code hs k r).1 ∧ mu (goOn m f (fnAt m f).code hs k r).1 + 1 = mu ⟨hs, k :: r⟩ ∧ Ge hs (goOn m f (fnAt m f).code hs k r).1.hs ∧ (∀ j ∈ r, j ∈ (goOn m f (fnAt m f).code hs k r).1.todo) ∧
    (∀ j, j < (fnAt m f).code.length → hAt (goOn m f (fnAt m f).code hs k r).1.hs j = hAt hs j ∨ (j ∈ next (insAt (fnAt m f).code k) k ∧ hAt hs j = -1 ∧ j ∈ (goOn m f (fnAt m f).code hs k r).1.todo)) ∧
    ((goOn m f (fnAt m f).code hs k r).2 = true → (behind m f (insAt (fnAt m f).code k) (hAt hs k)).2 = true ∧ ∀ j ∈ next (insAt (fnAt m f).code k) k, j < (fnAt m f).code.length ∧ hAt (goOn m f (fnAt m f).code hs k r).1.hs j = (behind m f (insAt (fnAt m f).code k) (hAt hs k)).1) := by
  have hr : Ok (fnAt m f).code.length ⟨hs, r⟩ := ⟨h.len, fun j hj => h.todo j (by simp [hj]), h.hs⟩
  have hk := (h.todo k (by simp)).1
  have hmu : mu ⟨hs, k :: r⟩ = mu ⟨hs, r⟩ + 1 := by unfold mu; simp; omega
  unfold goOn
  split
  · rename_i hb
    have hbo := behind_ok hp.fns hb
    have hi : points m f (insAt (fnAt m f).code k) = true := by rw [insAt_lt hk]; exact hp.pts _ (List.getElem_mem hk)
    obtain ⟨b1, b2, b3, b4, b5, b6⟩ := reachAll_keeps (next (insAt (fnAt m f).code k) k) ⟨hs, r⟩ hr (next_le rfl hk hi) hbo.1 hbo.2.1
    exact ⟨b1, by rw [b2, hmu], b3, b4, b5, fun ht => ⟨hb, b6 ht⟩⟩
  · exact ⟨hr, by rw [hmu], Ge.refl _, fun _ h => h, fun _ _ => .inl rfl, fun h => by cases h⟩
theorem hAt_rep {n k : Nat} (h : k < n) (x : Int) : hAt (List.replicate n x) k = x := by
  rw [hAt_lt (by simpa using h)]
  simp
theorem unr_rep : ∀ n, unr (List.replicate n (-1)) = n
  | 0 => rfl
  | n + 1 => by
    show (if (-1 : Int) = -1 then 1 else 0) + unr (List.replicate n (-1)) = n + 1
    rw [unr_rep n, if_pos rfl]
    omega
theorem start_ok {n : Nat} (h : 0 < n) : Ok n (start n) ∧ mu (start n) = n ∧ hAt (start n).hs 0 = 0 := by
  have h0 : Ok n ⟨List.replicate n (-1), []⟩ := ⟨by simp, (fun k hk => by cases hk), (fun k hk => by show -1 ≤ hAt (List.replicate n (-1)) k ∧ hAt (List.replicate n (-1)) k ≤ 64; rw [hAt_rep hk]; omega)⟩
  obtain ⟨a1, a2, -, -, -, -⟩ := reach_keeps h0 (Nat.zero_le n) (Int.le_refl 0) (by decide : (0 : Int) ≤ 64)
  refine ⟨a1, by unfold start; rw [a2]; unfold mu; simp [unr_rep], ?_⟩
  unfold start reach
  simp only [List.length_replicate]
  rw [if_neg (by omega), if_pos (hAt_rep h _)]
  simp only
  rw [hAt_set (by simpa using h), if_pos rfl]
end ck
end Go.Proofs.YtbmcmcdgdhabaaaDoor
