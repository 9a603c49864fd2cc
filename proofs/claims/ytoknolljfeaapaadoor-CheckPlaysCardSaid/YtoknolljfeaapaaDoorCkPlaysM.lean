/- CheckPlays on lists: heights that spread until nothing changes are the heights. -/
import Derived.Test.YtoknolljfeaapaaDoorCkFit
namespace Go.Proofs.YtoknolljfeaapaaDoor
namespace ck
open md
/-- what holds of the document's heights at any time -/
structure RI (m : Mod) (f : Nat) (c : List Ins) (hs : List Int) : Prop where
  len : hs.length = c.length
  zero : hAt hs 0 = 0
  rng : ∀ k, k < c.length → -1 ≤ hAt hs k ∧ hAt hs k ≤ 64
  least : ∀ hs', Fit m f c hs' → Le hs hs'
theorem RI.start {m : Mod} {f : Nat} {c : List Ins} (hn : 0 < c.length) : RI m f c (0 :: List.replicate (c.length - 1) (-1)) := by
  have key : ∀ k, k < c.length → hAt (0 :: List.replicate (c.length - 1) (-1)) k = if k = 0 then 0 else -1 := fun k hk => by
    cases k with
    | zero => rfl
    | succ k =>
      rw [if_neg (by omega)]
      show hAt (List.replicate (c.length - 1) (-1)) k = -1
      exact hAt_rep (by omega) _
  refine ⟨by simp; omega, rfl, fun k hk => ?_, fun hs' hf k hk h0 => ?_⟩
  · rw [key k hk]
    split <;> omega
  · have hk' : k < c.length := by simp at hk; omega
    rw [key k hk'] at h0 ⊢
    by_cases e : k = 0
    · subst e
      rw [if_pos rfl]
      exact hf.zero
    · rw [if_neg e] at h0
      omega
theorem RI.fail1 {m : Mod} {f : Nat} {c : List Ins} {hs : List Int} (h : RI m f c hs) {k : Nat} (hk : k < c.length) (h0 : 0 ≤ hAt hs k) (hb : (behind m f (insAt c k) (hAt hs k)).2 = false) : ∀ hs', ¬ Fit m f c hs' := fun hs' hf => by
  have e := h.least hs' hf k (by rw [h.len]; exact hk) h0
  have d := (hf.done k hk (by omega)).1
  rw [e, hb] at d
  cases d
theorem RI.fail2 {m : Mod} {f : Nat} {c : List Ins} {hs : List Int} (h : RI m f c hs) {k to : Nat} (hk : k < c.length) (h0 : 0 ≤ hAt hs k) (hto : to ∈ next (insAt c k) k)
    (hx : c.length ≤ to ∨ (to < c.length ∧ 0 ≤ hAt hs to ∧ hAt hs to ≠ (behind m f (insAt c k) (hAt hs k)).1)) : ∀ hs', ¬ Fit m f c hs' := fun hs' hf => by
  have e := h.least hs' hf k (by rw [h.len]; exact hk) h0
  obtain ⟨d1, d2⟩ := (hf.done k hk (by omega)).2 to hto
  rw [e] at d2
  rcases hx with hx | ⟨hx1, hx2, hx3⟩
  · omega
  · have := h.least hs' hf to (by rw [h.len]; exact hx1) hx2
    omega
theorem RI.put {m : Mod} {f : Nat} {c : List Ins} {hs : List Int} (hp : ∀ g ∈ m.funcs, 0 ≤ g.params ∧ 0 ≤ g.results ∧ g.results ≤ 1) (h : RI m f c hs) {k to : Nat} (hk : k < c.length) (h0 : 0 ≤ hAt hs k) (hb : (behind m f (insAt c k) (hAt hs k)).2 = true) (hto : to ∈ next (insAt c k) k)
    (hlt : to < c.length) (hu : hAt hs to < 0) : RI m f c (hs.set to (behind m f (insAt c k) (hAt hs k)).1) ∧ unr (hs.set to (behind m f (insAt c k) (hAt hs k)).1) + 1 = unr hs ∧ ∀ j, hAt (hs.set to (behind m f (insAt c k) (hAt hs k)).1) j = if j = to then (behind m f (insAt c k) (hAt hs k)).1 else hAt hs j := by
  have hl := h.len
  have hbo := behind_ok hp hb
  have hr := h.rng to hlt
  have hst : ∀ j, hAt (hs.set to (behind m f (insAt c k) (hAt hs k)).1) j = if j = to then (behind m f (insAt c k) (hAt hs k)).1 else hAt hs j := fun j => hAt_set (by omega)
  refine ⟨⟨by simpa using hl, ?_, fun j hj => ?_, fun hs' hf j hj hj0 => ?_⟩, unr_set hs to _ (by omega) (by omega) (by omega), hst⟩
  · rw [hst]
    have := h.zero
    split
    · rename_i e
      subst e
      omega
    · exact this
  · rw [hst]
    have := h.rng j hj
    split <;> omega
  · rw [hst] at hj0 ⊢
    by_cases e : j = to
    · subst e
      rw [if_pos rfl]
      have e := h.least hs' hf k (by omega) h0
      have d := ((hf.done k hk (by omega)).2 j hto).2
      rw [d, e]
    · rw [if_neg e] at hj0 ⊢
      exact h.least hs' hf j (by simpa using hj) hj0
theorem RI.fit {m : Mod} {f : Nat} {c : List Ins} {hs : List Int} (h : RI m f c hs) (hd : ∀ k, k < c.length → 0 ≤ hAt hs k → Done m f c hs k) : Fit m f c hs := ⟨h.len, h.zero, h.rng, hd⟩
theorem Le.eq {a b : List Int} (hl : a.length = b.length) (ha : ∀ k, k < a.length → -1 ≤ hAt a k) (hb : ∀ k, k < a.length → -1 ≤ hAt b k) (h1 : Le a b) (h2 : Le b a) : a = b := by
  refine List.ext_getElem hl fun k h3 h4 => ?_
  rw [← hAt_lt h3, ← hAt_lt h4]
  have := ha k h3
  have := hb k h3
  by_cases h0 : 0 ≤ hAt a k
  · exact (h1 k h3 h0).symm
  · by_cases h0' : 0 ≤ hAt b k
    · exact h2 k h4 h0'
    · omega
theorem ref_some {m : Mod} {f : Nat} (hp : Pt m f) (hn : 0 < (fnAt m f).code.length) {hs : List Int} (hf : Fit m f (fnAt m f).code hs) (hl : ∀ hs', Fit m f (fnAt m f).code hs' → Le hs hs') : heights m f = some hs := by
  obtain ⟨hs2, h1, h2⟩ := heights_least hp hn hf
  have hf2 := heights_fit hp hn h1
  have e : hs2 = hs := Le.eq (by rw [hf2.len, hf.len]) (fun k hk => (hf2.rng k (by rw [← hf2.len]; exact hk)).1) (fun k hk => (hf.rng k (by rw [← hf2.len]; exact hk)).1) h2 (hl hs2 hf2)
  rw [h1, e]
theorem ref_none {m : Mod} {f : Nat} (hp : Pt m f) (hn : 0 < (fnAt m f).code.length) (hx : ∀ hs', ¬ Fit m f (fnAt m f).code hs') : heights m f = none := by
  cases h : heights m f with
  | none => rfl
  | some hs => exact absurd (heights_fit hp hn h) (hx hs)
end ck
end Go.Proofs.YtoknolljfeaapaaDoor
