/- Heights that fit: what spreads from 0 is the least of them (lists, without Go). -/
import Derived.Test.YtoknolljfeaapaaDoorCkMath
namespace Go.Proofs.YtoknolljfeaapaaDoor
namespace ck
open md
/-- a place is gone on from, and what comes behind it is so high -/
def Done (m : Mod) (f : Nat) (c : List Ins) (hs : List Int) (k : Nat) : Prop :=
  (behind m f (insAt c k) (hAt hs k)).2 = true ∧ ∀ j ∈ next (insAt c k) k, j < c.length ∧ hAt hs j = (behind m f (insAt c k) (hAt hs k)).1
/-- heights that fit -/
structure Fit (m : Mod) (f : Nat) (c : List Ins) (hs : List Int) : Prop where
  len : hs.length = c.length
  zero : hAt hs 0 = 0
  rng : ∀ k, k < c.length → -1 ≤ hAt hs k ∧ hAt hs k ≤ 64
  done : ∀ k, k < c.length → 0 ≤ hAt hs k → Done m f c hs k
/-- no higher than: what is reached there is reached here, as high -/
def Le (a b : List Int) : Prop := ∀ k, k < a.length → 0 ≤ hAt a k → hAt b k = hAt a k
theorem Done.ge {m : Mod} {f : Nat} {c : List Ins} {a b : List Int} (h : Ge a b) (ha : a.length = c.length) {k : Nat} (hk : k < c.length) (h0 : 0 ≤ hAt a k) (hb0 : ∀ j ∈ next (insAt c k) k, 0 ≤ (behind m f (insAt c k) (hAt a k)).1) (hd : Done m f c a k) : Done m f c b k := by
  have e := h.2 k (by rw [ha]; exact hk) h0
  unfold Done at hd ⊢
  rw [e]
  refine ⟨hd.1, fun j hj => ⟨(hd.2 j hj).1, ?_⟩⟩
  have h2 := (hd.2 j hj).2
  have h3 := hb0 j hj
  rw [h.2 j (by rw [ha]; exact (hd.2 j hj).1) (by rw [h2]; exact h3), h2]
structure SInv (m : Mod) (f : Nat) (s : Wk) : Prop where
  ok : Ok (fnAt m f).code.length s
  zero : hAt s.hs 0 = 0
  done : ∀ k, k < (fnAt m f).code.length → 0 ≤ hAt s.hs k → k ∈ s.todo ∨ Done m f (fnAt m f).code s.hs k
theorem SInv.step {m : Mod} {f : Nat} (hp : Pt m f) (hn : 0 < (fnAt m f).code.length) {hs : List Int} {k : Nat} {r : List Nat} (h : SInv m f ⟨hs, k :: r⟩) (ht : (goOn m f (fnAt m f).code hs k r).2 = true) : SInv m f (goOn m f (fnAt m f).code hs k r).1 := by
  obtain ⟨g1, g2, g3, g4, g5, g6⟩ := goOn_keeps hp h.ok
  obtain ⟨g7, g8⟩ := g6 ht
  have hlen := h.ok.len
  simp only at hlen
  have hz := h.zero
  simp only at hz
  have hk := h.ok.todo k (by simp)
  simp only at hk
  refine ⟨g1, ?_, fun j hj h0 => ?_⟩
  · rw [g3.2 0 (by omega) (by rw [hz]; exact Int.le_refl 0), hz]
  · by_cases ejk : j = k
    · subst ejk
      right
      have e := g3.2 j (by omega) hk.2
      unfold Done
      rw [e]
      exact ⟨g7, g8⟩
    · rcases g5 j hj with e | ⟨-, -, e⟩
      · rw [e] at h0
        rcases h.done j hj h0 with hd | hd
        · rcases List.mem_cons.1 hd with hd | hd
          · exact absurd hd ejk
          · exact .inl (g4 j hd)
        · right
          refine Done.ge g3 hlen hj h0 (fun i hi => ?_) hd
          exact (behind_ok hp.fns hd.1).1
      · exact .inl e
theorem SInv.start {m : Mod} {f : Nat} (hn : 0 < (fnAt m f).code.length) : SInv m f (start (fnAt m f).code.length) := by
  obtain ⟨h1, -, h3⟩ := start_ok hn
  refine ⟨h1, h3, fun k hk h0 => ?_⟩
  left
  unfold ck.start reach at h0 ⊢
  simp only [List.length_replicate] at h0 ⊢
  rw [if_neg (by omega), if_pos (hAt_rep hn _)] at h0 ⊢
  simp only at h0 ⊢
  rw [hAt_set (by simpa using hn)] at h0
  by_cases e : k = 0
  · subst e; simp
  · rw [if_neg e, hAt_rep hk] at h0
    omega
theorem spread_fit {m : Mod} {f : Nat} (hp : Pt m f) (hn : 0 < (fnAt m f).code.length) : ∀ (N : Nat) (s : Wk), SInv m f s → mu s ≤ N → ∀ hs, spread m f (fnAt m f).code N s = some hs → Fit m f (fnAt m f).code hs
  | 0, ⟨hs0, todo⟩, hi, hmu, hs, h => by
    obtain rfl : hs0 = hs := Option.some.inj h
    obtain rfl : todo = [] := by
      unfold mu at hmu
      simp only at hmu
      exact List.eq_nil_of_length_eq_zero (by omega)
    refine ⟨hi.ok.len, hi.zero, hi.ok.hs, fun k hk h0 => (hi.done k hk h0).resolve_left (by simp)⟩
  | N + 1, ⟨hs0, []⟩, hi, _, hs, h => by
    obtain rfl : hs0 = hs := Option.some.inj h
    exact ⟨hi.ok.len, hi.zero, hi.ok.hs, fun k hk h0 => (hi.done k hk h0).resolve_left (by simp)⟩
  | N + 1, ⟨hs0, k :: r⟩, hi, hmu, hs, h => by
    have h2 : (if (goOn m f (fnAt m f).code hs0 k r).2 = true then spread m f (fnAt m f).code N (goOn m f (fnAt m f).code hs0 k r).1 else none) = some hs := h
    by_cases ht : (goOn m f (fnAt m f).code hs0 k r).2 = true
    · rw [if_pos ht] at h2
      have g2 := (goOn_keeps hp hi.ok).2.1
      exact spread_fit hp hn N _ (hi.step hp hn ht) (by omega) hs h2
    · rw [if_neg ht] at h2
      cases h2
theorem heights_fit {m : Mod} {f : Nat} (hp : Pt m f) (hn : 0 < (fnAt m f).code.length) {hs : List Int} (h : heights m f = some hs) : Fit m f (fnAt m f).code hs :=
  spread_fit hp hn _ _ (SInv.start hn) (by rw [(start_ok hn).2.1]; exact Nat.le_refl _) hs h
/-! ### where heights fit, spreading ends well, no higher -/
theorem reachAll_fits {hs' : List Int} {n : Nat} (hl' : hs'.length = n) : ∀ (l : List Nat) (s : Wk), s.hs.length = n → Le s.hs hs' → ∀ {h : Int}, 0 ≤ h → (∀ k ∈ l, k < n ∧ hAt hs' k = h) → (∀ k, k < n → -1 ≤ hAt s.hs k) →
    (reachAll s l h).2 = true ∧ Le (reachAll s l h).1.hs hs' ∧ (reachAll s l h).1.hs.length = n ∧ ∀ k, k < n → -1 ≤ hAt (reachAll s l h).1.hs k
  | [], s, hl, hle, h, _, _, hm => ⟨rfl, hle, hl, hm⟩
  | k :: r, s, hl, hle, h, h0, hk, hm => by
    obtain ⟨hkn, hkh⟩ := hk k (by simp)
    have hr : (reach s k h).2 = true ∧ Le (reach s k h).1.hs hs' ∧ (reach s k h).1.hs.length = n ∧ ∀ j, j < n → -1 ≤ hAt (reach s k h).1.hs j := by
      unfold reach
      rw [if_neg (by omega)]
      by_cases hu : hAt s.hs k = -1
      · rw [if_pos hu]
        refine ⟨rfl, fun j hj hj0 => ?_, by simpa using hl, fun j hj => ?_⟩
        · simp only at hj hj0 ⊢
          rw [hAt_set (by omega)] at hj0 ⊢
          by_cases e : j = k
          · subst e
            rw [if_pos rfl]
            exact hkh
          · rw [if_neg e] at hj0 ⊢
            exact hle j (by simpa using hj) hj0
        · simp only
          rw [hAt_set (by omega)]
          have := hm j hj
          split <;> omega
      · rw [if_neg hu]
        have h1 := hm k hkn
        have h2 := hle k (by omega) (by omega)
        exact ⟨decide_eq_true (by omega), hle, hl, hm⟩
    unfold reachAll
    rw [if_pos hr.1]
    exact reachAll_fits hl' r (reach s k h).1 hr.2.2.1 hr.2.1 h0 (fun j hj => hk j (by simp [hj])) hr.2.2.2
theorem spread_least {m : Mod} {f : Nat} (hp : Pt m f) {hs' : List Int} (hf : Fit m f (fnAt m f).code hs') : ∀ (N : Nat) (s : Wk), Ok (fnAt m f).code.length s → Le s.hs hs' → mu s ≤ N → ∃ hs, spread m f (fnAt m f).code N s = some hs ∧ Le hs hs'
  | 0, s, _, hle, _ => ⟨s.hs, rfl, hle⟩
  | N + 1, ⟨hs0, []⟩, _, hle, _ => ⟨hs0, rfl, hle⟩
  | N + 1, ⟨hs0, k :: r⟩, hok, hle, hmu => by
    have hk := hok.todo k (by simp)
    simp only at hk
    have hlen := hok.len
    simp only at hlen
    have e := hle k (by simp only; omega) hk.2
    simp only at e
    obtain ⟨hd1, hd2⟩ := hf.done k hk.1 (by rw [e]; exact hk.2)
    rw [e] at hd1 hd2
    have hbo := behind_ok hp.fns hd1
    have hg : (goOn m f (fnAt m f).code hs0 k r).2 = true ∧ Le (goOn m f (fnAt m f).code hs0 k r).1.hs hs' := by
      unfold goOn
      rw [if_pos hd1]
      obtain ⟨a1, a2, -, -⟩ := reachAll_fits hf.len (next (insAt (fnAt m f).code k) k) ⟨hs0, r⟩ hlen hle hbo.1 hd2 (fun j hj => (hok.hs j hj).1)
      exact ⟨a1, a2⟩
    obtain ⟨g1, g2, -⟩ := goOn_keeps hp hok
    obtain ⟨hs, h1, h2⟩ := spread_least hp hf N _ g1 hg.2 (by omega)
    refine ⟨hs, ?_, h2⟩
    show (if (goOn m f (fnAt m f).code hs0 k r).2 = true then spread m f (fnAt m f).code N (goOn m f (fnAt m f).code hs0 k r).1 else none) = some hs
    rw [if_pos hg.1]
    exact h1
/-- heights that fit: then a function has heights, no higher -/
theorem heights_least {m : Mod} {f : Nat} (hp : Pt m f) (hn : 0 < (fnAt m f).code.length) {hs' : List Int} (hf : Fit m f (fnAt m f).code hs') : ∃ hs, heights m f = some hs ∧ Le hs hs' := by
  obtain ⟨h1, h2, h3⟩ := start_ok hn
  refine spread_least hp hf _ _ h1 (fun k hk h0 => ?_) (by rw [h2]; exact Nat.le_refl _)
  rw [h1.len] at hk
  unfold ck.start reach at h0 ⊢
  simp only [List.length_replicate] at h0 ⊢
  rw [if_neg (by omega), if_pos (hAt_rep hn _)] at h0 ⊢
  simp only at h0 ⊢
  rw [hAt_set (by simpa using hn)] at h0 ⊢
  by_cases e : k = 0
  · subst e
    rw [if_pos rfl]
    exact hf.zero
  · rw [if_neg e, hAt_rep hk] at h0
    omega
end ck
end Go.Proofs.YtoknolljfeaapaaDoor
