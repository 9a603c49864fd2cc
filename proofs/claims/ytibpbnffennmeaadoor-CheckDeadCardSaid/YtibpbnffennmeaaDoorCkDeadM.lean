/- Instructions behind a function that aren't reached (lists, without Go). -/
import Derived.Test.YtibpbnffennmeaaDoorCkChkM
import Derived.Test.YtibpbnffennmeaaDoorCkFit
namespace Go.Proofs.YtibpbnffennmeaaDoor
namespace ck
open md
def dead (m : Mod) (f : Nat) (x : List Ins) : Mod := { m with funcs := m.funcs.set f { fnAt m f with code := (fnAt m f).code ++ x } }
/-- an instruction that may stand behind any function -/
def calm (i : Ins) : Prop := i.op ≠ 5 ∧ i.op ≠ 6 ∧ i.op ≠ 24 ∧ i.op ≠ 25 ∧ i.op ≠ 26 ∧ i.op ≠ 28
theorem dead_len (m : Mod) (f : Nat) (x : List Ins) : (dead m f x).funcs.length = m.funcs.length := by unfold dead; simp
theorem dead_at {m : Mod} {f : Nat} (hf : f < m.funcs.length) (x : List Ins) (g : Nat) : fnAt (dead m f x) g = if f = g then { fnAt m f with code := (fnAt m f).code ++ x } else fnAt m g := by
  unfold dead
  show (m.funcs.set f _).getD g noFn = _
  rw [List.getD_eq_getElem?_getD, List.getElem?_set]
  by_cases e : f = g
  · subst e
    rw [if_pos rfl, if_pos hf, if_pos rfl, Option.getD_some]
  · rw [if_neg e, if_neg e]
    unfold fnAt
    rw [List.getD_eq_getElem?_getD]
theorem dead_sig {m : Mod} {f : Nat} (hf : f < m.funcs.length) (x : List Ins) (g : Nat) : (fnAt (dead m f x) g).params = (fnAt m g).params ∧ (fnAt (dead m f x) g).results = (fnAt m g).results ∧ (fnAt (dead m f x) g).locals = (fnAt m g).locals ∧ (fnAt m g).code.length ≤ (fnAt (dead m f x) g).code.length := by
  rw [dead_at hf]
  by_cases e : f = g
  · subst e
    rw [if_pos rfl]
    exact ⟨rfl, rfl, rfl, by simp only [List.length_append]; omega⟩
  · rw [if_neg e]
    exact ⟨rfl, rfl, rfl, Nat.le_refl _⟩
theorem dead_effect {m : Mod} {f : Nat} (hf : f < m.funcs.length) (x : List Ins) (g : Int) (i : Ins) : effect (dead m f x) g i = effect m g i := by
  unfold effect callEff
  rw [dead_len, (dead_sig hf x _).1, (dead_sig hf x _).2.1, (dead_sig hf x _).2.1]
theorem dead_behind {m : Mod} {f : Nat} (hf : f < m.funcs.length) (x : List Ins) (g : Nat) (i : Ins) (h : Int) : behind (dead m f x) g i h = behind m g i h := by
  unfold behind
  rw [dead_effect hf]
theorem dead_points {m : Mod} {f : Nat} (hf : f < m.funcs.length) (x : List Ins) (g : Nat) (i : Ins) (h : points m g i = true) : points (dead m f x) g i = true := by
  obtain ⟨h1, h2, h3, h4⟩ := dead_sig hf x g
  unfold points at h ⊢
  rw [dead_len, h1, h3]
  split at h
  · rename_i c; rw [if_pos c]; exact h
  · rename_i c; rw [if_neg c]
    split at h
    · rename_i c; rw [if_pos c]
      have := below_iff.1 h
      exact below_iff.2 ⟨this.1, by omega⟩
    · rename_i c; rw [if_neg c]; exact h
theorem calm_points {m : Mod} {f : Nat} {i : Ins} (h : calm i) : points m f i = true := by
  obtain ⟨h1, h2, h3, h4, h5, h6⟩ := h
  unfold points
  rw [if_neg (by omega), if_neg (by omega), if_neg h5, if_neg h6]
theorem dead_pt {m : Mod} {f : Nat} (hf : f < m.funcs.length) {x : List Ins} (hx : ∀ i ∈ x, calm i) (hl : Lim (dead m f x)) {g : Nat} (hp : Pt m g) : Pt (dead m f x) g := by
  refine ⟨hl.pt, by rw [dead_len]; exact hp.lt, fun i hi => ?_⟩
  rw [dead_at hf] at hi
  by_cases e : f = g
  · subst e
    rw [if_pos rfl] at hi
    rcases List.mem_append.1 hi with hi | hi
    · exact dead_points hf x f i (hp.pts i hi)
    · exact calm_points (hx i hi)
  · rw [if_neg e] at hi
    exact dead_points hf x g i (hp.pts i hi)
theorem insAt_app {c x : List Ins} {k : Nat} (h : k < c.length) : insAt (c ++ x) k = insAt c k := by
  unfold insAt
  rw [List.getD_eq_getElem?_getD, List.getD_eq_getElem?_getD, List.getElem?_append_left h]
theorem hAt_app {c x : List Int} {k : Nat} (h : k < c.length) : hAt (c ++ x) k = hAt c k := by
  unfold hAt
  rw [List.getD_eq_getElem?_getD, List.getD_eq_getElem?_getD, List.getElem?_append_left h]
theorem hAt_more {c : List Int} {n k : Nat} (h : c.length ≤ k) (hk : k < c.length + n) : hAt (c ++ List.replicate n (-1)) k = -1 := by
  have e : hAt (c ++ List.replicate n (-1)) k = hAt (List.replicate n (-1)) (k - c.length) := by
    unfold hAt
    rw [List.getD_eq_getElem?_getD, List.getD_eq_getElem?_getD, List.getElem?_append_right h]
  rw [e, hAt_rep (by omega)]
theorem hAt_take {c : List Int} {n k : Nat} (h : k < n) : hAt (c.take n) k = hAt c k := by
  unfold hAt
  rw [List.getD_eq_getElem?_getD, List.getD_eq_getElem?_getD, List.getElem?_take_of_lt h]
theorem Fit.dead_same {m : Mod} {f : Nat} (hf : f < m.funcs.length) (x : List Ins) {g : Nat} {c : List Ins} {hs : List Int} (h : Fit m g c hs) : Fit (dead m f x) g c hs :=
  ⟨h.len, h.zero, h.rng, fun k hk h0 => by
    have := h.done k hk h0
    unfold Done at this ⊢
    rw [dead_behind hf]
    exact this⟩
theorem Fit.dead_more {m : Mod} {f : Nat} (hf : f < m.funcs.length) (x : List Ins) {c : List Ins} {hs : List Int} (hn : 0 < c.length) (h : Fit m f c hs) : Fit (dead m f x) f (c ++ x) (hs ++ List.replicate x.length (-1)) := by
  have hl := h.len
  refine ⟨by simp [hl], by rw [hAt_app (by omega)]; exact h.zero, fun k hk => ?_, fun k hk h0 => ?_⟩
  · rw [List.length_append] at hk
    by_cases hkc : k < c.length
    · rw [hAt_app (by omega)]
      exact h.rng k hkc
    · rw [hAt_more (by omega) (by omega)]
      omega
  · rw [List.length_append] at hk
    by_cases hkc : k < c.length
    · rw [hAt_app (by omega)] at h0
      obtain ⟨d1, d2⟩ := h.done k hkc h0
      unfold Done
      rw [dead_behind hf, insAt_app hkc, hAt_app (by omega)]
      refine ⟨d1, fun j hj => ?_⟩
      obtain ⟨e1, e2⟩ := d2 j hj
      rw [hAt_app (by omega), List.length_append]
      exact ⟨by omega, e2⟩
    · rw [hAt_more (by omega) (by omega)] at h0
      omega
theorem hAt_ext {a b : List Int} (hl : a.length = b.length) (h : ∀ k, k < a.length → hAt a k = hAt b k) : a = b := by
  refine List.ext_getElem hl fun k h1 h2 => ?_
  have := h k h1
  rw [hAt_lt h1, hAt_lt h2] at this
  exact this
theorem dead_heights {m : Mod} {f : Nat} {x : List Ins} (hp : Pt m f) (hp' : Pt (dead m f x) f) (hn : 0 < (fnAt m f).code.length) {hs : List Int} (h : heights m f = some hs) : heights (dead m f x) f = some (hs ++ List.replicate x.length (-1)) := by
  have hF := heights_fit hp hn h
  have hc : (fnAt (dead m f x) f).code = (fnAt m f).code ++ x := by rw [dead_at hp.lt, if_pos rfl]
  have hn' : 0 < (fnAt (dead m f x) f).code.length := by rw [hc, List.length_append]; omega
  have hF2 := hF.dead_more hp.lt x hn
  obtain ⟨hs', e1, e2⟩ := heights_least hp' hn' (by rw [hc]; exact hF2)
  have hF3 := heights_fit hp' hn' e1
  rw [hc] at hF3
  have hl := hF.len
  have hl2 := hF2.len
  have hl3 := hF3.len
  rw [List.length_append] at hl2 hl3
  have hT : Fit m f (fnAt m f).code (hs'.take (fnAt m f).code.length) := by
    refine ⟨by rw [List.length_take]; omega, by rw [hAt_take hn]; exact hF3.zero, fun k hk => ?_, fun k hk h0 => ?_⟩
    · rw [hAt_take hk]
      exact hF3.rng k (by rw [List.length_append]; omega)
    · rw [hAt_take hk] at h0
      have a1 := e2 k (by omega) h0
      rw [hAt_app (by omega)] at a1
      obtain ⟨b1, b2⟩ := hF.done k hk (by omega)
      obtain ⟨-, c2⟩ := hF3.done k (by rw [List.length_append]; omega) h0
      rw [dead_behind hp.lt, insAt_app hk] at c2
      unfold Done
      rw [hAt_take hk, ← a1]
      refine ⟨b1, fun j hj => ⟨(b2 j hj).1, ?_⟩⟩
      rw [hAt_take (b2 j hj).1, a1]
      exact (c2 j hj).2
  obtain ⟨hs2, g1, g2⟩ := heights_least hp hn hT
  obtain rfl : hs2 = hs := Option.some.inj (g1.symm.trans h)
  rw [e1]
  congr 1
  refine hAt_ext (by rw [hl3, List.length_append, List.length_replicate]; omega) fun k hk => ?_
  have hr := hF3.rng k (by rw [List.length_append]; omega)
  by_cases h0 : 0 ≤ hAt hs' k
  · exact (e2 k hk h0).symm
  · by_cases hkc : k < (fnAt m f).code.length
    · rw [hAt_app (by omega)]
      have hr2 := hF.rng k hkc
      by_cases h1 : 0 ≤ hAt hs2 k
      · have := g2 k (by omega) h1
        rw [hAt_take hkc] at this
        omega
      · omega
    · rw [hAt_more (by omega) (by omega)]
      omega
theorem firstBad_all {m : Mod} {f : Nat} : ∀ (c : List Ins) (k : Nat), (∀ i ∈ c, points m f i = true) → firstBad m f k c = none
  | [], _, _ => rfl
  | i :: r, k, h => by
    unfold firstBad
    rw [if_pos (h i (by simp))]
    exact firstBad_all r (k + 1) fun j hj => h j (by simp [hj])
theorem dead_fine {m : Mod} {f : Nat} {x : List Ins} (hc : check m = fine) (hf : f < m.funcs.length) (hx : ∀ i ∈ x, calm i) (he : err (dead m f x) = 0) :
    check (dead m f x) = fine ∧ ∃ hs, heights m f = some hs ∧ hs.length = (fnAt m f).code.length ∧ heights (dead m f x) f = some (hs ++ List.replicate x.length (-1)) := by
  obtain ⟨hl, hpt⟩ := fine_pt hc
  have hl' := (lim_of_err he).1
  have hn : ∀ g, g < m.funcs.length → 0 < (fnAt m g).code.length := fun g hg => by
    have := hl (fnAt m g) (by rw [fnAt_lt hg]; exact List.getElem_mem _)
    omega
  obtain ⟨-, h3, h4, -⟩ := check_fine.1 hc
  have hH : ∀ g, g < m.funcs.length → Pt (dead m f x) g := fun g hg => dead_pt hf hx hl' (hpt g hg).1
  refine ⟨check_fine.2 ⟨he, by rw [(dead_sig hf x 0).1]; exact h3, by rw [(dead_sig hf x 0).2.1]; exact h4, fun g hg => ?_⟩, ?_⟩
  · rw [dead_len] at hg
    refine checkFn_fine.2 ⟨firstBad_all _ _ (hH g hg).pts, ?_⟩
    obtain ⟨hp, hs, hh⟩ := hpt g hg
    by_cases e : f = g
    · subst e
      rw [dead_heights hp (hH f hg) (hn f hg) hh]
      rfl
    · have hcg : (fnAt (dead m f x) g).code = (fnAt m g).code := by rw [dead_at hf, if_neg e]
      obtain ⟨hs', e1, -⟩ := heights_least (hH g hg) (by rw [hcg]; exact hn g hg) (by rw [hcg]; exact (heights_fit hp (hn g hg) hh).dead_same hf x)
      rw [e1]
      rfl
  · obtain ⟨hp, hs, hh⟩ := hpt f hf
    exact ⟨hs, hh, (heights_fit hp (hn f hf) hh).len, dead_heights hp (hH f hf) (hn f hf) hh⟩
end ck
end Go.Proofs.YtibpbnffennmeaaDoor
