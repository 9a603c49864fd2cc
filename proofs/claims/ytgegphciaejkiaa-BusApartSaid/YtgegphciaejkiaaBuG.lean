/- A bus as a law meets it: its calls, what lies ahead of it stays. -/
import Derived.Test.YtgegphciaejkiaaBuKinds
namespace Go.Proofs.Ytgegphciaejkiaa
open Go.RowKit
namespace bu
/-- queues are within bounds, so are the numbers of what was dropped -/
def Good (S : Nat → Slot) (m : Int) : Prop := ∀ i, i < 4 → (S i).queue.length ≤ 16 ∧ 0 ≤ (S i).dropped ∧ (S i).dropped ≤ m
theorem Good.more {S : Nat → Slot} {m m' : Int} (h : Good S m) (hm : m ≤ m') : Good S m' := fun i hi => ⟨(h i hi).1, (h i hi).2.1, by have := (h i hi).2.2; omega⟩
theorem Good.upd {S : Nat → Slot} {m : Int} (h : Good S m) (i : Nat) (s : Slot) (hs : s.queue.length ≤ 16 ∧ 0 ≤ s.dropped ∧ s.dropped ≤ m) : Good (bu.upd S i s) m := fun j hj => by
  by_cases e : j = i
  · subst e; rw [upd_same]; exact hs
  · rw [upd_other _ _ e]; exact h j hj
theorem Good.zero {m : Int} (hm : 0 ≤ m) : Good (fun _ => Slot.zero) m := fun _ _ => ⟨Nat.zero_le _, Int.le_refl _, hm⟩
theorem putS_good {s : Slot} {m : Int} (e : Ev) (h : s.queue.length ≤ 16 ∧ 0 ≤ s.dropped ∧ s.dropped ≤ m) : (putS s e).2.queue.length ≤ 16 ∧ 0 ≤ (putS s e).2.dropped ∧ (putS s e).2.dropped ≤ m + 1 := by
  unfold putS
  split
  · exact ⟨h.1, by simp only; omega, by simp only; omega⟩
  · refine ⟨?_, h.2.1, by simp only; omega⟩
    simp only [List.length_append, List.length_singleton]
    omega
theorem Good.open {S : Nat → Slot} {m : Int} (h : Good S m) (p : Int) : Good (openR S p).2 m := by
  unfold openR
  split
  · exact h
  · rename_i i hi
    split
    · exact h
    · exact h.upd i _ (h i (slotAt_lt hi).1)
theorem Good.shut {S : Nat → Slot} {m : Int} (h : Good S m) (hm : 0 ≤ m) (p : Int) : Good (shutR S p).2 m := by
  unfold shutR
  split
  · exact h
  · exact h.upd _ _ ⟨Nat.zero_le _, Int.le_refl _, hm⟩
theorem Good.sub {S : Nat → Slot} {m : Int} (h : Good S m) (p k : Int) (on : Bool) : Good (subR S p k on).2 m := by
  unfold subR
  split
  · exact h
  · rename_i i hi
    split
    · exact h.upd i _ (h i (openA_lt hi).1)
    · exact h
theorem Good.take {S : Nat → Slot} {m : Int} (h : Good S m) (p : Int) : Good (takeR S p).2 m := by
  unfold takeR
  split
  · exact h
  · rename_i i hi
    split
    · exact h
    · rename_i e l hq
      have := h i (openA_lt hi).1
      rw [hq, List.length_cons] at this
      exact h.upd i _ ⟨by simp only; omega, this.2⟩
theorem Good.send {S : Nat → Slot} {m : Int} (h : Good S m) (p : Int) (e : Ev) : Good (sendR S p e).2 (m + 1) := by
  unfold sendR
  split
  · exact h.more (by omega)
  · rename_i i hi
    exact (h.more (by omega : m ≤ m + 1)).upd i _ (putS_good e (h i (openA_lt hi).1))
theorem pub_at (S : Nat → Slot) (e : Ev) (j : Nat) : ∀ n, (pub S e n).2 j = if j < n ∧ wantsS (S j) e.kind = true then (putS (S j) e).2 else S j
  | 0 => by rw [if_neg (by omega)]; rfl
  | n + 1 => by
    have ih := pub_at S e j n
    unfold pub
    by_cases hw : wantsS (S n) e.kind = true
    · rw [if_pos hw]
      simp only
      by_cases hj : j = n
      · subst hj; rw [upd_same, if_pos ⟨by omega, hw⟩]
      · rw [upd_other _ _ hj, ih]
        by_cases hc : j < n ∧ wantsS (S j) e.kind = true
        · rw [if_pos hc, if_pos ⟨by omega, hc.2⟩]
        · rw [if_neg hc, if_neg (fun x => hc ⟨by omega, x.2⟩)]
    · rw [if_neg hw, ih]
      by_cases hc : j < n ∧ wantsS (S j) e.kind = true
      · rw [if_pos hc, if_pos ⟨by omega, hc.2⟩]
      · rw [if_neg hc, if_neg (fun x => hc ⟨by
          have : j ≠ n := fun e => hw (e ▸ x.2)
          omega, x.2⟩)]
theorem Good.pub {S : Nat → Slot} {m : Int} (h : Good S m) (e : Ev) (n : Nat) : Good (pub S e n).2 (m + 1) := fun j hj => by
  rw [pub_at]
  split
  · exact putS_good e (h j hj)
  · exact (h.more (by omega : m ≤ m + 1)) j hj
/-- where one slot alone may want it -/
theorem pub_one (S : Nat → Slot) (e : Ev) (i : Nat) (hi : i < 4) (ho : ∀ j, j < 4 → j ≠ i → wantsS (S j) e.kind = false) : pub S e 4 = if wantsS (S i) e.kind = true then ((if (putS (S i) e).1 = true then 1 else 0), upd S i (putS (S i) e).2) else (0, S) := by
  have hs : i = 0 ∨ i = 1 ∨ i = 2 ∨ i = 3 := by omega
  rcases hs with rfl | rfl | rfl | rfl
  · have h1 := ho 1 (by omega) (by omega)
    have h2 := ho 2 (by omega) (by omega)
    have h3 := ho 3 (by omega) (by omega)
    simp [pub, h1, h2, h3]
  · have h1 := ho 0 (by omega) (by omega)
    have h2 := ho 2 (by omega) (by omega)
    have h3 := ho 3 (by omega) (by omega)
    simp [pub, h1, h2, h3]
  · have h1 := ho 0 (by omega) (by omega)
    have h2 := ho 1 (by omega) (by omega)
    have h3 := ho 3 (by omega) (by omega)
    simp [pub, h1, h2, h3]
  · have h1 := ho 0 (by omega) (by omega)
    have h2 := ho 1 (by omega) (by omega)
    have h3 := ho 2 (by omega) (by omega)
    simp [pub, h1, h2, h3]
end bu
/-- the bus in block q, what lies below B as it was, and these blocks that are no bus's -/
structure BG (B : Nat) (w0 : World) (q : Nat) (K : List (Nat × Obj)) (S : Nat → bu.Slot) (m : Int) (w : World) : Prop where
  at_ : ∃ V, BuAt w q S V ∧ ∀ x, x ∈ K → w.heap[x.1]? = some x.2 ∧ ¬ Own q V x.1
  low : B ≤ q
  bel : Below B w0 w
  good : bu.Good S m
theorem BG.lt {B : Nat} {w0 w : World} {q : Nat} {K : List (Nat × Obj)} {S : Nat → bu.Slot} {m : Int} (g : BG B w0 q K S m w) : q < w.heap.size := by
  obtain ⟨V, h, -⟩ := g.at_
  exact h.lt
theorem BG.below {B : Nat} {w0 w w' : World} {q : Nat} {K : List (Nat × Obj)} {S : Nat → bu.Slot} {m : Int} (g : BG B w0 q K S m w) (hb : Below w.heap.size w w') : BG B w0 q K S m w' := by
  have hl := g.lt
  have hw := g.low
  obtain ⟨V, h, hk⟩ := g.at_
  exact ⟨⟨V, h.below hb, fun x hx => ⟨(hb.block _ (heap_lt (hk x hx).1)).trans (hk x hx).1, (hk x hx).2⟩⟩, g.low, g.bel.trans (hb.mono (by omega)), g.good⟩
theorem BG.box {B : Nat} {w0 w : World} {q : Nat} {K : List (Nat × Obj)} {S : Nat → bu.Slot} {m : Int} (g : BG B w0 q K S m w) (o : Obj) : BG B w0 q ((w.heap.size, o) :: K) S m (w.alloc o) := by
  have g' := g.below (below_one w o)
  obtain ⟨V, h, hk⟩ := g.at_
  refine ⟨⟨V, h.below (below_one w o), fun x hx => ?_⟩, g'.low, g'.bel, g'.good⟩
  rcases List.mem_cons.1 hx with rfl | hx
  · exact ⟨heap_alloc_new w o, fun y => Nat.lt_irrefl _ (h.own_lt y).2⟩
  · exact ⟨((below_one w o).block _ (heap_lt (hk x hx).1)).trans (hk x hx).1, (hk x hx).2⟩
theorem BG.drop {B : Nat} {w0 w : World} {q : Nat} {K : List (Nat × Obj)} {S : Nat → bu.Slot} {m : Int} (g : BG B w0 q K S m w) : BG B w0 q [] S m w := by
  obtain ⟨V, h, -⟩ := g.at_
  exact ⟨⟨V, h, fun _ hx => by cases hx⟩, g.low, g.bel, g.good⟩
theorem BG.here {B : Nat} {w0 w : World} {q k : Nat} {o : Obj} {K : List (Nat × Obj)} {S : Nat → bu.Slot} {m : Int} (g : BG B w0 q ((k, o) :: K) S m w) : w.heap[k]? = some o := by
  obtain ⟨V, -, hk⟩ := g.at_
  exact (hk (k, o) (List.mem_cons_self ..)).1
theorem BG.to {B : Nat} {w0 w w' : World} {q : Nat} {K : List (Nat × Obj)} {S S' : Nat → bu.Slot} {m m' : Int} (g : BG B w0 q K S m w) {V : Nat → Value} (h : BuAt w q S V) (hk : ∀ x, x ∈ K → w.heap[x.1]? = some x.2 ∧ ¬ Own q V x.1) (r : BuR q V w w' S') (hg : bu.Good S' m') : BG B w0 q K S' m' w' := by
  have hl := g.lt
  have hw := g.low
  obtain ⟨V', h', f, hs⟩ := r
  refine ⟨⟨V', h', fun x hx => ?_⟩, g.low, g.bel.trans (f.to_below B (by omega) fun k hk x => by have := (h.own_lt x).1; omega), hg⟩
  have hx1 := hk x hx
  have hlt := heap_lt hx1.1
  refine ⟨(f.block _ hlt hx1.2).trans hx1.1, fun y => ?_⟩
  rcases hs _ y with z | z
  · exact hx1.2 z
  · omega
theorem BG.new (w0 w : World) (B : Nat) (hb : Below B w0 w) (hB : B ≤ w.heap.size) : BG B w0 w.heap.size [] (fun _ => bu.Slot.zero) 0 (w.alloc busO) :=
  ⟨⟨_, bus_new w, fun _ hx => by cases hx⟩, hB, hb.trans ((below_one w busO).mono hB), bu.Good.zero (by omega)⟩
section calls
variable {B : Nat} {w0 : World} {q : Nat} {K : List (Nat × Obj)} {S : Nat → bu.Slot} {m : Int} {w : World}
theorem open_g (g : BG B w0 q K S m w) (p : Int) (R : Int × (Nat → bu.Slot)) (hR : bu.openR S p = R) : Calls Try.prog 17 #[.pointer (some ⟨q, 0, none⟩), .int .i64 p] w fun e w' => e = .returned (.int .i64 R.1) ∧ BG B w0 q K R.2 m w' := by
  subst hR
  obtain ⟨V, h, hk⟩ := g.at_
  refine (openP_any q S V p w h).mono ?_
  rintro e w' ⟨rfl, r⟩
  exact ⟨rfl, g.to h hk r (g.good.open p)⟩
theorem shut_g (g : BG B w0 q K S m w) (hm : 0 ≤ m) (p : Int) (R : Int × (Nat → bu.Slot)) (hR : bu.shutR S p = R) : Calls Try.prog 22 #[.pointer (some ⟨q, 0, none⟩), .int .i64 p] w fun e w' => e = .returned (.int .i64 R.1) ∧ BG B w0 q K R.2 m w' := by
  subst hR
  obtain ⟨V, h, hk⟩ := g.at_
  refine (shutP_any q S V p w h).mono ?_
  rintro e w' ⟨rfl, r⟩
  exact ⟨rfl, g.to h hk r (g.good.shut hm p)⟩
theorem sub_g (g : BG B w0 q K S m w) (p k : Int) (on : Bool) (R : Int × (Nat → bu.Slot)) (hR : bu.subR S p k on = R) : Calls Try.prog 18 #[.pointer (some ⟨q, 0, none⟩), .int .i64 p, .int .i64 k, .bool on] w fun e w' => e = .returned (.int .i64 R.1) ∧ BG B w0 q K R.2 m w' := by
  subst hR
  obtain ⟨V, h, hk⟩ := g.at_
  refine (subP_any q S V p k on w h).mono ?_
  rintro e w' ⟨rfl, r⟩
  exact ⟨rfl, g.to h hk r (g.good.sub p k on)⟩
theorem take_g (g : BG B w0 q K S m w) (p : Int) (R : Option bu.Ev × (Nat → bu.Slot)) (hR : bu.takeR S p = R) : Calls Try.prog 20 #[.pointer (some ⟨q, 0, none⟩), .int .i64 p] w fun e w' => e = .returned (.tuple #[evV (R.1.getD bu.evZ), .bool R.1.isSome]) ∧ BG B w0 q K R.2 m w' := by
  subst hR
  obtain ⟨V, h, hk⟩ := g.at_
  refine (takeP_any q S V p w h fun i hi => (g.good i hi).1).mono ?_
  rintro e w' ⟨rfl, r⟩
  exact ⟨rfl, g.to h hk r.toR (g.good.take p)⟩
theorem send_g (g : BG B w0 q K S m w) (hm : m < 9223372036854775807) (p : Int) (ev : bu.Ev) (R : Int × (Nat → bu.Slot)) (hR : bu.sendR S p ev = R) : Calls Try.prog 21 #[.pointer (some ⟨q, 0, none⟩), .int .i64 p, evV ev] w fun e w' => e = .returned (.int .i64 R.1) ∧ BG B w0 q K R.2 (m + 1) w' := by
  subst hR
  obtain ⟨V, h, hk⟩ := g.at_
  refine (sendP_any q S V p ev w h (fun i hi => (g.good i hi).1) fun i hi => ⟨(g.good i hi).2.1, by have := (g.good i hi).2.2; omega⟩).mono ?_
  rintro e w' ⟨rfl, r⟩
  exact ⟨rfl, g.to h hk r (g.good.send p ev)⟩
theorem pub_g (g : BG B w0 q K S m w) (hm : m < 9223372036854775807) (ev : bu.Ev) (R : Nat × (Nat → bu.Slot)) (hR : bu.pub S ev 4 = R) : Calls Try.prog 19 #[.pointer (some ⟨q, 0, none⟩), evV ev] w fun e w' => e = .returned (.int .i64 (R.1 : Nat)) ∧ BG B w0 q K R.2 (m + 1) w' := by
  subst hR
  obtain ⟨V, h, hk⟩ := g.at_
  refine (pubP_any q S V ev w h (fun i hi => (g.good i hi).1) fun i hi => ⟨(g.good i hi).2.1, by have := (g.good i hi).2.2; omega⟩).mono ?_
  rintro e w' ⟨rfl, r⟩
  exact ⟨rfl, g.to h hk r (g.good.pub ev 4)⟩
theorem len_g (g : BG B w0 q K S m w) (p : Int) (n : Int) (hn : bu.lenA S p = n) : Calls Try.prog 12 #[.pointer (some ⟨q, 0, none⟩), .int .i64 p] w fun e w' => e = .returned (.int .i64 n) ∧ w' = w := by
  subst hn
  obtain ⟨V, h, hk⟩ := g.at_
  exact lenP_any q S V p w h
theorem drop_g (g : BG B w0 q K S m w) (p : Int) (n : Int) (hn : bu.dropA S p = n) : Calls Try.prog 13 #[.pointer (some ⟨q, 0, none⟩), .int .i64 p] w fun e w' => e = .returned (.int .i64 n) ∧ w' = w := by
  subst hn
  obtain ⟨V, h, hk⟩ := g.at_
  exact dropP_any q S V p w h
theorem kinds_g (g : BG B w0 q K S m w) (p : Int) (l : List Int) (hl : bu.kindsA S p = l) : Calls Try.prog 15 #[.pointer (some ⟨q, 0, none⟩), .int .i64 p] w fun e w' => IntsAns w w' e l := by
  subst hl
  obtain ⟨V, h, hk⟩ := g.at_
  exact kindsP_any q S V p w h
theorem ready_g (g : BG B w0 q K S m w) (l : List Int) (hl : bu.readyU S 4 = l) : Calls Try.prog 16 #[.pointer (some ⟨q, 0, none⟩)] w fun e w' => IntsAns w w' e l := by
  subst hl
  obtain ⟨V, h, hk⟩ := g.at_
  exact readyP_any q S V w h
end calls
end Go.Proofs.Ytgegphciaejkiaa
