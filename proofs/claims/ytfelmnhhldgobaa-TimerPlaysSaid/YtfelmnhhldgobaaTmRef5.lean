/- The document's clock: Pass. -/
import Derived.Test.YtfelmnhhldgobaaTmRef4
namespace Go.Proofs.Ytfelmnhhldgobaa
open Go.RowKit
namespace tm
def rstep (a : List T) (t : T) : List T := if 0 < t.every ∧ t.due + t.every ≤ 1099511627776 then wo t.id 0 a ++ [⟨t.id, t.owner, t.due + t.every, t.every⟩] else wo t.id 0 a
def rp : Nat → List T → Int → List T × List T
  | 0, a, _ => ([], a)
  | f + 1, a, till => if a.length = 0 ∨ till < (ix a (fst a).toNat).due then ([], a) else (ix a (fst a).toNat :: (rp f (rstep a (ix a (fst a).toNat)) till).1, (rp f (rstep a (ix a (fst a).toNat)) till).2)
def rpass (now : Int) (l : List T) (till : Int) : (Int × List T) × (List T × Int) :=
  if till < now ∨ 1099511627776 < till then ((now, l), ([], 1)) else ((if (rp 16 l till).1.length = 16 then (ix (rp 16 l till).1 15).due else till, (rp 16 l till).2), ((rp 16 l till).1, 0))
def Bds (l : List T) : Prop := ∀ t, t ∈ l → (0 ≤ t.due ∧ t.due ≤ 1099511627776) ∧ 0 ≤ t.every ∧ t.every ≤ 1099511627776
theorem Bds.step {a : List T} (h : Bds a) (i : Nat) (hi : i < a.length) : Bds (rstep a (ix a i)) ∧ (rstep a (ix a i)).length ≤ a.length ∧ Bds (wo (ix a i).id 0 a) := by
  have hm : ix a i ∈ a := by rw [ix_get hi]; exact List.getElem_mem hi
  have hw : Bds (wo (ix a i).id 0 a) := fun t ht => h t (List.mem_filter.1 ht).1
  have hl := wo_less a 0 i hi
  have hb := h _ hm
  unfold rstep
  split
  · rename_i hc
    refine ⟨fun t ht => ?_, by rw [List.length_append, List.length_singleton]; omega, hw⟩
    rcases List.mem_append.1 ht with a | a
    · exact hw t a
    · obtain rfl := List.mem_singleton.1 a
      exact ⟨by simp only; omega, by simp only; omega⟩
  · exact ⟨hw, by omega, hw⟩
end tm
def RPs (D : Nat → Prop) (w w' : World) (x : Ending) (made : Int) (R : (Int × List tm.T) × (List tm.T × Int)) : Prop := ∃ o c o2 c2, x = .returned (.tuple #[rcV R.1.1 made (.slice o R.1.2.length c), .slice o2 R.2.1.length c2, .int .i64 R.2.2]) ∧ RIn w' (fun k => D k ∨ w.heap.size ≤ k) (.slice o R.1.2.length c) R.1.2 ∧ RIn w' (fun k => w.heap.size ≤ k) (.slice o2 R.2.1.length c2) R.2.1 ∧ Below w.heap.size w w'
/-- the clock's box, the answer's box, what was told so far, the timers -/
structure PW (B : Nat) (w0 : World) (D : Nat → Prop) (wr : World) (now made : Int) (Va : Value) (a : List tm.T) (Vo : Value) (out : List tm.T) (E : Nat → Prop) : Prop where
  bel : Below B w0 wr
  bx : wr.heap[B]? = some (rcO now made Va)
  rs : wr.heap[B + 1]? = some (rcO 0 0 (.slice none 0 0))
  ro : ROwn wr (B + 2) Vo out
  ra : RIn wr (fun k => ((D k ∨ B ≤ k) ∧ k ≠ B ∧ k ≠ B + 1) ∧ E k) Va a
section
variable {B : Nat} {w0 wr w' : World} {D E : Nat → Prop} {now made : Int} {Va Vo : Value} {a out : List tm.T}
theorem PW.below (p : PW B w0 D wr now made Va a Vo out E) (b : Below wr.heap.size wr w') : PW B w0 D w' now made Va a Vo out E :=
  have hl := heap_lt p.bx
  ⟨p.bel.trans (b.mono (by omega)), (b.block _ hl).trans p.bx, (b.block _ (heap_lt p.rs)).trans p.rs, row_below p.ro b, RowIn.below p.ra b⟩
theorem PW.push (p : PW B w0 D wr now made Va a Vo out (fun k => Vo.ownBlock ≠ some k)) {V' : Value} {L : List tm.T} (hr : ROwn w' (B + 2) V' L) (hg : wr.grownBy w' Vo.ownBlock) : PW B w0 D w' now made Va a V' L (fun _ => True) := by
  have f := Fr.of_grown hg
  have hl := heap_lt p.rs
  have hlow : ∀ k, Vo.ownBlock = some k → B + 2 ≤ k := fun k hk => (p.ro.lt k hk).1
  exact ⟨p.bel.trans (f.to_below B (by omega) fun k hk e => by have := hlow k e; omega), (f.block _ (heap_lt p.bx) fun e => by have := hlow _ e; omega).trans p.bx, (f.block _ hl fun e => by have := hlow _ e; omega).trans p.rs, hr, p.ra.keep (fun k hd hk => f.block k hk hd.2) f.size fun k hd _ => ⟨hd.1, trivial⟩⟩
theorem PW.setA (p : PW B w0 D wr now made Va a Vo out E) (b : Below wr.heap.size wr w') {Va' : Value} {a' : List tm.T} (hr : ROwn w' wr.heap.size Va' a') : PW B w0 D (w'.setCell ⟨B, 2, none⟩ Va') now made Va' a' Vo out (fun k => Vo.ownBlock ≠ some k) := by
  have q := p.below b
  have hl := heap_lt p.rs
  have hk : ∀ k, k ≠ B → (w'.setCell ⟨B, 2, none⟩ Va').heap[k]? = w'.heap[k]? := fun k hk => Below.heap_setCell _ _ _ k hk
  have hr' : ROwn (w'.setCell ⟨B, 2, none⟩ Va') wr.heap.size Va' a' := own_keep hr fun g _ hg _ _ _ => hk g (by omega)
  exact ⟨q.bel.setCell (Nat.le_refl _) _, heap_setCell_same _ B 2 _ _ _ q.bx, (hk _ (by omega)).trans q.rs, own_keep q.ro fun g _ hg _ _ _ => hk g (by omega), RowIn.wide (ROwn.toIn hr') fun k hk2 _ => ⟨⟨.inr (by omega), by omega, by omega⟩, fun e => by have := (p.ro.lt k e).2; omega⟩⟩
/-- the answer -/
theorem PW.done (p : PW B w0 D wr now made Va a Vo out E) (now' : Int) : Below B w0 (setC (wr.setCell ⟨B, 0, none⟩ (.int .i64 now')) (B + 1) now' made Va) ∧ (setC (wr.setCell ⟨B, 0, none⟩ (.int .i64 now')) (B + 1) now' made Va).heap[B + 1]? = some (rcO now' made Va) ∧ RIn (setC (wr.setCell ⟨B, 0, none⟩ (.int .i64 now')) (B + 1) now' made Va) (fun k => D k ∨ B ≤ k) Va a ∧ RIn (setC (wr.setCell ⟨B, 0, none⟩ (.int .i64 now')) (B + 1) now' made Va) (fun k => B ≤ k) Vo out := by
  have hk : ∀ k, k ≠ B → k ≠ B + 1 → (setC (wr.setCell ⟨B, 0, none⟩ (.int .i64 now')) (B + 1) now' made Va).heap[k]? = wr.heap[k]? := fun k h1 h2 => (setC_far _ _ _ _ _ k h2).trans (Below.heap_setCell _ _ _ k h1)
  have hs : wr.heap.size ≤ (setC (wr.setCell ⟨B, 0, none⟩ (.int .i64 now')) (B + 1) now' made Va).heap.size := by simp
  exact ⟨setC_below (p.bel.setCell (Nat.le_refl _) _) (by omega) _ _ _, setC_at ((Below.heap_setCell _ _ _ (B + 1) (by show B + 1 ≠ B; omega)).trans p.rs) _ _ _, p.ra.keep (fun k hd _ => hk k hd.1.2.1 hd.1.2.2) hs fun k hd _ => hd.1.1, RowIn.wide (ROwn.toIn (own_keep p.ro fun g _ hg _ _ _ => hk g (by omega) (by omega))) fun k hk _ => by omega⟩
end
set_option maxRecDepth 100000 in
set_option maxHeartbeats 1600000 in
theorem rpass_any (now made : Int) (o : Option Addr) (cap : Nat) (l : List tm.T) (till : Int) (D : Nat → Prop) (w : World) (h : RIn w D (.slice o l.length cap) l) (hn : l.length ≤ 64) (hb : tm.Bds l) (R : (Int × List tm.T) × (List tm.T × Int)) (hR : tm.rpass now l till = R) : Calls Try.prog 15 #[rcV now made (.slice o l.length cap), .int .i64 till] w fun x w' => RPs D w w' x made R := by
  obtain ⟨-, hnc, hcm⟩ := h.len
  have b1 := below_one w (rcO now made (.slice o l.length cap))
  have a1 := heap_alloc_new w (rcO now made (.slice o l.length cap))
  obtain ⟨W1, hW1⟩ : ∃ W, w.alloc (rcO now made (.slice o l.length cap)) = W := ⟨_, rfl⟩
  have s1 : W1.heap.size = w.heap.size + 1 := by rw [← hW1]; simp
  rw [hW1] at b1 a1
  have b2 := below_one W1 (rcO 0 0 (.slice none 0 0))
  have a2 := heap_alloc_new W1 (rcO 0 0 (.slice none 0 0))
  obtain ⟨W, hW⟩ : ∃ W, W1.alloc (rcO 0 0 (.slice none 0 0)) = W := ⟨_, rfl⟩
  have s2 : W.heap.size = w.heap.size + 1 + 1 := by rw [← hW]; simp [s1]
  rw [hW] at b2 a2
  rw [s1] at a2
  have bb : Below w.heap.size w W := b1.trans (b2.mono b1.size)
  have a1' := (b2.block _ (heap_lt a1)).trans a1
  have y0 : W.cell? ⟨w.heap.size, 0, none⟩ = some (.int .i64 now) := (cell_of_heap a1').trans rfl
  have y1 : W.cell? ⟨w.heap.size, 1, none⟩ = some (.int .i64 made) := (cell_of_heap a1').trans rfl
  have y2 : W.cell? ⟨w.heap.size, 2, none⟩ = some (.slice o l.length cap) := (cell_of_heap a1').trans rfl
  have z0 : W.cell? ⟨w.heap.size + 1, 0, none⟩ = some (.int .i64 0) := (cell_of_heap a2).trans rfl
  have z1 : W.cell? ⟨w.heap.size + 1, 1, none⟩ = some (.int .i64 0) := (cell_of_heap a2).trans rfl
  have z2 : W.cell? ⟨w.heap.size + 1, 2, none⟩ = some (.slice none 0 0) := (cell_of_heap a2).trans rfl
  have f0 := thaw (k := 0) a2
  have f1 := thaw (k := 1) a2
  have f2 := thaw (k := 2) a2
  have lW := heap_lt a2
  have H0 := Lib.hid (And.intro h (And.intro bb (And.intro a1' a2)))
  have HR := Lib.hid hR
  clear h b1 a1 b2 a2 bb a1' hR
  by_cases c0 : till < now
  · have HE : Hid (R = ((now, l), ([], 1))) := Lib.hid (by rw [← HR.out]; unfold tm.rpass; rw [if_pos (.inl c0)])
    have HB3 : Hid (Below w.heap.size w (setC W (w.heap.size + 1) now made (.slice o l.length cap)) ∧ (setC W (w.heap.size + 1) now made (.slice o l.length cap)).heap[w.heap.size + 1]? = some (rcO now made (.slice o l.length cap))) := Lib.hid ⟨setC_below H0.out.2.1 (by omega) _ _ _, setC_at H0.out.2.2.2 _ _ _⟩
    go_enter Try.func15, Try.ntmps15
    go_wp2_with fail
    refine bodyPost_ret (results_row_tmp2 rfl _ _ (w.heap.size + 1) 28 _ (0, 0) _ rfl HB3.out.2 Try.underlying28 rfl (by kernel_rfl)) rfl ?_
    obtain rfl := HE.out.symm
    exact ⟨o, cap, none, 0, rfl, RowIn.wide (RowIn.below H0.out.1 HB3.out.1) fun _ hk _ => .inl hk, RowIn.nil _ _ _, HB3.out.1⟩
  by_cases c1 : 1099511627776 < till
  · have HE : Hid (R = ((now, l), ([], 1))) := Lib.hid (by rw [← HR.out]; unfold tm.rpass; rw [if_pos (.inr c1)])
    have HB3 : Hid (Below w.heap.size w (setC W (w.heap.size + 1) now made (.slice o l.length cap)) ∧ (setC W (w.heap.size + 1) now made (.slice o l.length cap)).heap[w.heap.size + 1]? = some (rcO now made (.slice o l.length cap))) := Lib.hid ⟨setC_below H0.out.2.1 (by omega) _ _ _, setC_at H0.out.2.2.2 _ _ _⟩
    go_enter Try.func15, Try.ntmps15
    go_wp2_with fail
    refine bodyPost_ret (results_row_tmp2 rfl _ _ (w.heap.size + 1) 28 _ (0, 0) _ rfl HB3.out.2 Try.underlying28 rfl (by kernel_rfl)) rfl ?_
    obtain rfl := HE.out.symm
    exact ⟨o, cap, none, 0, rfl, RowIn.wide (RowIn.below H0.out.1 HB3.out.1) fun _ hk _ => .inl hk, RowIn.nil _ _ _, HB3.out.1⟩
  have HE : Hid (R = ((if (tm.rp 16 l till).1.length = 16 then (tm.ix (tm.rp 16 l till).1 15).due else till, (tm.rp 16 l till).2), ((tm.rp 16 l till).1, 0))) := Lib.hid (by rw [← HR.out]; unfold tm.rpass; rw [if_neg (by omega)])
  obtain ⟨A, l2, hA⟩ : ∃ A l2, tm.rp 16 l till = (A, l2) := ⟨_, _, rfl⟩
  rw [hA] at HE
  have HP : Hid (PW w.heap.size w D (W.alloc (.cells #[] 50)) now made (.slice o l.length cap) l (.slice (some ⟨W.heap.size, 0, none⟩) 0 0) [] (fun k => (Value.slice (some ⟨W.heap.size, 0, none⟩) 0 0).ownBlock ≠ some k)) := Lib.hid (by
    have bn := below_one W (.cells #[] 50)
    refine ⟨H0.out.2.1.trans (bn.mono H0.out.2.1.size), (bn.block _ (heap_lt H0.out.2.2.1)).trans H0.out.2.2.1, (bn.block _ (heap_lt H0.out.2.2.2)).trans H0.out.2.2.2, ⟨rfl, .inr ⟨W.heap.size, 0, #[], rfl, by omega, heap_alloc_new W _, Nat.le_refl _, by decide, rfl, rfl⟩⟩, ?_⟩
    exact RowIn.below (RowIn.below (RowIn.wide H0.out.1 fun k hk hl => ⟨⟨.inl hk, by omega, by omega⟩, fun e => by have e2 : W.heap.size = k := Option.some.inj e; omega⟩) H0.out.2.1) bn)
  have HL := Lib.hid (And.intro hA hb)
  clear HR hA hb z0 z1 z2 f0 f1 f2 H0
  go_enter Try.func15, Try.ntmps15
  go_wp2_with fail
  clear y0 y1 y2
  go_loopg [7] 16 (fun gg s7 wr => ∃ (f : Nat) (out a : List tm.T) (oa ao : Option Addr) (ca ac : Nat), s7 = .slice ao out.length ac ∧ f + out.length = 16 ∧ f ≤ gg ∧ a.length ≤ 64 ∧ a.length ≤ ca ∧ ca ≤ 9223372036854775807 ∧ Hid (PW w.heap.size w D wr now made (.slice oa a.length ca) a (.slice ao out.length ac) out (fun k => (Value.slice ao out.length ac).ownBlock ≠ some k) ∧ tm.Bds a ∧ out ++ (tm.rp f a till).1 = A ∧ (tm.rp f a till).2 = l2))
  case atStart => exact ⟨16, [], l, o, _, cap, 0, rfl, rfl, Nat.le_refl _, hn, hnc, hcm, Lib.hid ⟨by have := HP.out; rw [s2] at this; exact this, HL.out.2, by rw [HL.out.1]; rfl, by rw [HL.out.1]⟩⟩
  case round =>
    clear HP HL
    obtain ⟨f, out, a, oa, ao, ca, ac, rfl, hf16, hfg, ha64, hac, hcm2, HX⟩ := hrel
    have p0 := HX.out.1
    have y0 : wr.cell? ⟨w.heap.size, 0, none⟩ = some (.int .i64 now) := (cell_of_heap p0.bx).trans rfl
    have y1 : wr.cell? ⟨w.heap.size, 1, none⟩ = some (.int .i64 made) := (cell_of_heap p0.bx).trans rfl
    have y2 : wr.cell? ⟨w.heap.size, 2, none⟩ = some (.slice oa a.length ca) := (cell_of_heap p0.bx).trans rfl
    have yf := thaw (k := 0) p0.bx
    have ly := heap_lt p0.bx
    have lr := heap_lt p0.rs
    have z0 : wr.cell? ⟨w.heap.size + 1, 0, none⟩ = some (.int .i64 0) := (cell_of_heap p0.rs).trans rfl
    have z1 : wr.cell? ⟨w.heap.size + 1, 1, none⟩ = some (.int .i64 0) := (cell_of_heap p0.rs).trans rfl
    have z2 : wr.cell? ⟨w.heap.size + 1, 2, none⟩ = some (.slice none 0 0) := (cell_of_heap p0.rs).trans rfl
    have f0 := thaw (k := 0) p0.rs
    have f1 := thaw (k := 1) p0.rs
    have f2 := thaw (k := 2) p0.rs
    clear p0
    by_cases h16 : f = 0
    · subst h16
      have hl16 : out.length = 16 := by omega
      have hl16' : ¬ (out.length : Int) < 16 := by omega
      have HEA : Hid (out = A ∧ a = l2) := Lib.hid ⟨by have := HX.out.2.2.1; rwa [show (tm.rp 0 a till).1 = [] from rfl, List.append_nil] at this, HX.out.2.2.2⟩
      obtain ⟨b, off, eo, hbo, -, -, d2, -⟩ := RIn.cell (ROwn.toIn HX.out.1.ro) 15 (by omega)
      subst eo
      obtain ⟨t, ht⟩ : ∃ t, tm.ix out 15 = t := ⟨_, rfl⟩
      rw [ht] at d2
      have HE2 : Hid (R = ((t.due, a), (out, 0))) := Lib.hid (by rw [HE.out, HEA.out.1.symm, HEA.out.2.symm, if_pos hl16, ht])
      have HH := Lib.hid (HX.out.1.done t.due)
      have HL16 := Lib.hid hl16
      clear ht HX HEA hl16'
      go_wp2_with fail
      refine bodyPost_ret (results_row_tmp2 rfl _ _ (w.heap.size + 1) 28 _ (0, 0) _ rfl HH.out.2.1 Try.underlying28 rfl (by kernel_rfl)) rfl ?_
      obtain rfl := HE2.out.symm
      refine ⟨oa, ca, _, ac, ?_, HH.out.2.2.1, HH.out.2.2.2, HH.out.1⟩
      rw [HL16.out]
      rfl
    · obtain ⟨g, rfl⟩ : ∃ g, f = g + 1 := ⟨f - 1, by omega⟩
      have hl16 : (out.length : Int) < 16 := by omega
      have hne : ¬ A.length = 16 ∨ True := .inr trivial
      have HF := Lib.hid (first_any oa a.length ca a _ wr HX.out.1.ra)
      have HST := Lib.hid (show tm.rp (g + 1) a till = if a.length = 0 ∨ till < (tm.ix a (tm.fst a).toNat).due then ([], a) else (tm.ix a (tm.fst a).toNat :: (tm.rp g (tm.rstep a (tm.ix a (tm.fst a).toNat)) till).1, (tm.rp g (tm.rstep a (tm.ix a (tm.fst a).toNat)) till).2) from rfl)
      by_cases h0 : a.length = 0
      · have e0 : tm.fst a = -1 := by
          rcases tm.fstN_bd a a.length with ⟨_, e⟩ | ⟨b, _, hb⟩
          · exact e
          · omega
        rw [e0] at HF
        have HE2 : Hid (R = ((till, a), (out, 0))) := Lib.hid (by
          have h1 := HX.out.2.2.1
          have h2 := HX.out.2.2.2
          rw [HST.out, if_pos (.inl h0)] at h1 h2
          rw [HE.out, ← h1, ← h2, List.append_nil, if_neg (by omega)])
        have HX1 := Lib.hid HX.out.1
        clear HX HST h0 e0 z0 z1 z2 f0 f1 f2
        go_wp2_with fail
        with_reducible refine HF.out.mono ?_
        rintro e w1 ⟨rfl, b1⟩
        clear y0 y1 y2 yf ly lr
        have p1 := HX1.out.below b1
        have HD := Lib.hid (p1.done till)
        have y0 : w1.cell? ⟨w.heap.size, 0, none⟩ = some (.int .i64 now) := (cell_of_heap p1.bx).trans rfl
        have y1 : w1.cell? ⟨w.heap.size, 1, none⟩ = some (.int .i64 made) := (cell_of_heap p1.bx).trans rfl
        have y2 : w1.cell? ⟨w.heap.size, 2, none⟩ = some (.slice oa a.length ca) := (cell_of_heap p1.bx).trans rfl
        have yf := thaw (k := 0) p1.bx
        have z0 : w1.cell? ⟨w.heap.size + 1, 0, none⟩ = some (.int .i64 0) := (cell_of_heap p1.rs).trans rfl
        have z1 : w1.cell? ⟨w.heap.size + 1, 1, none⟩ = some (.int .i64 0) := (cell_of_heap p1.rs).trans rfl
        have z2 : w1.cell? ⟨w.heap.size + 1, 2, none⟩ = some (.slice none 0 0) := (cell_of_heap p1.rs).trans rfl
        have f0 := thaw (k := 0) p1.rs
        have f1 := thaw (k := 1) p1.rs
        have f2 := thaw (k := 2) p1.rs
        have ly := heap_lt p1.bx
        have lr := heap_lt p1.rs
        clear p1 b1 HX1 HF
        go_wp2_with fail
        refine bodyPost_ret (results_row_tmp2 rfl _ _ (w.heap.size + 1) 28 _ (0, 0) _ rfl HD.out.2.1 Try.underlying28 rfl (by kernel_rfl)) rfl ?_
        obtain rfl := HE2.out.symm
        exact ⟨oa, ca, ao, ac, rfl, HD.out.2.2.1, HD.out.2.2.2, HD.out.1⟩
      · obtain ⟨i, hi, hil⟩ : ∃ i : Nat, tm.fst a = (i : Int) ∧ i < a.length := by
          rcases tm.fstN_bd a a.length with ⟨e, _⟩ | ⟨b, e, hb⟩
          · exact absurd e h0
          · exact ⟨b, e, hb⟩
        rw [hi] at HF
        rw [hi, Int.toNat_natCast] at HST
        have hii : (i : Int) < (a.length : Int) := by omega
        have hi0 : ¬ ((i : Int) < 0) := by omega
        clear hi
        have HST2 : Hid (a.length ≠ 0) := Lib.hid h0
        clear h0 hne z0 z1 z2 f0 f1 f2
        have HX1 := Lib.hid HX.out.1
        have HX2 := Lib.hid HX.out.2
        have HBd := Lib.hid (tm.Bds.step HX.out.2.1 i hil)
        have HTb := Lib.hid (HX.out.2.1 (tm.ix a i) (by rw [tm.ix_get hil]; exact List.getElem_mem hil))
        clear HX
        go_wp2_with fail
        with_reducible refine HF.out.mono ?_
        rintro e w1 ⟨rfl, b1⟩
        clear y0 y1 y2 yf ly lr
        have p1 := HX1.out.below b1
        obtain ⟨bA, offA, eA, hbA, d0, d1, d2, d3⟩ := RIn.cell p1.ra i hil
        subst eA
        obtain ⟨t, ht⟩ : ∃ t, tm.ix a i = t := ⟨_, rfl⟩
        rw [ht] at d0 d1 d2 d3 HST HBd HTb
        have HT := Lib.hid ht
        have y0 : w1.cell? ⟨w.heap.size, 0, none⟩ = some (.int .i64 now) := (cell_of_heap p1.bx).trans rfl
        have y1 : w1.cell? ⟨w.heap.size, 1, none⟩ = some (.int .i64 made) := (cell_of_heap p1.bx).trans rfl
        have y2 : w1.cell? ⟨w.heap.size, 2, none⟩ = some (.slice (some ⟨bA, offA, none⟩) a.length ca) := (cell_of_heap p1.bx).trans rfl
        have yf := thaw (k := 0) p1.bx
        have ly := heap_lt p1.bx
        have lr := heap_lt p1.rs
        have HP1 := Lib.hid p1
        clear ht b1 HX1 HF
        by_cases hdue : till < t.due
        · have g1 : decide (till < t.due) = true := decide_eq_true hdue
          have HE2 : Hid (R = ((till, a), (out, 0))) := Lib.hid (by
            have h1 := HX2.out.2.1
            have h2 := HX2.out.2.2
            rw [HST.out, if_pos (.inr hdue)] at h1 h2
            rw [HE.out, ← h1, ← h2, List.append_nil, if_neg (by omega)])
          have HD := Lib.hid (p1.done till)
          have z0 : w1.cell? ⟨w.heap.size + 1, 0, none⟩ = some (.int .i64 0) := (cell_of_heap p1.rs).trans rfl
          have z1 : w1.cell? ⟨w.heap.size + 1, 1, none⟩ = some (.int .i64 0) := (cell_of_heap p1.rs).trans rfl
          have z2 : w1.cell? ⟨w.heap.size + 1, 2, none⟩ = some (.slice none 0 0) := (cell_of_heap p1.rs).trans rfl
          have f0 := thaw (k := 0) p1.rs
          have f1 := thaw (k := 1) p1.rs
          have f2 := thaw (k := 2) p1.rs
          clear p1 HP1 HX2 HST HBd hdue
          go_wp2_with fail
          refine bodyPost_ret (results_row_tmp2 rfl _ _ (w.heap.size + 1) 28 _ (0, 0) _ rfl HD.out.2.1 Try.underlying28 rfl (by kernel_rfl)) rfl ?_
          obtain rfl := HE2.out.symm
          exact ⟨_, ca, ao, ac, rfl, HD.out.2.2.1, HD.out.2.2.2, HD.out.1⟩
        · have g1 : decide (till < t.due) = false := decide_eq_false hdue
          have HS : Hid ((out ++ [t]) ++ (tm.rp g (tm.rstep a t) till).1 = A ∧ (tm.rp g (tm.rstep a t) till).2 = l2) := Lib.hid (by
            have h1 := HX2.out.2.1
            have h2 := HX2.out.2.2
            have e := HST.out
            rw [if_neg (by rintro (x | x); · exact HST2.out x
                           · exact hdue x)] at e
            rw [e] at h1 h2
            exact ⟨by rw [List.append_assoc]; exact h1, h2⟩)
          clear p1 HX2 HST hdue
          have bb := below_one w1 (rtO t)
          have ab := heap_alloc_new w1 (rtO t)
          obtain ⟨W2, hW2⟩ : ∃ W, w1.alloc (rtO t) = W := ⟨_, rfl⟩
          rw [hW2] at bb ab
          have p2 := HP1.out.below bb
          have HLn : Hid (out.length ≤ 15) := Lib.hid (by omega)
          obtain ⟨x, hx⟩ : ∃ x, w1.heap.size = x := ⟨_, rfl⟩
          have HXo : Hid (∀ y, (Value.slice ao out.length ac).ownBlock = some y → y < x) := Lib.hid (fun y hy => by have := (HP1.out.ro.lt y hy).2; omega)
          have hxB : w.heap.size + 1 < x := by rw [← hx]; exact lr
          rw [hx] at ab
          have v0 : W2.cell? ⟨x, 0, none⟩ = some (.int .i64 t.id) := (cell_of_heap ab).trans rfl
          have v1 : W2.cell? ⟨x, 1, none⟩ = some (.int .i64 t.owner) := (cell_of_heap ab).trans rfl
          have v2 : W2.cell? ⟨x, 2, none⟩ = some (.int .i64 t.due) := (cell_of_heap ab).trans rfl
          have v3 : W2.cell? ⟨x, 3, none⟩ = some (.int .i64 t.every) := (cell_of_heap ab).trans rfl
          have lx := heap_lt ab
          obtain ⟨L, hL⟩ : ∃ L, out ++ [t] = L := ⟨_, rfl⟩
          have HLL := Lib.hid hL
          have HLn2 : Hid (L.length = out.length + 1) := Lib.hid (by rw [← hL]; simp)
          rw [hL] at HS
          have HP2 := Lib.hid (And.intro p2 ab)
          have hB2 : w.heap.size + 2 ≤ W2.heap.size := by omega
          clear p2 ab bb hL HP1
          go_upto_region 10 with fail
          go_wp2_with (at_builtin; go_loud (refine wpList_tm W2 t rfl _ _ rfl (w.heap.size + 2) (.slice ao out.length ac) out L HLL.out rfl HP2.out.1.ro W2.heap.size rfl rfl (by have := HLn.out; omega) hB2 ?_))
          intro V' w5 r1 r2
          obtain ⟨ao', ac', rfl⟩ := own_slice r1
          have p5 := HP2.out.1.push r1 r2
          have ab5 := ((Fr.of_grown r2).block _ (heap_lt HP2.out.2) (fun e => by have := HXo.out _ e; omega)).trans HP2.out.2
          have HW := Lib.hid (without_any _ a.length ca a t.id 0 _ w5 p5.ra (by omega))
          clear y0 y1 y2 yf ly lr v0 v1 v2 v3 lx r1 r2 d0 d1 d2 d3 g1 hbA
          have y2 : w5.cell? ⟨w.heap.size, 2, none⟩ = some (.slice (some ⟨bA, offA, none⟩) a.length ca) := (cell_of_heap p5.bx).trans rfl
          have ly := heap_lt p5.bx
          have v0 : w5.cell? ⟨x, 0, none⟩ = some (.int .i64 t.id) := (cell_of_heap ab5).trans rfl
          have lx := heap_lt ab5
          have HP5 := Lib.hid (And.intro p5 ab5)
          clear p5 ab5 HP2
          go_wp2_with fail
          with_reducible refine HW.out.mono ?_
          rintro e w6 ⟨o6, c6, rfl, ro6, b6⟩
          clear y2 ly v0 lx
          have p6' := HP5.out.1.below b6
          have y2 : w6.cell? ⟨w.heap.size, 2, none⟩ = some (.slice (some ⟨bA, offA, none⟩) a.length ca) := (cell_of_heap p6'.bx).trans rfl
          have yf := thaw (k := 2) p6'.bx
          have ly := heap_lt p6'.bx
          have p6 := HP5.out.1.setA b6 ro6
          have ab6 := (Below.heap_setCell w6 ⟨w.heap.size, 2, none⟩ (.slice o6 (tm.wo t.id 0 a).length c6) x (by show x ≠ w.heap.size; omega)).trans ((b6.block _ (heap_lt HP5.out.2)).trans HP5.out.2)
          have hlc6 := (ROwn.toIn ro6).len
          have HW6 := Lib.hid (And.intro p6 ab6)
          have hwl : (tm.wo t.id 0 a).length < a.length := by have := tm.wo_less a 0 i hil; rwa [HT.out] at this
          clear p6' p6 ab6 b6 ro6 HP5 HW
          go_upto_region 12 with fail
          obtain ⟨M, hM⟩ : ∃ M, tm.wo t.id 0 a = M := ⟨_, rfl⟩
          rw [hM] at HW6 hlc6 hwl
          rw [hM]
          have HM := Lib.hid hM
          clear hM
          obtain ⟨W7, hW7⟩ : ∃ W, w6.setCell ⟨w.heap.size, 2, none⟩ (.slice o6 M.length c6) = W := ⟨_, rfl⟩
          rw [hW7] at HW6
          change Code.wp _ _ _ _ (w6.setCell ⟨w.heap.size, 2, none⟩ (.slice o6 M.length c6))
          rw [hW7]
          clear hW7 y2 yf ly
          have y2 : W7.cell? ⟨w.heap.size, 2, none⟩ = some (.slice o6 M.length c6) := (cell_of_heap HW6.out.1.bx).trans rfl
          have ly := heap_lt HW6.out.1.bx
          have v0 : W7.cell? ⟨x, 0, none⟩ = some (.int .i64 t.id) := (cell_of_heap HW6.out.2).trans rfl
          have v1 : W7.cell? ⟨x, 1, none⟩ = some (.int .i64 t.owner) := (cell_of_heap HW6.out.2).trans rfl
          have v2 : W7.cell? ⟨x, 2, none⟩ = some (.int .i64 t.due) := (cell_of_heap HW6.out.2).trans rfl
          have v3 : W7.cell? ⟨x, 3, none⟩ = some (.int .i64 t.every) := (cell_of_heap HW6.out.2).trans rfl
          have lx := heap_lt HW6.out.2
          have hm64 : M.length ≤ 64 := by omega
          obtain ⟨-, hmc, hcm6⟩ := hlc6
          by_cases hev : 0 < t.every
          · have ew : wrap64 (t.due + t.every) = t.due + t.every := by have := HTb.out; unfold wrap64; omega
            by_cases hmx : t.due + t.every ≤ 1099511627776
            · have HRS : Hid (tm.rstep a t = M ++ [(⟨t.id, t.owner, t.due + t.every, t.every⟩ : tm.T)]) := Lib.hid (by unfold tm.rstep; rw [if_pos ⟨hev, hmx⟩, HM.out])
              obtain ⟨N, hN⟩ : ∃ N, M ++ [(⟨t.id, t.owner, t.due + t.every, t.every⟩ : tm.T)] = N := ⟨_, rfl⟩
              rw [hN] at HRS
              have HNl : Hid (N.length = M.length + 1) := Lib.hid (by rw [← hN]; simp)
              have HW := Lib.hid (hN ▸ with_any o6 M.length c6 M ⟨t.id, t.owner, t.due + t.every, t.every⟩ _ W7 HW6.out.1.ra (by omega))
              clear hN
              go_wp2_with fail
              with_reducible refine HW.out.mono ?_
              rintro e w8 ⟨o8, c8, rfl, ro8, b8⟩
              clear y2 ly v0 v1 v2 v3 lx
              have p8' := HW6.out.1.below b8
              have y2 : w8.cell? ⟨w.heap.size, 2, none⟩ = some (.slice o6 M.length c6) := (cell_of_heap p8'.bx).trans rfl
              have yf := thaw (k := 2) p8'.bx
              have ly := heap_lt p8'.bx
              have hlc8 := (ROwn.toIn ro8).len
              have HF8 : Hid (PW w.heap.size w D (w8.setCell ⟨w.heap.size, 2, none⟩ (.slice o8 N.length c8)) now made (.slice o8 N.length c8) N (.slice ao' L.length ac') L (fun k => (Value.slice ao' L.length ac').ownBlock ≠ some k) ∧ tm.Bds N ∧ L ++ (tm.rp g N till).1 = A ∧ (tm.rp g N till).2 = l2) := Lib.hid ⟨HW6.out.1.setA b8 ro8, by rw [← HRS.out]; exact HBd.out.1, by rw [← HRS.out]; exact HS.out.1, by rw [← HRS.out]; exact HS.out.2⟩
              clear p8' b8 ro8 HW HW6
              go_wp2_with fail
              go_roundg g
              case measure => omega
              case rel => exact ⟨g, L, N, o8, ao', c8, ac', rfl, by have := HLn2.out; omega, Nat.le_refl _, by have := HNl.out; omega, hlc8.2.1, hlc8.2.2, HF8⟩
            · have HRS : Hid (tm.rstep a t = M) := Lib.hid (by unfold tm.rstep; rw [if_neg (fun x => hmx x.2), HM.out])
              have HF8 : Hid (PW w.heap.size w D W7 now made (.slice o6 M.length c6) M (.slice ao' L.length ac') L (fun k => (Value.slice ao' L.length ac').ownBlock ≠ some k) ∧ tm.Bds M ∧ L ++ (tm.rp g M till).1 = A ∧ (tm.rp g M till).2 = l2) := Lib.hid ⟨HW6.out.1, by rw [← HRS.out]; exact HBd.out.1, by rw [← HRS.out]; exact HS.out.1, by rw [← HRS.out]; exact HS.out.2⟩
              clear HW6
              go_wp2_with fail
              go_roundg g
              case measure => omega
              case rel => exact ⟨g, L, M, o6, ao', c6, ac', rfl, by have := HLn2.out; omega, Nat.le_refl _, by omega, hmc, hcm6, HF8⟩
          · have HRS : Hid (tm.rstep a t = M) := Lib.hid (by unfold tm.rstep; rw [if_neg (fun x => hev x.1), HM.out])
            have HF8 : Hid (PW w.heap.size w D W7 now made (.slice o6 M.length c6) M (.slice ao' L.length ac') L (fun k => (Value.slice ao' L.length ac').ownBlock ≠ some k) ∧ tm.Bds M ∧ L ++ (tm.rp g M till).1 = A ∧ (tm.rp g M till).2 = l2) := Lib.hid ⟨HW6.out.1, by rw [← HRS.out]; exact HBd.out.1, by rw [← HRS.out]; exact HS.out.1, by rw [← HRS.out]; exact HS.out.2⟩
            clear HW6
            go_wp2_with fail
            go_roundg g
            case measure => omega
            case rel => exact ⟨g, L, M, o6, ao', c6, ac', rfl, by have := HLn2.out; omega, Nat.le_refl _, by omega, hmc, hcm6, HF8⟩
end Go.Proofs.Ytfelmnhhldgobaa
