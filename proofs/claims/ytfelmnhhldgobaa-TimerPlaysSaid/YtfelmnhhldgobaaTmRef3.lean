/- The document's timers: Sorted, Set. -/
import Derived.Test.YtfelmnhhldgobaaTmRef2
namespace Go.Proofs.Ytfelmnhhldgobaa
open Go.RowKit
set_option maxHeartbeats 400000 in
theorem sorted_any (o : Option Addr) (n cap : Nat) (l : List tm.T) (w : World) (h : RIn w (fun _ => True) (.slice o n cap) l) (hn : l.length ≤ 512) : Calls Try.prog 21 #[.slice o n cap] w fun e w' => RAns w w' e (tm.srt l.length l) := by
  obtain ⟨rfl, hnc, hcm⟩ := h.len
  have HR := Lib.hid (RO.new w w w.heap.size (Below.refl _ _) (Nat.le_refl _))
  have HA : Hid (RIn (w.alloc (.cells #[] 50)) (fun k => (Value.slice (some ⟨w.heap.size, 0, none⟩) 0 0).ownBlock ≠ some k) (.slice o l.length cap) l) := Lib.hid (RowIn.below (RowIn.wide h fun k _ hk e => by obtain rfl := Option.some.inj e; exact Nat.lt_irrefl _ hk) (below_one w _))
  clear h
  obtain ⟨R, hR⟩ : ∃ R, tm.srt l.length l = R := ⟨_, rfl⟩
  rw [hR]
  have HF := Lib.hid hR
  clear hR
  go_enter Try.func21, Try.ntmps21
  go_wp2_with fail
  go_loopg [0, 3] l.length (fun gg s0 s3 wr => ∃ (f : Nat) (a out : List tm.T) (oa ao : Option Addr) (ca ac : Nat), s0 = .slice oa a.length ca ∧ s3 = .slice ao out.length ac ∧ f ≤ gg ∧ a.length ≤ f ∧ a.length ≤ 512 ∧ a.length ≤ ca ∧ Hid (RO w.heap.size w wr (.slice ao out.length ac) out ∧ RIn wr (fun k => (Value.slice ao out.length ac).ownBlock ≠ some k) (.slice oa a.length ca) a ∧ out ++ tm.srt f a = R ∧ out.length + a.length ≤ 512))
  case atStart => exact ⟨l.length, l, [], o, _, cap, 0, rfl, rfl, Nat.le_refl _, Nat.le_refl _, hn, hnc, Lib.hid ⟨HR.out, HA.out, HF.out, by simpa using hn⟩⟩
  case round =>
    clear HR HA HF
    obtain ⟨f, a, out, oa, ao, ca, ac, rfl, rfl, hfg, hgg, ha5, hca, HX⟩ := hrel
    have hB : w.heap.size ≤ wr.heap.size := HX.out.1.bel.size
    by_cases h0 : a.length = 0
    · have h0' : ¬ (0 : Int) < (a.length : Int) := by omega
      have HE : Hid (out = R) := Lib.hid (by
        have := HX.out.2.2.1
        have e : tm.srt f a = [] := by
          cases f with
          | zero => rfl
          | succ g => unfold tm.srt; rw [if_pos h0]
        rwa [e, List.append_nil] at this)
      go_wp2_with fail
      go_ret
      obtain rfl := HE.out
      exact ⟨_, _, rfl, HX.out.1.own, HX.out.1.bel⟩
    · have h0' : (0 : Int) < (a.length : Int) := by omega
      obtain ⟨g, rfl⟩ : ∃ g, f = g + 1 := ⟨f - 1, by omega⟩
      have HF := Lib.hid (first_any oa a.length ca a _ wr HX.out.2.1)
      obtain ⟨i, hi, hil⟩ : ∃ i : Nat, tm.fst a = (i : Int) ∧ i < a.length := by
        rcases tm.fstN_bd a a.length with ⟨e, _⟩ | ⟨b, e, hb⟩
        · exact absurd e h0
        · exact ⟨b, e, hb⟩
      rw [hi] at HF
      have hli := tm.wo_less a 0 i hil
      have HS : Hid (out ++ (tm.ix a i :: tm.srt g (tm.wo (tm.ix a i).id 0 a)) = R) := Lib.hid (by
        have := HX.out.2.2.1
        unfold tm.srt at this
        rwa [if_neg h0, hi, Int.toNat_natCast] at this)
      have hii : (i : Int) < (a.length : Int) := by omega
      have hi0 : ¬ ((i : Int) < 0) := by omega
      clear hi
      go_wp2_with fail
      with_reducible refine HF.out.mono ?_
      rintro e w1 ⟨rfl, b1⟩
      have HX1 : Hid (RO w.heap.size w w1 (.slice ao out.length ac) out ∧ RIn w1 (fun k => (Value.slice ao out.length ac).ownBlock ≠ some k) (.slice oa a.length ca) a) := Lib.hid ⟨⟨row_below HX.out.1.own b1, HX.out.1.bel.trans (b1.mono hB)⟩, RowIn.below HX.out.2.1 b1⟩
      have HL := Lib.hid HX.out.2.2.2
      obtain ⟨b, off, rfl, hb, d0, d1, d2, d3⟩ := RIn.cell HX1.out.2 i hil
      obtain ⟨t, ht⟩ : ∃ t, tm.ix a i = t := ⟨_, rfl⟩
      rw [ht] at d0 d1 d2 d3 HS hli
      clear ht b1 HX HF
      have bb := below_one w1 (rtO t)
      have ab := heap_alloc_new w1 (rtO t)
      obtain ⟨W2, hW2⟩ : ∃ W, w1.alloc (rtO t) = W := ⟨_, rfl⟩
      rw [hW2] at bb ab
      have hB2 : w.heap.size ≤ W2.heap.size := Nat.le_trans HX1.out.1.bel.size bb.size
      have HX2 : Hid (RO w.heap.size w W2 (.slice ao out.length ac) out ∧ RIn W2 (fun k => (Value.slice ao out.length ac).ownBlock ≠ some k) (.slice (some ⟨b, off, none⟩) a.length ca) a ∧ W2.heap[w1.heap.size]? = some (rtO t) ∧ ∀ y, (Value.slice ao out.length ac).ownBlock = some y → y < w1.heap.size) := Lib.hid ⟨⟨row_below HX1.out.1.own bb, HX1.out.1.bel.trans (bb.mono HX1.out.1.bel.size)⟩, RowIn.below HX1.out.2 bb, ab, fun y hy => (HX1.out.1.own.lt y hy).2⟩
      have y0 : W2.cell? ⟨w1.heap.size, 0, none⟩ = some (.int .i64 t.id) := (cell_of_heap ab).trans rfl
      have y1 : W2.cell? ⟨w1.heap.size, 1, none⟩ = some (.int .i64 t.owner) := (cell_of_heap ab).trans rfl
      have y2 : W2.cell? ⟨w1.heap.size, 2, none⟩ = some (.int .i64 t.due) := (cell_of_heap ab).trans rfl
      have y3 : W2.cell? ⟨w1.heap.size, 3, none⟩ = some (.int .i64 t.every) := (cell_of_heap ab).trans rfl
      have lx := heap_lt ab
      have hb2 : b < W2.heap.size := Nat.lt_of_lt_of_le hb bb.size
      obtain ⟨LL, hLL⟩ : ∃ LL, out ++ [t] = LL := ⟨_, rfl⟩
      have HLL := Lib.hid hLL
      clear bb ab hLL HX1
      go_upto_region 4 with fail
      go_wp2_with (at_builtin; go_loud (refine wpList_tm W2 t rfl _ _ rfl w.heap.size (.slice ao out.length ac) out LL HLL.out rfl HX2.out.1.own W2.heap.size rfl rfl (by have := HL.out; omega) hB2 ?_))
      intro V' w5 r1 r2
      obtain ⟨ao', ac', rfl⟩ := own_slice r1
      have f5 := Fr.of_grown r2
      have ra := HX2.out.2.1.keep (fun k hd hk => f5.block k hk hd) f5.size (D' := fun _ => True) (fun _ _ _ => trivial)
      have ab5 := (f5.block _ (heap_lt HX2.out.2.2.1) (fun e => by have := HX2.out.2.2.2 _ e; omega)).trans HX2.out.2.2.1
      have H5 := Lib.hid (HX2.out.1.push hB2 r1 r2)
      have HW := Lib.hid (without_any (some ⟨b, off, none⟩) a.length ca a t.id 0 _ w5 ra (by omega))
      have z0 : w5.cell? ⟨w1.heap.size, 0, none⟩ = some (.int .i64 t.id) := (cell_of_heap ab5).trans rfl
      have lz := heap_lt ab5
      clear r1 r2 f5 ra ab5 HX2 y0 y1 y2 y3 lx d0 d1 d2 d3
      go_wp2_with fail
      with_reducible refine HW.out.mono ?_
      rintro e w6 ⟨o6, c6, rfl, ro6, b6⟩
      have H6 : Hid (RO w.heap.size w w6 (.slice ao' LL.length ac') LL ∧ RIn w6 (fun k => (Value.slice ao' LL.length ac').ownBlock ≠ some k) (.slice o6 (tm.wo t.id 0 a).length c6) (tm.wo t.id 0 a) ∧ LL ++ tm.srt g (tm.wo t.id 0 a) = R ∧ LL.length + (tm.wo t.id 0 a).length ≤ 512) := Lib.hid ⟨⟨row_below H5.out.own b6, H5.out.bel.trans (b6.mono H5.out.bel.size)⟩, RowIn.wide (ROwn.toIn ro6) (fun k hk _ e => by have := (H5.out.own.lt k e).2; omega), by rw [← HLL.out, List.append_assoc]; exact HS.out, by rw [← HLL.out, List.length_append, List.length_singleton]; have := HL.out; omega⟩
      have hlc := (ROwn.toIn ro6).len.2.1
      clear ro6 b6 H5 HW
      go_wp2_with fail
      go_roundg g
      case measure => omega
      case rel => exact ⟨g, tm.wo t.id 0 a, LL, o6, ao', c6, ac', rfl, rfl, Nat.le_refl _, by omega, by omega, hlc, H6⟩
end Go.Proofs.Ytfelmnhhldgobaa
