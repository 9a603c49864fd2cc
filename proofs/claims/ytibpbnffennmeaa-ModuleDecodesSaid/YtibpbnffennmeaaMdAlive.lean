/- The document's examples of layer 12 hold: alive returns true, in every memory. -/
import Derived.Test.YtibpbnffennmeaaMdDecode
import Derived.Test.YtibpbnffennmeaaMdWrite
namespace Go.Proofs.Ytibpbnffennmeaa
open Go.RowKit
abbrev insO1 (op n : Int) : Obj := .cells #[.int .i64 op, .int .i64 n] 37
abbrev fnO1 (g : Nat) : Obj := .cells #[.int .i64 0, .int .i64 0, .int .i64 0, .slice (some ⟨g, 0, none⟩) 1 1] 40
/-- a module that pushes a number, written out -/
theorem push_in (n : Int) (w : World) (g h : Nat) (hg : w.heap.size = g) (hh : h = g + 1) : ModIn ((w.alloc (insO1 1 n)).alloc (fnO1 g)) (fun k => k < ((w.alloc (insO1 1 n)).alloc (fnO1 g)).heap.size) (.slice none 0 0) (.slice (some ⟨h, 0, none⟩) 1 1) (md.push n) := by
  subst hg hh
  have hb := below_one (w.alloc (insO1 1 n)) (fnO1 w.heap.size)
  have h1 := (hb.block w.heap.size (by simp)).trans (heap_alloc_new w (insO1 1 n))
  have h2 := heap_alloc_new (w.alloc (insO1 1 n)) (fnO1 w.heap.size)
  rw [World.size_alloc] at h2
  refine ⟨RowIn.nil _ _ _, [.int .i64 0, .int .i64 0, .int .i64 0, .slice (some ⟨w.heap.size, 0, none⟩) 1 1], ?_, ?_⟩
  · refine ⟨_, _, rfl, Nat.le_refl _, (show 1 ≤ _ by decide), rfl, .inr ⟨_, 0, rfl, heap_lt h2, heap_lt h2, fun k v hv => ?_⟩⟩
    rw [Nat.zero_add, cell_of_heap h2]
    simpa using hv
  · refine ⟨_, [], rfl, ⟨_, rfl, ?_⟩, rfl⟩
    refine ⟨_, _, rfl, Nat.le_refl _, (show 1 ≤ _ by decide), rfl, .inr ⟨_, 0, rfl, heap_lt h1, heap_lt h1, fun k v hv => ?_⟩⟩
    rw [Nat.zero_add, cell_of_heap h1]
    simpa [codeC, insC] using hv
theorem push_i64 {n : Int} (h : md.i64 n) : md.fnsI (md.push n).funcs := by
  intro f hf i hi
  simp [md.push] at hf
  subst hf
  simp at hi
  subst hi
  exact h
def b15 : List UInt8 := [67, 83, 77, 1, 0, 0, 0, 0, 1, 0, 0, 0, 1, 0, 27]
def b4 : List UInt8 := [67, 83, 77, 2]
def m15 : md.Mod := ⟨0, [], [⟨0, 0, 0, [⟨27, 0⟩]⟩]⟩
theorem dec15 : md.dec b15 = m15 ∧ md.code b15 = 0 ∧ md.place b15 = 0 := ⟨by kernel_rfl, by kernel_rfl, by kernel_rfl⟩
theorem dec4 : md.dec b4 = md.zero ∧ md.code b4 = 120 ∧ md.place b4 = 3 := ⟨by kernel_rfl, by kernel_rfl, by kernel_rfl⟩
theorem encm1 : md.err (md.push (-1)) = 0 ∧ md.enc (md.push (-1)) = b15.dropLast ++ [1, 1] := ⟨md.err_push _, by unfold md.enc; rw [md.err_push]; kernel_rfl⟩
/-- a call of Decode whose answer is known -/
theorem decode_then (D : Nat → Prop) (V : Value) (b : List UInt8) (w : World) (h : BsIn w D V b) (m : md.Mod) (c p : Nat) (hd : md.dec b = m ∧ md.code b = c ∧ md.place b = p) (mem : Int) (nd nf : Nat) (h1 : m.mem = mem) (h2 : m.data.length = nd) (h3 : m.funcs.length = nf) :
    Calls Try.prog 5 #[V] w fun e w' => ∃ od cd of cf, e = .returned (.tuple #[.agg #[.int .i64 mem, .slice od nd cd, .slice of nf cf], .agg #[.int .i64 (c : Nat), .int .i64 (p : Nat)]]) ∧ ModO w' w.heap.size (.slice od nd cd) (.slice of nf cf) m ∧ Below w.heap.size w w' := by
  obtain ⟨rfl, rfl, rfl⟩ := hd
  refine (decode_any D V b w h).mono ?_
  rintro e w' ⟨VD, VF, rfl, hm, hb⟩
  obtain ⟨od, cd, of, cf, rfl, rfl, -⟩ := hm.toIn.slices
  subst h1 h2 h3
  exact ⟨od, cd, of, cf, rfl, hm, hb⟩
/-- what lies behind the two boxes into which an answer of Decode is put -/
theorem boxes_two (w : World) (a0 a1 a2 : Value) (c x : Int) (w1 : World) (hw : (w.alloc (.cells #[a0, a1, a2] 26)).alloc (.cells #[.int .i64 c, .int .i64 x] 29) = w1) :
    w1.heap[w.heap.size]? = some (.cells #[a0, a1, a2] 26 (0, 0)) ∧ w1.heap[w.heap.size + 1]? = some (.cells #[.int .i64 c, .int .i64 x] 29 (0, 0)) ∧ Below w.heap.size w w1 := by
  subst hw
  have hb1 := below_one w (.cells #[a0, a1, a2] 26)
  have hb2 := below_one (w.alloc (.cells #[a0, a1, a2] 26)) (.cells #[.int .i64 c, .int .i64 x] 29)
  have hn := heap_alloc_new (w.alloc (.cells #[a0, a1, a2] 26)) (.cells #[.int .i64 c, .int .i64 x] 29)
  rw [World.size_alloc] at hn
  exact ⟨(hb2.block _ (by simp)).trans (heap_alloc_new w _), hn, hb1.trans (hb2.mono (by simp))⟩
set_option maxRecDepth 100000 in
set_option maxHeartbeats 3200000 in
theorem alive_any (w : World) : Calls Try.prog 4 #[] w fun e w' => e = .returned (.bool true) ∧ Below w.heap.size w w' := by
  have hb1 := below_one w (.cells #[.int .u8 67, .int .u8 83, .int .u8 77, .int .u8 1, .int .u8 0, .int .u8 0, .int .u8 0, .int .u8 0, .int .u8 1, .int .u8 0, .int .u8 0, .int .u8 0, .int .u8 1, .int .u8 0, .int .u8 27] 5)
  have HD1 := Lib.hid (decode_then _ _ b15 _ (BsIn.new w b15 #[.int .u8 67, .int .u8 83, .int .u8 77, .int .u8 1, .int .u8 0, .int .u8 0, .int .u8 0, .int .u8 0, .int .u8 1, .int .u8 0, .int .u8 0, .int .u8 0, .int .u8 1, .int .u8 0, .int .u8 27] rfl 15 rfl (by decide)) m15 0 0 dec15 0 0 1 rfl rfl rfl)
  have HB1 := Lib.hid hb1
  clear hb1
  go_enter Try.func4, Try.ntmps4
  go_wp2_with fail
  refine HD1.out.mono ?_
  rintro e w2 ⟨od, cd, of, cf, rfl, hm2, hb2⟩
  have hbw2 := HB1.out.trans (hb2.mono HB1.out.size)
  have H2 := Lib.hid (And.intro hm2.toIn hbw2)
  clear hm2 hb2 hbw2 HD1 HB1
  go_upto_region 3 with fail
  obtain ⟨w3, hw3⟩ : ∃ w3, (w2.alloc (.cells #[.int .i64 0, .slice od 0 cd, .slice of 1 cf] 26)).alloc (.cells #[.int .i64 0, .int .i64 0] 29) = w3 := ⟨_, rfl⟩
  have hx3 := boxes_two w2 _ _ _ _ _ w3 hw3
  rw [hw3]
  have H3 := Lib.hid (And.intro hx3.1 (And.intro hx3.2.1 (And.intro (H2.out.1.below hx3.2.2) (H2.out.2.trans (hx3.2.2.mono H2.out.2.size)))))
  clear hx3 hw3 H2
  generalize w2.heap.size = q at *
  have hb4 := below_one w3 (.cells #[.int .u8 67, .int .u8 83, .int .u8 77, .int .u8 2] 5)
  have HD2 := Lib.hid (decode_then _ _ b4 _ (BsIn.new w3 b4 #[.int .u8 67, .int .u8 83, .int .u8 77, .int .u8 2] rfl 4 rfl (by decide)) md.zero 120 3 dec4 0 0 0 rfl rfl rfl)
  have HB4 := Lib.hid hb4
  clear hb4
  go_wp2_with fail
  refine HD2.out.mono ?_
  rintro e w4 ⟨od4, cd4, of4, cf4, rfl, -, hb5⟩
  have hb35 := HB4.out.trans (hb5.mono HB4.out.size)
  have H4 := Lib.hid (And.intro ((hb35.block _ (heap_lt H3.out.1)).trans H3.out.1) (And.intro ((hb35.block _ (heap_lt H3.out.2.1)).trans H3.out.2.1) (And.intro (H3.out.2.2.1.below hb35) (H3.out.2.2.2.trans (hb35.mono H3.out.2.2.2.size)))))
  clear hb5 hb35 HD2 HB4 H3
  go_upto_region 4 with fail
  obtain ⟨w5, hw5⟩ : ∃ w5, (w4.alloc (.cells #[.int .i64 0, .slice od4 0 cd4, .slice of4 0 cf4] 26)).alloc (.cells #[.int .i64 120, .int .i64 3] 29) = w5 := ⟨_, rfl⟩
  have hx5 := boxes_two w4 _ _ _ _ _ w5 hw5
  rw [hw5]
  have H5 := Lib.hid (And.intro ((hx5.2.2.block _ (heap_lt H4.out.1)).trans H4.out.1) (And.intro ((hx5.2.2.block _ (heap_lt H4.out.2.1)).trans H4.out.2.1) (And.intro (H4.out.2.2.1.below hx5.2.2) (And.intro hx5.2.1 (H4.out.2.2.2.trans (hx5.2.2.mono H4.out.2.2.2.size))))))
  clear hx5 hw5 H4
  generalize w4.heap.size = q5 at *
  have hb6 := (below_one w5 (insO1 1 (-1))).trans ((below_one (w5.alloc (insO1 1 (-1))) (fnO1 w5.heap.size)).mono (by simp))
  have HE := Lib.hid (encode_any _ (md.push (-1)) _ _ _ (push_in (-1) w5 w5.heap.size (w5.heap.size + 1) rfl rfl) (fun k hk => hk) (push_i64 ⟨by decide, by decide⟩))
  have HB6 := Lib.hid hb6
  clear hb6
  go_wp2_with fail
  refine HE.out.mono ?_
  rintro e w6 ⟨v6, rfl, hr6, hb7⟩
  rw [encm1.2] at hr6
  rw [encm1.1]
  have hb56 := HB6.out.trans (hb7.mono HB6.out.size)
  have x0 := (hb56.block _ (heap_lt H5.out.1)).trans H5.out.1
  have x1 := (hb56.block _ (heap_lt H5.out.2.1)).trans H5.out.2.1
  have x2 := (hb56.block _ (heap_lt H5.out.2.2.2.1)).trans H5.out.2.2.2.1
  have xm := H5.out.2.2.1.below hb56
  have HB7 := Lib.hid (H5.out.2.2.2.2.trans (hb56.mono H5.out.2.2.2.2.size))
  obtain ⟨g, cap6, rfl, -, hg6, hc6, hm6⟩ : ∃ g cap, v6 = .slice (some ⟨g, 0, none⟩) 16 cap ∧ w.heap.size ≤ w.heap.size ∧ g < w6.heap.size ∧ 16 ≤ cap ∧ cap ≤ maxLen := by
    rcases hr6.2 with ⟨_, h0⟩ | ⟨g, cap, cur, rfl, hb, hg, hc, hm, _⟩
    · cases h0
    · exact ⟨g, cap, rfl, Nat.le_refl _, heap_lt hg, hc, hm⟩
  have y14 : w6.cell? ⟨g, 14, none⟩ = some (.int .u8 1) := (World.ownsRow.cellAt hr6 14 (by decide)).trans rfl
  have y15 : w6.cell? ⟨g, 15, none⟩ = some (.int .u8 1) := (World.ownsRow.cellAt hr6 15 (by decide)).trans rfl
  obtain ⟨b, off, oc, cc, rfl, -, hlb, -, -, -, k3, hin⟩ := FnsIn.cell xm.fns 0 (by decide)
  obtain ⟨b2, off2, rfl, -, hlb2, q0, -⟩ := InsIn.cell hin 0 (by decide)
  simp only [Nat.zero_mul, Nat.add_zero] at k3 q0
  have f0 : w6.cell? ⟨q + 1, 0, none⟩ = some (.int .i64 0) := (cell_of_heap x1).trans rfl
  have f5 : w6.cell? ⟨q5 + 1, 0, none⟩ = some (.int .i64 120) := (cell_of_heap x2).trans rfl
  have f6 : w6.cell? ⟨q5 + 1, 1, none⟩ = some (.int .i64 3) := (cell_of_heap x2).trans rfl
  have k2 : w6.cell? ⟨q, 2, none⟩ = some (.slice (some ⟨b, off, none⟩) 1 cf) := (cell_of_heap x0).trans rfl
  replace k3 : w6.cell? ⟨b, off + 3, none⟩ = some (.slice (some ⟨b2, off2, none⟩) 1 cc) := k3
  replace q0 : w6.cell? ⟨b2, off2, none⟩ = some (.int .i64 27) := q0
  have hlt0 := heap_lt x0
  have hlt1 := heap_lt x1
  have hlt2 := heap_lt x2
  have hcf : 1 ≤ cf := by
    obtain ⟨cs, hrr, -⟩ := xm.fns
    exact (RowIn.lens hrr).2.1
  have hcc : 1 ≤ cc := (RowIn.lens hin).2.1
  have HH1 := Lib.hid (fun W => has_any 1 W)
  have HH2 := Lib.hid (fun W => has_any 27 W)
  rw [show md.has 1 = true from rfl] at HH1
  rw [show md.has 27 = false from rfl] at HH2
  clear hr6 hb7 hb56 x0 x1 x2 xm hin HE HB6 H5
  go_wp2_with fail
  refine (HH1.out _).mono ?_
  rintro e w' ⟨rfl, hw⟩
  replace hw := hw.symm
  subst hw
  go_wp2_with fail
  refine (HH2.out _).mono ?_
  rintro e w' ⟨rfl, hw⟩
  replace hw := hw.symm
  subst hw
  go_wp2_with fail
  go_ret
  exact ⟨rfl, HB7.out⟩
end Go.Proofs.Ytibpbnffennmeaa
