/- TimerOrder. -/
import Derived.Test.YtfelmnhhldgobaaTmSetFn
import Derived.Test.YtfelmnhhldgobaaTmTwo
import Derived.Test.YtfelmnhhldgobaaTmOrdM
namespace Go.Proofs.Ytfelmnhhldgobaa
open Go.RowKit
theorem inC_snoc (l : List Int) (i : Int) : inC (l ++ [i]) = inC l ++ [.int .i64 i] := by simp [inC]
/-- a number more behind a row of one's own; the world ahead of the literal is w0 -/
theorem wpList_num (w0 : World) (i : Int) {ops : Array Oper} {rest : List Oper} {op : Oper} {a : Act} {Q : Exit → Act → World → Prop} (hgd : op.guard = none) (s x : Operand)
    (ho : op.op = Op.call { callee := Callee.builtin Builtin.append, args := #[s, x], argTypes := #[59, 59] }) (B : Nat) (V : Value) (l l' : List Int) (hl' : l ++ [i] = l') (hs : a.eval s = V) (hown : w0.ownsRow B 3 1 V l.length (inC l))
    (g : Nat) (hg0 : g = w0.heap.size) (hx : a.eval x = .slice (some ⟨g, 0, none⟩) 1 1) (hlen : l.length ≤ 1000) (hB : B ≤ w0.heap.size)
    (h : ∀ V' w', w'.ownsRow B 3 1 V' l'.length (inC l') → w0.grownBy w' V.ownBlock → (V'.ownBlock = V.ownBlock ∨ ∀ y, V'.ownBlock = some y → w0.heap.size ≤ y) → wpList Try.prog ops Q rest (a.put op.dst V') w') : wpList Try.prog ops Q (op :: rest) a (w0.alloc (.cells #[.int .i64 i] 3)) := by
  subst hg0
  subst hl'
  refine wpList_plain hgd fun K hK => ?_
  obtain ⟨i0, hi, hz0, hz1, hz2⟩ := info_parts infoInt
  have hb0 := below_one w0 (.cells #[.int .i64 i] 3)
  have hn := heap_alloc_new w0 (.cells #[.int .i64 i] 3)
  obtain ⟨V', w', hrun, r1, r2, r3, r4⟩ := run_append_own_at (P := Try.prog) _ B 59 op.type 3 i0 _ 1 8 Try.underlying59 hi hz0 hz1 hz2 rfl (by decide) V l.length (inC l) (row_below hown hb0)
    ⟨w0.heap.size, 0, none⟩ 1 1 [.int .i64 i] rfl (fun j u hu => by rw [addr_b0, cell_of_heap hn]; simpa using hu) (fun u hu => by simp at hu; subst hu; rfl) (by unfold maxLen; omega) (by omega) (by simp; omega)
  unfold Oper.wp execOp
  simp only [ho, resolve, invoke, builtin, Sem.run_bind, Sem.run_pure, Result.andThen_ok, List.map_toArray, List.map_cons, List.map_nil, hs, hx, hrun]
  refine hK _ _ (h V' w' ?_ ⟨r2.os, r2.tape, r2.output, Nat.le_trans hb0.size r2.size, fun k hk hne => (r2.block k (Nat.lt_of_lt_of_le hk hb0.size) hne).trans (hb0.block k hk)⟩ ?_)
  · rw [List.length_append, List.length_singleton, inC_snoc]
    exact r1
  · exact r4.imp id fun e y hy => by
      rw [e] at hy
      obtain rfl := Option.some.inj hy
      exact hb0.size
/-- a clock, what was seen, what was told last -/
structure TO (B : Nat) (w0 w : World) (c : Nat) (V : Value) (s : tm.St) (VS : Value) (seen : List Int) (lb : Nat) (id ow at_ : Int) : Prop where
  m : Mine B w0 w c V s
  row : w.ownsRow B 3 1 VS seen.length (inC seen)
  sc : ∀ y, VS.ownBlock = some y → ¬ OwnC c V y
  lst : w.heap[lb]? = some (.cells #[.int .i64 id, .int .i64 ow, .int .i64 at_] 57 (0, 0))
  lc : ¬ OwnC c V lb
  ls : ∀ y, VS.ownBlock = some y → y ≠ lb
  lB : B ≤ lb
section
variable {B : Nat} {w0 w w' : World} {c : Nat} {V : Value} {s : tm.St} {VS : Value} {seen : List Int} {lb : Nat} {id ow at_ : Int}
theorem TO.below (t : TO B w0 w c V s VS seen lb id ow at_) (b : Below w.heap.size w w') : TO B w0 w' c V s VS seen lb id ow at_ :=
  ⟨t.m.below b, row_below t.row b, t.sc, (b.block _ (heap_lt t.lst)).trans t.lst, t.lc, t.ls, t.lB⟩
theorem TO.pass (t : TO B w0 w c V s VS seen lb id ow at_) {V1 Vt : Value} {s1 : tm.St} {told : List tm.T} (p : PS w w' c V V1 Vt s1 told) : TO B w0 w' c V1 s1 VS seen lb id ow at_ :=
  ⟨t.m.pass p, own_keep t.row fun g _ _ hg hv _ => p.fr.block g hg (t.sc g hv), fun y hy a => by
    rcases p.own y a with x | x
    · exact t.sc y hy x
    · have := (t.row.lt y hy).2
      omega, (p.fr.block _ (heap_lt t.lst) t.lc).trans t.lst, fun a => by
    rcases p.own lb a with x | x
    · exact t.lc x
    · have := heap_lt t.lst
      omega, t.ls, t.lB⟩
theorem TO.last (t : TO B w0 w c V s VS seen lb id ow at_) (id' ow' at' : Int) : TO B w0 (((w.setCell ⟨lb, 0, none⟩ (.int .i64 id')).setCell ⟨lb, 1, none⟩ (.int .i64 ow')).setCell ⟨lb, 2, none⟩ (.int .i64 at')) c V s VS seen lb id' ow' at' := by
  have hk : ∀ k, k ≠ lb → (((w.setCell ⟨lb, 0, none⟩ (.int .i64 id')).setCell ⟨lb, 1, none⟩ (.int .i64 ow')).setCell ⟨lb, 2, none⟩ (.int .i64 at')).heap[k]? = w.heap[k]? := fun k hk => (Below.heap_setCell _ _ _ k hk).trans ((Below.heap_setCell _ _ _ k hk).trans (Below.heap_setCell _ _ _ k hk))
  have hs : (((w.setCell ⟨lb, 0, none⟩ (.int .i64 id')).setCell ⟨lb, 1, none⟩ (.int .i64 ow')).setCell ⟨lb, 2, none⟩ (.int .i64 at')).heap.size = w.heap.size := by simp
  refine ⟨⟨t.m.ck.keep fun y hy => hk y fun e => t.lc (e ▸ hy), ?_, t.m.own, by rw [hs]; exact t.m.low⟩, own_keep t.row fun g _ _ hg hv _ => hk g (t.ls g hv), t.sc, ?_, t.lc, t.ls, t.lB⟩
  · exact ((t.m.bel.setCell t.lB _).setCell t.lB _).setCell t.lB _
  · exact heap_setCell_same _ lb 2 _ _ _ (heap_setCell_same _ lb 1 _ _ _ (heap_setCell_same w lb 0 _ _ _ t.lst))
theorem TO.push (t : TO B w0 w c V s VS seen lb id ow at_) {VS' : Value} {seen' : List Int} (hr : w'.ownsRow B 3 1 VS' seen'.length (inC seen')) (hg : w.grownBy w' VS.ownBlock) (hv : VS'.ownBlock = VS.ownBlock ∨ ∀ y, VS'.ownBlock = some y → w.heap.size ≤ y) : TO B w0 w' c V s VS' seen' lb id ow at_ := by
  have f : Fr (fun k => VS.ownBlock = some k) w w' := Fr.of_grown hg
  have hl := heap_lt t.lst
  refine ⟨⟨t.m.ck.keep fun y hy => f.block y (t.m.ck.own_lt hy).2 fun e => t.sc y e hy, t.m.bel.trans (f.to_below B t.m.low fun k hk e => absurd (t.row.lt k e).1 (by omega)), t.m.own, Nat.le_trans t.m.low f.size⟩, hr, fun y hy a => ?_, (f.block _ hl fun e => t.ls lb e rfl).trans t.lst, t.lc, fun y hy e => ?_, t.lB⟩
  · rcases hv with x | x
    · exact t.sc y (x.symm.trans hy) a
    · have := x y hy
      have := (t.m.ck.own_lt a).2
      omega
  · rcases hv with x | x
    · exact t.ls y (x.symm.trans hy) e
    · have := x y hy
      omega
/-- .. and a row of what was told now -/
structure TD (B : Nat) (w0 w : World) (c : Nat) (V : Value) (s : tm.St) (VS : Value) (seen : List Int) (lb : Nat) (id ow at_ : Int) (Vt : Value) (A : List tm.T) : Prop where
  t : TO B w0 w c V s VS seen lb id ow at_
  r : DRow w B Vt A
  sp : ∀ y, Vt.ownBlock = some y → VS.ownBlock ≠ some y ∧ y ≠ lb
variable {Vt : Value} {A : List tm.T}
theorem TD.of (t : TO B w0 w c V s VS seen lb id ow at_) {V1 : Value} {s1 : tm.St} (p : PS w w' c V V1 Vt s1 A) : TD B w0 w' c V1 s1 VS seen lb id ow at_ Vt A :=
  ⟨t.pass p, own_base p.row t.m.low, fun y hy => ⟨fun e => by
    have := (p.row.lt y hy).1
    have := (t.row.lt y e).2
    omega, fun e => by
    have := (p.row.lt y hy).1
    have := heap_lt t.lst
    omega⟩⟩
theorem TD.below (d : TD B w0 w c V s VS seen lb id ow at_ Vt A) (b : Below w.heap.size w w') : TD B w0 w' c V s VS seen lb id ow at_ Vt A := ⟨d.t.below b, row_below d.r b, d.sp⟩
theorem TD.last (d : TD B w0 w c V s VS seen lb id ow at_ Vt A) (id' ow' at' : Int) : TD B w0 (((w.setCell ⟨lb, 0, none⟩ (.int .i64 id')).setCell ⟨lb, 1, none⟩ (.int .i64 ow')).setCell ⟨lb, 2, none⟩ (.int .i64 at')) c V s VS seen lb id' ow' at' Vt A :=
  ⟨d.t.last id' ow' at', own_keep d.r fun g _ _ _ hv _ => (Below.heap_setCell _ _ _ g (d.sp g hv).2).trans ((Below.heap_setCell _ _ _ g (d.sp g hv).2).trans (Below.heap_setCell _ _ _ g (d.sp g hv).2)), d.sp⟩
theorem TD.push (d : TD B w0 w c V s VS seen lb id ow at_ Vt A) {VS' : Value} {seen' : List Int} (hr : w'.ownsRow B 3 1 VS' seen'.length (inC seen')) (hg : w.grownBy w' VS.ownBlock) (hv : VS'.ownBlock = VS.ownBlock ∨ ∀ y, VS'.ownBlock = some y → w.heap.size ≤ y) : TD B w0 w' c V s VS' seen' lb id ow at_ Vt A :=
  ⟨d.t.push hr hg hv, own_keep d.r fun g _ _ hl hv _ => (Fr.of_grown hg).block g hl (d.sp g hv).1, fun y hy => ⟨fun e => by
    rcases hv with x | x
    · exact (d.sp y hy).1 (x.symm.trans e)
    · have := x y e
      have := (d.r.lt y hy).2
      omega, (d.sp y hy).2⟩⟩
end
set_option maxRecDepth 100000 in
set_option maxHeartbeats 3200000 in
theorem timerOrder_any (VI : Value) (ns : List Int) (VP : Value) (ps : List Int) (VT : Value) (ts : List Int) (w : World) (hI : NsIn w (fun b => b < w.heap.size) VI ns) (hP : NsIn w (fun b => b < w.heap.size) VP ps) (hT : NsIn w (fun b => b < w.heap.size) VT ts) : Calls Try.prog 5 #[VI, VP, VT] w fun e w' => e = .returned (.bool true) ∧ Below w.heap.size w w' := by
  have HA := Lib.hid (alive_any w)
  obtain ⟨S, hS⟩ : ∃ S, tm.setAll ps ns 0 tm.St.zero = S := ⟨_, rfl⟩
  obtain ⟨oT, cT, rfl, hT1, hT2, -, -⟩ := id hT
  obtain ⟨oP, cP, rfl, hP1, hP2, -, -⟩ := id hP
  obtain ⟨oI, cI, rfl, hI1, hI2, -, -⟩ := id hI
  have HI := Lib.hid (And.intro hI (And.intro hP hT))
  obtain ⟨once, honce⟩ : ∃ b, decide (ps.length = 0) = b := ⟨_, rfl⟩
  have e8 : ((ps.length : Int) == 0) = once := by
    rw [← honce]
    cases h : decide (ps.length = 0) with
    | true => simp only [decide_eq_true_eq] at h; rw [h]; rfl
    | false => simp only [decide_eq_false_iff_not] at h; simpa using h
  have hO := tm.oz_all (ns.length : Int) ps ns 0 tm.St.zero (tm.oz_zero _ _ (by omega)) (by simp [tm.St.zero])
  rw [hS, honce] at hO
  have HO := Lib.hid (And.intro hO honce)
  clear hI hP hT hO honce
  go_enter Try.func5, Try.ntmps5
  go_wp2_with fail
  with_reducible refine HA.out.mono ?_
  rintro e x1 ⟨rfl, b1⟩
  have H1 := Lib.hid (And.intro b1 b1.size)
  have HC := Lib.hid (setFn_any (.slice oI ns.length cI) (.slice oP ps.length cP) ns ps x1 (RowIn.wide (RowIn.below HI.out.1 b1) fun _ _ hk => hk) (RowIn.wide (RowIn.below HI.out.2.1 b1) fun _ _ hk => hk))
  rw [hS] at HC
  clear b1 HA
  go_wp2_with fail
  with_reducible refine HC.out.mono ?_
  rintro e x2 ⟨rfl, -, V, m1⟩
  have b2 : Below w.heap.size w x2 := H1.out.1.trans (m1.bel.mono H1.out.2)
  have HM : Hid (Mine w.heap.size w x2 x1.heap.size V S) := Lib.hid ⟨m1.ck, b2, fun y hy => Nat.le_trans H1.out.2 (m1.own y hy), b2.size⟩
  have HT0 : Hid (TO w.heap.size w ((x2.alloc (.cells #[] 3)).alloc (.cells #[.int .i64 0, .int .i64 0, .int .i64 0] 57)) x1.heap.size V S (.slice (some ⟨x2.heap.size, 0, none⟩) 0 0) [] (x2.heap.size + 1) 0 0 0) := Lib.hid (by
    have c1 := below_one x2 (.cells #[] 3)
    have c2 := below_one (x2.alloc (.cells #[] 3)) (.cells #[.int .i64 0, .int .i64 0, .int .i64 0] 57)
    have n1 := heap_alloc_new x2 (.cells #[] 3)
    have n2 := heap_alloc_new (x2.alloc (.cells #[] 3)) (.cells #[.int .i64 0, .int .i64 0, .int .i64 0] 57)
    have s1 : (x2.alloc (.cells #[] 3)).heap.size = x2.heap.size + 1 := by simp
    rw [s1] at n2
    have hlo := HM.out.low
    refine ⟨(HM.out.below c1).below c2, ⟨rfl, .inr ⟨x2.heap.size, 0, #[], rfl, hlo, (c2.block _ (heap_lt n1)).trans n1, Nat.le_refl _, by decide, rfl, rfl⟩⟩, fun y hy a => ?_, n2, fun a => ?_, fun y hy e => ?_, by omega⟩
    · obtain rfl : x2.heap.size = y := Option.some.inj hy
      exact Nat.lt_irrefl _ (HM.out.ck.own_lt a).2
    · have := (HM.out.ck.own_lt a).2
      omega
    · obtain rfl : x2.heap.size = y := Option.some.inj hy
      omega)
  obtain ⟨c, hc⟩ : ∃ c, x1.heap.size = c := ⟨_, rfl⟩
  obtain ⟨lb, hlb⟩ : ∃ lb, x2.heap.size + 1 = lb := ⟨_, rfl⟩
  obtain ⟨n, hn⟩ : ∃ n, ns.length = n := ⟨_, rfl⟩
  have HN := Lib.hid hn
  have hn62 : n ≤ 9223372036854775807 := by omega
  have H0 : Hid (tm.Good S ∧ tm.Od (n : Int) once 0 0 [] S.l) := Lib.hid (by rw [← hn]; exact ⟨HO.out.1.good, HO.out.1.od⟩)
  rw [hc, hlb] at HT0
  clear m1 b2 HC HM hS HO
  go_upto_region 9 with fail
  clear hc hlb H1 hn
  go_wp2_with fail
  go_loopg [9, 35] ts.length (fun gg s9 s35 wr => ∃ (k : Nat) (oS : Option Addr) (cS m : Nat) (V1 : Value) (so : tm.St) (seen : List Int) (id ow at_ : Int), s9 = .slice oS m cS ∧ s35 = .int .i64 k ∧ k ≤ ts.length ∧ ts.length - k ≤ gg ∧ Hid (TO w.heap.size w wr c V1 so (.slice oS m cS) seen lb id ow at_ ∧ seen.length = m ∧ tm.Good so ∧ tm.Od (n : Int) once at_ id seen so.l ∧ 0 ≤ at_))
  case atStart => exact ⟨0, _, 0, 0, V, S, [], 0, 0, 0, rfl, rfl, Nat.zero_le _, Nat.le_refl _, Lib.hid ⟨HT0.out, rfl, H0.out.1, H0.out.2, Int.le_refl _⟩⟩
  case round =>
    clear HT0 H0
    obtain ⟨k, oS, cS, m, V1, so, seen, id, ow, at_, rfl, rfl, hk, hgg, HX⟩ := hrel
    have hnow0 := HX.out.2.2.1.n0
    have hnow1 := HX.out.2.2.1.n1
    by_cases hkt : k < ts.length
    · have hkt' : (k : Int) < (ts.length : Int) := by omega
      obtain ⟨bT, offT, eT, hbT, dT⟩ := NsIn.cell (RowIn.below HI.out.2.2 HX.out.1.m.bel) k hkt
      subst eT
      generalize ts.getD k 0 = q at dT
      by_cases hq0 : q < 0
      · go_wp2_with fail
        go_roundg (ts.length - (k + 1))
        case measure => omega
        case rel => exact ⟨k + 1, oS, cS, m, V1, so, seen, id, ow, at_, rfl, (by first | rfl | (simp; done) | (simp; omega)), by omega, Nat.le_refl _, HX⟩
      have HNo := Lib.hid (now_any c V1 so wr HX.out.1.m.ck)
      have ew : wrap64 (1099511627776 - so.now) = 1099511627776 - so.now := by unfold wrap64; omega
      by_cases hqt : 1099511627776 - so.now < q
      · go_wp2_with fail
        with_reducible refine HNo.out.mono ?_
        rintro e w' ⟨rfl, hw⟩
        replace hw := hw.symm
        subst hw
        go_wp2_with fail
        go_roundg (ts.length - (k + 1))
        case measure => omega
        case rel => exact ⟨k + 1, oS, cS, m, V1, so, seen, id, ow, at_, rfl, (by first | rfl | (simp; done) | (simp; omega)), by omega, Nat.le_refl _, HX⟩
      have hTp : tm.isT (so.now + q) = true := (tm.isT_iff _).2 (by omega)
      have ew2 : wrap64 (so.now + q) = so.now + q := by unfold wrap64; omega
      obtain ⟨A, s2, hpp, hA16, hgd, htl, hdue, hnext⟩ := tm.pass_od so (so.now + q) HX.out.2.2.1 HX.out.2.2.2.1 HX.out.2.2.2.2 (by omega) hTp
      have HP := Lib.hid (pass_any c V1 so (so.now + q) wr HX.out.1.m.ck HX.out.2.2.1 _ hpp)
      have HQ := Lib.hid (And.intro hgd (And.intro htl (And.intro hdue hnext)))
      clear hgd htl hdue hnext hpp hTp
      go_wp2_with fail
      with_reducible refine HNo.out.mono ?_
      rintro e w' ⟨rfl, hw⟩
      replace hw := hw.symm
      subst hw
      go_wp2_with fail
      with_reducible refine HNo.out.mono ?_
      rintro e w' ⟨rfl, hw⟩
      replace hw := hw.symm
      subst hw
      go_wp2_with fail
      with_reducible refine HP.out.mono ?_
      rintro e x5 ⟨V5, Vt, rfl, p5⟩
      have d5 := TD.of HX.out.1 p5
      obtain ⟨a, ha⟩ : ∃ a, A.length = a := ⟨_, rfl⟩
      obtain ⟨oA, cA, hVt⟩ : ∃ x y, Vt = .slice x A.length y := own_slice p5.row
      rw [ha] at hVt hA16
      subst hVt
      have hA16' : (a : Int) ≤ 16 := by omega
      have H5 := Lib.hid (And.intro d5 (And.intro ha (And.intro HX.out.2.1 HX.out.2.2.2.2)))
      clear d5 p5 HP HNo HX ha
      go_upto_region 16 with fail
      go_wp2_with fail
      go_loopg [9, 66] a (fun gg s9 s66 wr => ∃ (j : Nat) (oS : Option Addr) (cS m : Nat) (seen : List Int) (id ow at_ : Int), s9 = .slice oS m cS ∧ s66 = .int .i64 j ∧ j ≤ a ∧ a - j ≤ gg ∧ Hid (TD w.heap.size w wr c V5 s2 (.slice oS m cS) seen lb id ow at_ (.slice oA a cA) A ∧ A.length = a ∧ seen.length = m ∧ 0 ≤ at_ ∧ tm.Tls (n : Int) once at_ id seen (A.drop j) s2.l))
      case atStart => exact ⟨0, oS, cS, m, seen, id, ow, at_, rfl, rfl, Nat.zero_le _, Nat.le_refl _, Lib.hid ⟨H5.out.1, H5.out.2.1, H5.out.2.2.1, H5.out.2.2.2, by rw [List.drop_zero]; exact HQ.out.2.1⟩⟩
      case round =>
        clear H5
        obtain ⟨j, oS, cS, m, seen, id, ow, at_, rfl, rfl, hj, hgj, HY⟩ := hrel
        by_cases hja : j < a
        · have hja' : (j : Int) < (a : Int) := by omega
          obtain ⟨-, gA, rfl, lA, d0, d1, d2⟩ := DRow.cell HY.out.1.r j (by rw [HY.out.2.1]; exact hja)
          have hdr : A.drop j = tm.ix A j :: A.drop (j + 1) := by
            rw [List.drop_eq_getElem_cons (by rw [HY.out.2.1]; exact hja), tm.ix_get]
          obtain ⟨t, ht⟩ : ∃ t, tm.ix A j = t := ⟨_, rfl⟩
          have HD := Lib.hid (show t.due ≤ s2.now from ht ▸ HQ.out.2.2.1 j (by rw [HY.out.2.1]; exact hja))
          rw [ht] at d0 d1 d2 hdr
          have htl := HY.out.2.2.2.2
          rw [hdr] at htl
          have HL := Lib.hid htl
          have b1 := below_one wr (dO t)
          have a1 := heap_alloc_new wr (dO t)
          obtain ⟨W, hW⟩ : ∃ W, wr.alloc (dO t) = W := ⟨_, rfl⟩
          rw [hW] at b1 a1
          have y0 : W.cell? ⟨wr.heap.size, 0, none⟩ = some (.int .i64 t.id) := (cell_of_heap a1).trans rfl
          have y1 : W.cell? ⟨wr.heap.size, 1, none⟩ = some (.int .i64 t.owner) := (cell_of_heap a1).trans rfl
          have y2 : W.cell? ⟨wr.heap.size, 2, none⟩ = some (.int .i64 t.due) := (cell_of_heap a1).trans rfl
          have lx := heap_lt a1
          have t1 := HY.out.1.below b1
          have z0 : W.cell? ⟨lb, 0, none⟩ = some (.int .i64 id) := (cell_of_heap t1.t.lst).trans rfl
          have z1 : W.cell? ⟨lb, 1, none⟩ = some (.int .i64 ow) := (cell_of_heap t1.t.lst).trans rfl
          have z2 : W.cell? ⟨lb, 2, none⟩ = some (.int .i64 at_) := (cell_of_heap t1.t.lst).trans rfl
          have zf0 := thaw (k := 0) t1.t.lst
          have zf1 := thaw (k := 1) t1.t.lst
          have zf2 := thaw (k := 2) t1.t.lst
          have lz := heap_lt t1.t.lst
          have HNo := Lib.hid (fun k => now_any c V5 s2 (W.drewN k) (t1.t.m.ck.below (below_dN (Below.refl _ _) k)))
          have HYl := Lib.hid HY.out.1.t.lst
          have HY0 := Lib.hid HY.out.2.2.2.1
          have HT := Lib.hid (And.intro t1 (And.intro HY.out.2.1 (And.intro HY.out.2.2.1 a1)))
          clear t1 a1 b1 hdr htl HY ht
          have g1 : decide (t.due < at_) = false := decide_eq_false (by have := HL.out.1.due; omega)
          have g2 : decide (s2.now < t.due) = false := decide_eq_false (by have := HD.out; omega)
          have g3 : decide (t.id < 1) = false := decide_eq_false (by have := HL.out.1.lo; omega)
          have g4 : decide ((n : Int) < t.id) = false := decide_eq_false (by have := HL.out.1.hi; omega)
          have hlbx : lb < wr.heap.size := by
            have := heap_lt HYl.out
            exact this
          have hcase : (t.due == at_) = false ∨ ((t.due == at_) = true ∧ decide (t.id < id) = false) ∨ ((t.due == at_) = true ∧ decide (t.id < id) = true ∧ once = false) := by
            by_cases h1 : t.due = at_
            · refine .inr ?_
              by_cases h2 : t.id < id
              · refine .inr ⟨by simpa using h1, decide_eq_true h2, ?_⟩
                cases h3 : once with
                | false => rfl
                | true => have := HL.out.1.ord h3 h1; omega
              · exact .inl ⟨by simpa using h1, decide_eq_false h2⟩
            · exact .inl (by simpa using h1)
          go_upto_region 19 with fail
          have HA0 : Hid (0 ≤ t.due) := Lib.hid (by have := HL.out.1.due; have := HY0.out; omega)
          rcases hcase with g5 | ⟨g5, g6⟩ | ⟨g5, g6, g7⟩
          · go_quiet ((go_at_call 19; exact Calls.quiet_of_same (HNo.out _)))
            obtain ⟨W2, hW2⟩ : ∃ W2, W.drewN nq = W2 := ⟨_, rfl⟩
            rw [hW2]
            have d2' : TD w.heap.size w W2 c V5 s2 (.slice oS m cS) seen lb id ow at_ (.slice (some ⟨gA, 0, none⟩) a cA) A := hW2 ▸ HT.out.1.below (below_dN (Below.refl _ W) nq)
            have a2 : W2.heap[wr.heap.size]? = some (dO t) := by rw [← hW2]; exact HT.out.2.2.2
            clear hW2 y0 y1 y2 z0 z1 z2 zf0 zf1 zf2 lz lx
            have HT3 : Hid (TD w.heap.size w (((W2.setCell ⟨lb, 0, none⟩ (.int .i64 t.id)).setCell ⟨lb, 1, none⟩ (.int .i64 t.owner)).setCell ⟨lb, 2, none⟩ (.int .i64 t.due)) c V5 s2 (.slice oS m cS) seen lb t.id t.owner t.due (.slice (some ⟨gA, 0, none⟩) a cA) A ∧ (((W2.setCell ⟨lb, 0, none⟩ (.int .i64 t.id)).setCell ⟨lb, 1, none⟩ (.int .i64 t.owner)).setCell ⟨lb, 2, none⟩ (.int .i64 t.due)).heap[wr.heap.size]? = some (dO t)) := Lib.hid ⟨d2'.last t.id t.owner t.due, (Below.heap_setCell _ _ _ _ (by show wr.heap.size ≠ lb; omega)).trans ((Below.heap_setCell _ _ _ _ (by show wr.heap.size ≠ lb; omega)).trans ((Below.heap_setCell _ _ _ _ (by show wr.heap.size ≠ lb; omega)).trans a2))⟩
            have y0 : W2.cell? ⟨wr.heap.size, 0, none⟩ = some (.int .i64 t.id) := (cell_of_heap a2).trans rfl
            have y1 : W2.cell? ⟨wr.heap.size, 1, none⟩ = some (.int .i64 t.owner) := (cell_of_heap a2).trans rfl
            have y2 : W2.cell? ⟨wr.heap.size, 2, none⟩ = some (.int .i64 t.due) := (cell_of_heap a2).trans rfl
            have lx := heap_lt a2
            have z0 : W2.cell? ⟨lb, 0, none⟩ = some (.int .i64 id) := (cell_of_heap d2'.t.lst).trans rfl
            have z1 : W2.cell? ⟨lb, 1, none⟩ = some (.int .i64 ow) := (cell_of_heap d2'.t.lst).trans rfl
            have z2 : W2.cell? ⟨lb, 2, none⟩ = some (.int .i64 at_) := (cell_of_heap d2'.t.lst).trans rfl
            have zf0 := thaw (k := 0) d2'.t.lst
            have zf1 := thaw (k := 1) d2'.t.lst
            have zf2 := thaw (k := 2) d2'.t.lst
            have lz := heap_lt d2'.t.lst
            have HAL := Lib.hid (And.intro HT.out.2.1 HT.out.2.2.1)
            clear d2' a2 HT HNo
            go_upto_region 22 with fail
            obtain ⟨X3, hX3⟩ : ∃ X3, ((W2.setCell ⟨lb, 0, none⟩ (.int .i64 t.id)).setCell ⟨lb, 1, none⟩ (.int .i64 t.owner)).setCell ⟨lb, 2, none⟩ (.int .i64 t.due) = X3 := ⟨_, rfl⟩
            change Code.wp _ _ _ _ (((W2.setCell ⟨lb, 0, none⟩ (.int .i64 t.id)).setCell ⟨lb, 1, none⟩ (.int .i64 t.owner)).setCell ⟨lb, 2, none⟩ (.int .i64 t.due))
            rw [hX3] at HT3 ⊢
            clear hX3 y0 y1 y2 z0 z1 z2 zf0 zf1 zf2 lz lx d0 d1 d2 lA
            cases once with
            | false =>
              go_wp2_with fail
              go_roundg (a - (j + 1))
              case measure => omega
              case rel => exact ⟨j + 1, oS, cS, m, seen, t.id, t.owner, t.due, rfl, (by first | rfl | (simp; done) | (simp; omega)), by omega, Nat.le_refl _, Lib.hid ⟨HT3.out.1, HAL.out.1, HAL.out.2, HA0.out, HL.out.2⟩⟩
            | true =>
              have HNW := Lib.hid (And.intro (HL.out.1.new rfl) (HL.out.1.cnt rfl))
              have y0 : X3.cell? ⟨wr.heap.size, 0, none⟩ = some (.int .i64 t.id) := (cell_of_heap HT3.out.2).trans rfl
              have lx := heap_lt HT3.out.2
              have hml := HAL.out.2
              have hm64 : m < 64 := by have := HNW.out.2; omega
              go_wp2_with fail
              go_loopg [115] m (fun gg s115 wz => ∃ i : Nat, s115 = .int .i64 i ∧ i ≤ m ∧ m - i ≤ gg ∧ Hid (wz = X3))
              case atStart => exact ⟨0, rfl, Nat.zero_le _, Nat.le_refl _, Lib.hid rfl⟩
              case round =>
                obtain ⟨i, rfl, hi, hgi, HWZ⟩ := hrel
                obtain rfl := HWZ.out.symm
                by_cases him : i < m
                · have him' : (i : Int) < (m : Int) := by omega
                  have him2 : i < seen.length := by rw [hml]; exact him
                  have hNs : NsIn X3 (fun _ => True) (.slice oS m cS) seen := RowIn.of_own HT3.out.1.t.row (by simp) _ (fun _ _ => trivial)
                  obtain ⟨bS, offS, eS, hbS, dS⟩ := NsIn.cell hNs i him2
                  clear hNs
                  subst eS
                  have hx : (seen.getD i 0 == t.id) = false := by
                    rw [beq_eq_false_iff_ne]
                    intro e
                    refine HNW.out.1 ?_
                    rw [← e, List.getD_eq_getElem?_getD, List.getElem?_eq_getElem him2]
                    exact List.getElem_mem him2
                  generalize seen.getD i 0 = x at *
                  go_wp2_with fail
                  go_roundg (m - (i + 1))
                  case measure => omega
                  case rel => exact ⟨i + 1, (by first | rfl | (simp; done) | (simp; omega)), by omega, Nat.le_refl _, Lib.hid rfl⟩
                · obtain rfl : i = m := by omega
                  obtain ⟨LL, hLL⟩ : ∃ LL : List Int, seen ++ [t.id] = LL := ⟨_, rfl⟩
                  have HLL := Lib.hid hLL
                  clear hLL
                  go_wp2_with (at_builtin; go_loud (refine wpList_num X3 t.id rfl _ _ rfl w.heap.size (.slice oS i cS) seen LL HLL.out rfl HT3.out.1.t.row X3.heap.size rfl rfl (by have := HNW.out.2; omega) HT3.out.1.t.m.low ?_))
                  intro V' w5 r1 r2 r3
                  have H5 := Lib.hid (HT3.out.1.push r1 r2 r3)
                  obtain ⟨oS', cS', rfl⟩ := own_slice r1
                  clear r1 r2 r3
                  go_wp2_with fail
                  go_roundg (a - (j + 1))
                  case measure => omega
                  case rel => exact ⟨j + 1, oS', cS', LL.length, LL, t.id, t.owner, t.due, rfl, (by first | rfl | (simp; done) | (simp; omega)), by omega, Nat.le_refl _, Lib.hid ⟨H5.out, HAL.out.1, rfl, HA0.out, by have := HL.out.2; rw [show tm.seenB true seen t.id = LL from HLL.out] at this; exact this⟩⟩
          · go_quiet ((go_at_call 19; exact Calls.quiet_of_same (HNo.out _)))
            obtain ⟨W2, hW2⟩ : ∃ W2, W.drewN nq = W2 := ⟨_, rfl⟩
            rw [hW2]
            have d2' : TD w.heap.size w W2 c V5 s2 (.slice oS m cS) seen lb id ow at_ (.slice (some ⟨gA, 0, none⟩) a cA) A := hW2 ▸ HT.out.1.below (below_dN (Below.refl _ W) nq)
            have a2 : W2.heap[wr.heap.size]? = some (dO t) := by rw [← hW2]; exact HT.out.2.2.2
            clear hW2 y0 y1 y2 z0 z1 z2 zf0 zf1 zf2 lz lx
            have HT3 : Hid (TD w.heap.size w (((W2.setCell ⟨lb, 0, none⟩ (.int .i64 t.id)).setCell ⟨lb, 1, none⟩ (.int .i64 t.owner)).setCell ⟨lb, 2, none⟩ (.int .i64 t.due)) c V5 s2 (.slice oS m cS) seen lb t.id t.owner t.due (.slice (some ⟨gA, 0, none⟩) a cA) A ∧ (((W2.setCell ⟨lb, 0, none⟩ (.int .i64 t.id)).setCell ⟨lb, 1, none⟩ (.int .i64 t.owner)).setCell ⟨lb, 2, none⟩ (.int .i64 t.due)).heap[wr.heap.size]? = some (dO t)) := Lib.hid ⟨d2'.last t.id t.owner t.due, (Below.heap_setCell _ _ _ _ (by show wr.heap.size ≠ lb; omega)).trans ((Below.heap_setCell _ _ _ _ (by show wr.heap.size ≠ lb; omega)).trans ((Below.heap_setCell _ _ _ _ (by show wr.heap.size ≠ lb; omega)).trans a2))⟩
            have y0 : W2.cell? ⟨wr.heap.size, 0, none⟩ = some (.int .i64 t.id) := (cell_of_heap a2).trans rfl
            have y1 : W2.cell? ⟨wr.heap.size, 1, none⟩ = some (.int .i64 t.owner) := (cell_of_heap a2).trans rfl
            have y2 : W2.cell? ⟨wr.heap.size, 2, none⟩ = some (.int .i64 t.due) := (cell_of_heap a2).trans rfl
            have lx := heap_lt a2
            have z0 : W2.cell? ⟨lb, 0, none⟩ = some (.int .i64 id) := (cell_of_heap d2'.t.lst).trans rfl
            have z1 : W2.cell? ⟨lb, 1, none⟩ = some (.int .i64 ow) := (cell_of_heap d2'.t.lst).trans rfl
            have z2 : W2.cell? ⟨lb, 2, none⟩ = some (.int .i64 at_) := (cell_of_heap d2'.t.lst).trans rfl
            have zf0 := thaw (k := 0) d2'.t.lst
            have zf1 := thaw (k := 1) d2'.t.lst
            have zf2 := thaw (k := 2) d2'.t.lst
            have lz := heap_lt d2'.t.lst
            have HAL := Lib.hid (And.intro HT.out.2.1 HT.out.2.2.1)
            clear d2' a2 HT HNo
            go_upto_region 22 with fail
            obtain ⟨X3, hX3⟩ : ∃ X3, ((W2.setCell ⟨lb, 0, none⟩ (.int .i64 t.id)).setCell ⟨lb, 1, none⟩ (.int .i64 t.owner)).setCell ⟨lb, 2, none⟩ (.int .i64 t.due) = X3 := ⟨_, rfl⟩
            change Code.wp _ _ _ _ (((W2.setCell ⟨lb, 0, none⟩ (.int .i64 t.id)).setCell ⟨lb, 1, none⟩ (.int .i64 t.owner)).setCell ⟨lb, 2, none⟩ (.int .i64 t.due))
            rw [hX3] at HT3 ⊢
            clear hX3 y0 y1 y2 z0 z1 z2 zf0 zf1 zf2 lz lx d0 d1 d2 lA
            cases once with
            | false =>
              go_wp2_with fail
              go_roundg (a - (j + 1))
              case measure => omega
              case rel => exact ⟨j + 1, oS, cS, m, seen, t.id, t.owner, t.due, rfl, (by first | rfl | (simp; done) | (simp; omega)), by omega, Nat.le_refl _, Lib.hid ⟨HT3.out.1, HAL.out.1, HAL.out.2, HA0.out, HL.out.2⟩⟩
            | true =>
              have HNW := Lib.hid (And.intro (HL.out.1.new rfl) (HL.out.1.cnt rfl))
              have y0 : X3.cell? ⟨wr.heap.size, 0, none⟩ = some (.int .i64 t.id) := (cell_of_heap HT3.out.2).trans rfl
              have lx := heap_lt HT3.out.2
              have hml := HAL.out.2
              have hm64 : m < 64 := by have := HNW.out.2; omega
              go_wp2_with fail
              go_loopg [115] m (fun gg s115 wz => ∃ i : Nat, s115 = .int .i64 i ∧ i ≤ m ∧ m - i ≤ gg ∧ Hid (wz = X3))
              case atStart => exact ⟨0, rfl, Nat.zero_le _, Nat.le_refl _, Lib.hid rfl⟩
              case round =>
                obtain ⟨i, rfl, hi, hgi, HWZ⟩ := hrel
                obtain rfl := HWZ.out.symm
                by_cases him : i < m
                · have him' : (i : Int) < (m : Int) := by omega
                  have him2 : i < seen.length := by rw [hml]; exact him
                  have hNs : NsIn X3 (fun _ => True) (.slice oS m cS) seen := RowIn.of_own HT3.out.1.t.row (by simp) _ (fun _ _ => trivial)
                  obtain ⟨bS, offS, eS, hbS, dS⟩ := NsIn.cell hNs i him2
                  clear hNs
                  subst eS
                  have hx : (seen.getD i 0 == t.id) = false := by
                    rw [beq_eq_false_iff_ne]
                    intro e
                    refine HNW.out.1 ?_
                    rw [← e, List.getD_eq_getElem?_getD, List.getElem?_eq_getElem him2]
                    exact List.getElem_mem him2
                  generalize seen.getD i 0 = x at *
                  go_wp2_with fail
                  go_roundg (m - (i + 1))
                  case measure => omega
                  case rel => exact ⟨i + 1, (by first | rfl | (simp; done) | (simp; omega)), by omega, Nat.le_refl _, Lib.hid rfl⟩
                · obtain rfl : i = m := by omega
                  obtain ⟨LL, hLL⟩ : ∃ LL : List Int, seen ++ [t.id] = LL := ⟨_, rfl⟩
                  have HLL := Lib.hid hLL
                  clear hLL
                  go_wp2_with (at_builtin; go_loud (refine wpList_num X3 t.id rfl _ _ rfl w.heap.size (.slice oS i cS) seen LL HLL.out rfl HT3.out.1.t.row X3.heap.size rfl rfl (by have := HNW.out.2; omega) HT3.out.1.t.m.low ?_))
                  intro V' w5 r1 r2 r3
                  have H5 := Lib.hid (HT3.out.1.push r1 r2 r3)
                  obtain ⟨oS', cS', rfl⟩ := own_slice r1
                  clear r1 r2 r3
                  go_wp2_with fail
                  go_roundg (a - (j + 1))
                  case measure => omega
                  case rel => exact ⟨j + 1, oS', cS', LL.length, LL, t.id, t.owner, t.due, rfl, (by first | rfl | (simp; done) | (simp; omega)), by omega, Nat.le_refl _, Lib.hid ⟨H5.out, HAL.out.1, rfl, HA0.out, by have := HL.out.2; rw [show tm.seenB true seen t.id = LL from HLL.out] at this; exact this⟩⟩
          · subst g7
            go_quiet ((go_at_call 19; exact Calls.quiet_of_same (HNo.out _)))
            obtain ⟨W2, hW2⟩ : ∃ W2, W.drewN nq = W2 := ⟨_, rfl⟩
            rw [hW2]
            have d2' : TD w.heap.size w W2 c V5 s2 (.slice oS m cS) seen lb id ow at_ (.slice (some ⟨gA, 0, none⟩) a cA) A := hW2 ▸ HT.out.1.below (below_dN (Below.refl _ W) nq)
            have a2 : W2.heap[wr.heap.size]? = some (dO t) := by rw [← hW2]; exact HT.out.2.2.2
            clear hW2 y0 y1 y2 z0 z1 z2 zf0 zf1 zf2 lz lx
            have HT3 : Hid (TD w.heap.size w (((W2.setCell ⟨lb, 0, none⟩ (.int .i64 t.id)).setCell ⟨lb, 1, none⟩ (.int .i64 t.owner)).setCell ⟨lb, 2, none⟩ (.int .i64 t.due)) c V5 s2 (.slice oS m cS) seen lb t.id t.owner t.due (.slice (some ⟨gA, 0, none⟩) a cA) A ∧ (((W2.setCell ⟨lb, 0, none⟩ (.int .i64 t.id)).setCell ⟨lb, 1, none⟩ (.int .i64 t.owner)).setCell ⟨lb, 2, none⟩ (.int .i64 t.due)).heap[wr.heap.size]? = some (dO t)) := Lib.hid ⟨d2'.last t.id t.owner t.due, (Below.heap_setCell _ _ _ _ (by show wr.heap.size ≠ lb; omega)).trans ((Below.heap_setCell _ _ _ _ (by show wr.heap.size ≠ lb; omega)).trans ((Below.heap_setCell _ _ _ _ (by show wr.heap.size ≠ lb; omega)).trans a2))⟩
            have y0 : W2.cell? ⟨wr.heap.size, 0, none⟩ = some (.int .i64 t.id) := (cell_of_heap a2).trans rfl
            have y1 : W2.cell? ⟨wr.heap.size, 1, none⟩ = some (.int .i64 t.owner) := (cell_of_heap a2).trans rfl
            have y2 : W2.cell? ⟨wr.heap.size, 2, none⟩ = some (.int .i64 t.due) := (cell_of_heap a2).trans rfl
            have lx := heap_lt a2
            have z0 : W2.cell? ⟨lb, 0, none⟩ = some (.int .i64 id) := (cell_of_heap d2'.t.lst).trans rfl
            have z1 : W2.cell? ⟨lb, 1, none⟩ = some (.int .i64 ow) := (cell_of_heap d2'.t.lst).trans rfl
            have z2 : W2.cell? ⟨lb, 2, none⟩ = some (.int .i64 at_) := (cell_of_heap d2'.t.lst).trans rfl
            have zf0 := thaw (k := 0) d2'.t.lst
            have zf1 := thaw (k := 1) d2'.t.lst
            have zf2 := thaw (k := 2) d2'.t.lst
            have lz := heap_lt d2'.t.lst
            have HAL := Lib.hid (And.intro HT.out.2.1 HT.out.2.2.1)
            clear d2' a2 HT HNo
            go_upto_region 22 with fail
            obtain ⟨X3, hX3⟩ : ∃ X3, ((W2.setCell ⟨lb, 0, none⟩ (.int .i64 t.id)).setCell ⟨lb, 1, none⟩ (.int .i64 t.owner)).setCell ⟨lb, 2, none⟩ (.int .i64 t.due) = X3 := ⟨_, rfl⟩
            change Code.wp _ _ _ _ (((W2.setCell ⟨lb, 0, none⟩ (.int .i64 t.id)).setCell ⟨lb, 1, none⟩ (.int .i64 t.owner)).setCell ⟨lb, 2, none⟩ (.int .i64 t.due))
            rw [hX3] at HT3 ⊢
            clear hX3 y0 y1 y2 z0 z1 z2 zf0 zf1 zf2 lz lx d0 d1 d2 lA
            go_wp2_with fail
            go_roundg (a - (j + 1))
            case measure => omega
            case rel => exact ⟨j + 1, oS, cS, m, seen, t.id, t.owner, t.due, rfl, (by first | rfl | (simp; done) | (simp; omega)), by omega, Nat.le_refl _, Lib.hid ⟨HT3.out.1, HAL.out.1, HAL.out.2, HA0.out, HL.out.2⟩⟩
        · obtain rfl : j = a := by omega
          have HO : Hid (tm.Od (n : Int) once at_ id seen s2.l) := Lib.hid (by have := HY.out.2.2.2.2; rw [← HY.out.2.1, List.drop_length] at this; exact this)
          have HZ : Hid (TO w.heap.size w wr c V5 s2 (.slice oS m cS) seen lb id ow at_ ∧ seen.length = m ∧ tm.Good s2 ∧ tm.Od (n : Int) once at_ id seen s2.l ∧ 0 ≤ at_) := Lib.hid ⟨HY.out.1.t, HY.out.2.2.1, HQ.out.1, HO.out, HY.out.2.2.2.1⟩
          have HNx := fun R hR => next_any c V5 s2 wr HZ.out.1.m.ck R hR
          have HNo := Lib.hid (now_any c V5 s2 wr HZ.out.1.m.ck)
          have HNd := Lib.hid (fun h16 => HQ.out.2.2.2 (by rw [HY.out.2.1]; exact h16))
          clear HY HO HQ
          by_cases h0 : s2.l.length = 0
          · have HN1 := Lib.hid (HNx (0, false) (by unfold tm.nextR; rw [if_pos h0]))
            clear HNx HNd h0
            go_wp2_with fail
            with_reducible refine HN1.out.mono ?_
            rintro e w' ⟨rfl, hw⟩
            replace hw := hw.symm
            subst hw
            go_wp2_with fail
            go_roundg (ts.length - (k + 1))
            case measure => omega
            case rel => exact ⟨k + 1, oS, cS, m, V5, s2, seen, id, ow, at_, rfl, (by first | rfl | (simp; done) | (simp; omega)), by omega, Nat.le_refl _, HZ⟩
          · have HN1 := Lib.hid (HNx ((tm.ix s2.l 0).due, true) (by unfold tm.nextR; rw [if_neg h0]))
            by_cases h16 : j < 16
            · have h16' : (j : Int) < 16 := by omega
              have hlt := HNd.out h16 h0
              have g7 : decide ((tm.ix s2.l 0).due ≤ s2.now) = false := decide_eq_false (by omega)
              clear HNx HNd h0 hlt
              generalize (tm.ix s2.l 0).due = D at *
              go_wp2_with fail
              with_reducible refine HN1.out.mono ?_
              rintro e w' ⟨rfl, hw⟩
              replace hw := hw.symm
              subst hw
              go_wp2_with fail
              with_reducible refine HNo.out.mono ?_
              rintro e w' ⟨rfl, hw⟩
              replace hw := hw.symm
              subst hw
              go_wp2_with fail
              go_roundg (ts.length - (k + 1))
              case measure => omega
              case rel => exact ⟨k + 1, oS, cS, m, V5, s2, seen, id, ow, at_, rfl, (by first | rfl | (simp; done) | (simp; omega)), by omega, Nat.le_refl _, HZ⟩
            · have h16' : ¬ (j : Int) < 16 := by omega
              clear HNx HNd h0
              generalize (tm.ix s2.l 0).due = D at *
              go_wp2_with fail
              with_reducible refine HN1.out.mono ?_
              rintro e w' ⟨rfl, hw⟩
              replace hw := hw.symm
              subst hw
              go_wp2_with fail
              go_roundg (ts.length - (k + 1))
              case measure => omega
              case rel => exact ⟨k + 1, oS, cS, m, V5, s2, seen, id, ow, at_, rfl, (by first | rfl | (simp; done) | (simp; omega)), by omega, Nat.le_refl _, HZ⟩
    · obtain rfl : k = ts.length := by omega
      go_wp2_with fail
      go_ret
      exact ⟨rfl, HX.out.1.m.bel⟩
end Go.Proofs.Ytfelmnhhldgobaa
