/- Is a module one that bytes tell? rightIns, rightFunc, right, and the searches in between. -/
import Derived.Test.YtoknolljfeaapaaDoorMdNums
namespace Go.Proofs.YtoknolljfeaapaaDoor
open Go.RowKit
theorem any_snoc {α : Type} (p : α → Bool) (L : List α) (k : Nat) (h : k < L.length) : (L.take (k + 1)).any p = ((L.take k).any p || p L[k]) := by
  rw [List.take_add_one, List.getElem?_eq_getElem h, Option.toList_some, List.any_append]
  simp
theorem any_take {α : Type} (p : α → Bool) (L : List α) (k : Nat) (h : (L.take k).any p = true) : L.any p = true := by
  obtain ⟨x, hx, hp⟩ := List.any_eq_true.1 h
  exact List.any_eq_true.2 ⟨x, List.mem_of_mem_take hx, hp⟩
theorem not_any {α : Type} (p : α → Bool) (L : List α) : (!L.any fun x => !p x) = L.all p := by
  induction L with
  | nil => rfl
  | cons a L ih => rw [List.any_cons, List.all_cons, ← ih]; cases p a <;> simp
set_option maxRecDepth 100000 in
set_option maxHeartbeats 800000 in
theorem rightIns_any (i : md.Ins) (w : World) : Calls Tryd.prog 82 #[insV i] w fun e w' => e = .returned (.bool (md.rightIns i)) ∧ Below w.heap.size w w' := by
  obtain ⟨op, n⟩ := i
  have hb0 := below_one w (.cells #[.int .i64 op, .int .i64 n] 59)
  have HB := Lib.hid hb0
  have HR : Hid (md.rightIns ⟨op, n⟩ = (decide (0 ≤ op ∧ op ≤ 29) && (decide (n = 0) || md.has op))) := Lib.hid rfl
  have HW := Lib.hid (fun W => within_any op 0 29 W)
  have HH := Lib.hid (fun W => has_any op W)
  generalize md.rightIns ⟨op, n⟩ = R at *
  generalize decide (0 ≤ op ∧ op ≤ 29) = r at *
  generalize md.has op = h at *
  clear hb0
  have h0 : n = 0 ∨ (n ≠ 0 ∧ (n == 0) = false) := by
    by_cases h : n = 0
    · exact .inl h
    · exact .inr ⟨h, by simpa using h⟩
  go_enter Tryd.func82, Tryd.ntmps82
  go_wp2_with fail
  refine (HW.out _).mono ?_
  rintro e w' ⟨rfl, hw⟩
  replace hw := hw.symm
  subst hw
  cases r with
  | false =>
    go_wp2_with fail
    go_ret
    exact ⟨ret_bool (by rw [HR.out]; rfl), HB.out⟩
  | true =>
    rcases h0 with rfl | ⟨h1, h2⟩
    · go_wp2_with fail
      go_ret
      exact ⟨ret_bool (by rw [HR.out]; rfl), HB.out⟩
    · have HZ : Hid (R = h) := Lib.hid (by rw [HR.out, decide_eq_false h1]; simp)
      clear h1 HR
      go_wp2_with fail
      refine (HH.out _).mono ?_
      rintro e w' ⟨rfl, hw⟩
      replace hw := hw.symm
      subst hw
      go_wp2_with fail
      go_ret
      exact ⟨ret_bool HZ.out.symm, HB.out⟩
set_option maxRecDepth 100000 in
theorem wrongIns_any (i : md.Ins) (w : World) : Calls Tryd.prog 81 #[insV i] w fun e w' => e = .returned (.bool (!md.rightIns i)) ∧ Below w.heap.size w w' := by
  have HR := Lib.hid (fun W => rightIns_any i W)
  obtain ⟨op, n⟩ := i
  have hb0 := below_one w (.cells #[.int .i64 op, .int .i64 n] 59)
  have HB := Lib.hid hb0
  clear hb0
  generalize md.rightIns ⟨op, n⟩ = R at *
  go_enter Tryd.func81, Tryd.ntmps81
  go_wp2_with fail
  refine (HR.out _).mono ?_
  rintro e w' ⟨rfl, hb⟩
  have HB2 := Lib.hid (HB.out.trans (hb.mono HB.out.size))
  clear hb
  go_wp2_with fail
  go_ret
  exact ⟨rfl, HB2.out⟩
set_option maxRecDepth 100000 in
set_option maxHeartbeats 800000 in
theorem indexIns_any (D : Nat → Prop) (o : Option Addr) (cap : Nat) (L : List md.Ins) (w : World) (hs : InsIn w D (.slice o L.length cap) L) :
    Calls Tryd.prog 91 #[.slice o L.length cap, .func (.func 81) #[] #[]] w fun e w' => (∃ r : Int, e = .returned (.int .i64 r) ∧ decide (0 ≤ r) = L.any (fun i => !md.rightIns i)) ∧ Below w.heap.size w w' := by
  have hm := (RowIn.lens hs).2.2
  have hle := (RowIn.lens hs).2.1
  have HS := Lib.hid hs
  have HR := Lib.hid (fun i W => wrongIns_any i W)
  have HST := Lib.hid (fun k (h : k < L.length) => any_snoc (fun i => !md.rightIns i) L k h)
  have HT := Lib.hid (fun k h => any_take (fun i => !md.rightIns i) L k h)
  obtain ⟨n, hn⟩ : ∃ n, L.length = n := ⟨_, rfl⟩
  have HN := Lib.hid hn
  rw [hn] at hs hle
  rw [hn]
  clear hs hn
  go_enter Tryd.func91, Tryd.ntmps91
  go_wp2_with fail
  go_loopg [8] n (fun gg s8 wr => ∃ k : Nat, s8 = .int .i64 k ∧ k ≤ n ∧ n - k ≤ gg ∧ Hid ((L.take k).any (fun i => !md.rightIns i) = false) ∧ Hid (Below w.heap.size w wr))
  case atStart => exact ⟨0, rfl, Nat.zero_le _, by omega, Lib.hid rfl, Lib.hid (Below.refl _ _)⟩
  case round =>
    obtain ⟨k, rfl, hk, hgg, HA, HB⟩ := hrel
    by_cases hlt : k < n
    · have hkl : k < L.length := by rw [HN.out]; exact hlt
      obtain ⟨b, off, rfl, -, hb, k0, k1⟩ := InsIn.cell (RowIn.below HS.out HB.out) k hkl
      have hst := HST.out k hkl
      generalize L[k] = s at *
      obtain ⟨sk, sn⟩ := s
      dsimp only at k0 k1
      rw [HA.out] at hst
      have HQ := Lib.hid hst
      clear hst hkl
      have hki : (k : Int) < (n : Int) := by omega
      cases hg : md.rightIns ⟨sk, sn⟩
      · have HG := Lib.hid hg
        clear hg
        go_wp2_with fail
        refine (HR.out ⟨sk, sn⟩ _).mono ?_
        rintro e w2 ⟨rfl, hb2⟩
        rw [HG.out]
        have HB2 := Lib.hid (HB.out.trans (hb2.mono HB.out.size))
        clear hb2
        go_wp2_with fail
        go_ret
        exact ⟨⟨_, rfl, by rw [HT.out (k + 1) (by rw [HQ.out, HG.out]; rfl)]; exact decide_eq_true (by omega)⟩, HB2.out⟩
      · have HG := Lib.hid hg
        clear hg
        go_wp2_with fail
        refine (HR.out ⟨sk, sn⟩ _).mono ?_
        rintro e w2 ⟨rfl, hb2⟩
        rw [HG.out]
        have HB2 := Lib.hid (HB.out.trans (hb2.mono HB.out.size))
        clear hb2
        go_wp2_with fail
        go_roundg (n - (k + 1))
        case measure => omega
        case rel => exact ⟨k + 1, by go_num, by omega, Nat.le_refl _, Lib.hid (by rw [HQ.out, HG.out]; rfl), HB2⟩
    · obtain rfl : k = n := by omega
      have HF : Hid (L.any (fun i => !md.rightIns i) = false) := Lib.hid (by have := HA.out; rwa [List.take_of_length_le (by rw [HN.out]; exact Nat.le_refl _)] at this)
      go_wp2_with fail
      go_ret
      exact ⟨⟨_, rfl, by rw [HF.out]; rfl⟩, HB.out⟩
set_option maxRecDepth 100000 in
theorem containsIns_any (D : Nat → Prop) (o : Option Addr) (cap : Nat) (L : List md.Ins) (w : World) (hs : InsIn w D (.slice o L.length cap) L) :
    Calls Tryd.prog 83 #[.slice o L.length cap, .func (.func 81) #[] #[]] w fun e w' => e = .returned (.bool (L.any (fun i => !md.rightIns i))) ∧ Below w.heap.size w w' := by
  have HI := Lib.hid (indexIns_any D o cap L w hs)
  clear hs
  generalize L.any (fun i => !md.rightIns i) = B at *
  generalize L.length = n at *
  go_enter Tryd.func83, Tryd.ntmps83
  go_wp2_with fail
  refine HI.out.mono ?_
  rintro e w2 ⟨⟨r, rfl, hr⟩, hb⟩
  have HR := Lib.hid hr
  have HB := Lib.hid hb
  clear hr hb
  go_wp2_with fail
  go_ret
  exact ⟨ret_bool HR.out, HB.out⟩
abbrev fnO (f : md.Fn) (VC : Value) : Obj := .cells #[.int .i64 f.params, .int .i64 f.results, .int .i64 f.locals, VC] 72
set_option maxRecDepth 100000 in
set_option maxHeartbeats 1600000 in
theorem rightFunc_any (D : Nat → Prop) (f : md.Fn) (VC : Value) (w : World) (hs : InsIn w D VC f.code) : Calls Tryd.prog 63 #[fnV f VC] w fun e w' => e = .returned (.bool (md.rightFn f)) ∧ Below w.heap.size w w' := by
  obtain ⟨p, r, l, c⟩ := f
  obtain ⟨oc, cc, rfl, -⟩ := id hs
  have hb0 := below_one w (.cells #[.int .i64 p, .int .i64 r, .int .i64 l, .slice oc c.length cc] 72)
  have hbx := heap_alloc_new w (.cells #[.int .i64 p, .int .i64 r, .int .i64 l, .slice oc c.length cc] 72)
  have HB := Lib.hid hb0
  have HX := Lib.hid hbx
  have HC := Lib.hid (containsIns_any D oc cc c _ (RowIn.below hs hb0))
  have HR : Hid (md.rightFn ⟨p, r, l, c⟩ = (decide (0 ≤ p ∧ p ≤ 8) && decide (0 ≤ r ∧ r ≤ 1) && decide (0 ≤ l ∧ l ≤ 16 - p) && decide (1 ≤ c.length ∧ c.length ≤ 400) && !c.any fun i => !md.rightIns i)) := Lib.hid (by rw [not_any]; rfl)
  have HP : Hid (decide (0 ≤ p ∧ p ≤ 8) = true → 0 ≤ p ∧ p ≤ 8) := Lib.hid (fun h => by simpa using h)
  have H1 := Lib.hid (fun W => within_any p 0 8 W)
  have H2 := Lib.hid (fun W => within_any r 0 1 W)
  have H3 := Lib.hid (fun W => within_any l 0 (16 - p) W)
  have H4 := Lib.hid (fun W => within_any (c.length : Int) 1 400 W)
  rw [show decide ((1 : Int) ≤ (c.length : Int) ∧ (c.length : Int) ≤ 400) = decide (1 ≤ c.length ∧ c.length ≤ 400) by congr 1; exact propext (by omega)] at H4
  clear hs hb0 hbx
  generalize md.rightFn ⟨p, r, l, c⟩ = R at *
  generalize decide (0 ≤ p ∧ p ≤ 8) = b1 at *
  generalize decide (0 ≤ r ∧ r ≤ 1) = b2 at *
  generalize decide (0 ≤ l ∧ l ≤ 16 - p) = b3 at *
  generalize decide (1 ≤ c.length ∧ c.length ≤ 400) = b4 at *
  generalize (c.any fun i => !md.rightIns i) = b5 at *
  generalize c.length = n at *
  go_enter Tryd.func63, Tryd.ntmps63
  go_wp2_with fail
  refine (H1.out _).mono ?_
  rintro e w' ⟨rfl, hw⟩
  replace hw := hw.symm
  subst hw
  cases b1 with
  | false =>
    go_wp2_with fail
    go_ret
    exact ⟨ret_bool (by rw [HR.out]; rfl), HB.out⟩
  | true =>
    go_wp2_with fail
    refine (H2.out _).mono ?_
    rintro e w' ⟨rfl, hw⟩
    replace hw := hw.symm
    subst hw
    cases b2 with
    | false =>
      go_wp2_with fail
      go_ret
      exact ⟨ret_bool (by rw [HR.out]; rfl), HB.out⟩
    | true =>
      have hp := HP.out trivial
      have hw1 : IntKind.i64.wrap (16 - p) = 16 - p := by rw [IntKind.wrap_i64]; omega
      go_wp2_with fail
      refine (H3.out _).mono ?_
      rintro e w' ⟨rfl, hw⟩
      replace hw := hw.symm
      subst hw
      cases b3 with
      | false =>
        go_wp2_with fail
        go_ret
        exact ⟨ret_bool (by rw [HR.out]; rfl), HB.out⟩
      | true =>
        go_wp2_with fail
        refine (H4.out _).mono ?_
        rintro e w' ⟨rfl, hw⟩
        replace hw := hw.symm
        subst hw
        cases b4 with
        | false =>
          go_wp2_with fail
          go_ret
          exact ⟨ret_bool (by rw [HR.out]; rfl), HB.out⟩
        | true =>
          go_wp2_with fail
          refine HC.out.mono ?_
          rintro e w2 ⟨rfl, hb2⟩
          have HB2 := Lib.hid (HB.out.trans (hb2.mono HB.out.size))
          clear hb2
          go_wp2_with fail
          go_ret
          exact ⟨ret_bool (by rw [HR.out]; rfl), HB2.out⟩
set_option maxRecDepth 100000 in
theorem wrongFunc_any (D : Nat → Prop) (f : md.Fn) (VC : Value) (w : World) (hs : InsIn w D VC f.code) : Calls Tryd.prog 62 #[fnV f VC] w fun e w' => e = .returned (.bool (!md.rightFn f)) ∧ Below w.heap.size w w' := by
  have HF := Lib.hid (fun W h => rightFunc_any D f VC W h)
  obtain ⟨p, r, l, c⟩ := f
  have hb0 := below_one w (.cells #[.int .i64 p, .int .i64 r, .int .i64 l, VC] 72)
  have HB := Lib.hid hb0
  have HS := Lib.hid (RowIn.below hs hb0)
  clear hb0 hs
  generalize md.rightFn ⟨p, r, l, c⟩ = R at *
  go_enter Tryd.func62, Tryd.ntmps62
  go_wp2_with fail
  refine (HF.out _ HS.out).mono ?_
  rintro e w' ⟨rfl, hb⟩
  have HB2 := Lib.hid (HB.out.trans (hb.mono HB.out.size))
  clear hb
  go_wp2_with fail
  go_ret
  exact ⟨rfl, HB2.out⟩
set_option maxRecDepth 100000 in
set_option maxHeartbeats 800000 in
theorem indexFn_any (D : Nat → Prop) (o : Option Addr) (cap : Nat) (L : List md.Fn) (w : World) (hs : FnsIn w D (.slice o L.length cap) L) :
    Calls Tryd.prog 84 #[.slice o L.length cap, .func (.func 62) #[] #[]] w fun e w' => (∃ r : Int, e = .returned (.int .i64 r) ∧ decide (0 ≤ r) = L.any (fun i => !md.rightFn i)) ∧ Below w.heap.size w w' := by
  obtain ⟨hle, hm⟩ : L.length ≤ cap ∧ cap ≤ 9223372036854775807 := by
    obtain ⟨cs, hr, -⟩ := hs
    exact (RowIn.lens hr).2
  have HS := Lib.hid hs
  have HR := Lib.hid (fun f VC W h => wrongFunc_any D f VC W h)
  have HST := Lib.hid (fun k (h : k < L.length) => any_snoc (fun i => !md.rightFn i) L k h)
  have HT := Lib.hid (fun k h => any_take (fun i => !md.rightFn i) L k h)
  obtain ⟨n, hn⟩ : ∃ n, L.length = n := ⟨_, rfl⟩
  have HN := Lib.hid hn
  rw [hn] at hs hle
  rw [hn]
  clear hs hn
  go_enter Tryd.func84, Tryd.ntmps84
  go_wp2_with fail
  go_loopg [8] n (fun gg s8 wr => ∃ k : Nat, s8 = .int .i64 k ∧ k ≤ n ∧ n - k ≤ gg ∧ Hid ((L.take k).any (fun i => !md.rightFn i) = false) ∧ Hid (Below w.heap.size w wr))
  case atStart => exact ⟨0, rfl, Nat.zero_le _, by omega, Lib.hid rfl, Lib.hid (Below.refl _ _)⟩
  case round =>
    obtain ⟨k, rfl, hk, hgg, HA, HB⟩ := hrel
    by_cases hlt : k < n
    · have hkl : k < L.length := by rw [HN.out]; exact hlt
      obtain ⟨b, off, oc, cc, rfl, -, hb, k0, k1, k2, k3, hi⟩ := FnsIn.cell (HS.out.below HB.out) k hkl
      have hst := HST.out k hkl
      generalize L[k] = s at *
      have HRS := Lib.hid (HR.out s _ wr hi)
      obtain ⟨p, r, l, c⟩ := s
      dsimp only at k0 k1 k2 k3
      generalize c.length = nc at *
      rw [HA.out] at hst
      have HQ := Lib.hid hst
      clear hst hkl hi
      have hki : (k : Int) < (n : Int) := by omega
      cases hg : md.rightFn ⟨p, r, l, c⟩
      · have HG := Lib.hid hg
        clear hg
        go_wp2_with fail
        refine HRS.out.mono ?_
        rintro e w2 ⟨rfl, hb2⟩
        rw [HG.out]
        have HB2 := Lib.hid (HB.out.trans (hb2.mono HB.out.size))
        clear hb2
        go_wp2_with fail
        go_ret
        exact ⟨⟨_, rfl, by rw [HT.out (k + 1) (by rw [HQ.out, HG.out]; rfl)]; exact decide_eq_true (by omega)⟩, HB2.out⟩
      · have HG := Lib.hid hg
        clear hg
        go_wp2_with fail
        refine HRS.out.mono ?_
        rintro e w2 ⟨rfl, hb2⟩
        rw [HG.out]
        have HB2 := Lib.hid (HB.out.trans (hb2.mono HB.out.size))
        clear hb2
        go_wp2_with fail
        go_roundg (n - (k + 1))
        case measure => omega
        case rel => exact ⟨k + 1, by go_num, by omega, Nat.le_refl _, Lib.hid (by rw [HQ.out, HG.out]; rfl), HB2⟩
    · obtain rfl : k = n := by omega
      have HF : Hid (L.any (fun i => !md.rightFn i) = false) := Lib.hid (by have := HA.out; rwa [List.take_of_length_le (by rw [HN.out]; exact Nat.le_refl _)] at this)
      go_wp2_with fail
      go_ret
      exact ⟨⟨_, rfl, by rw [HF.out]; rfl⟩, HB.out⟩
set_option maxRecDepth 100000 in
theorem containsFn_any (D : Nat → Prop) (o : Option Addr) (cap : Nat) (L : List md.Fn) (w : World) (hs : FnsIn w D (.slice o L.length cap) L) :
    Calls Tryd.prog 65 #[.slice o L.length cap, .func (.func 62) #[] #[]] w fun e w' => e = .returned (.bool (L.any (fun i => !md.rightFn i))) ∧ Below w.heap.size w w' := by
  have HI := Lib.hid (indexFn_any D o cap L w hs)
  clear hs
  generalize L.any (fun i => !md.rightFn i) = B at *
  generalize L.length = n at *
  go_enter Tryd.func65, Tryd.ntmps65
  go_wp2_with fail
  refine HI.out.mono ?_
  rintro e w2 ⟨⟨r, rfl, hr⟩, hb⟩
  have HR := Lib.hid hr
  have HB := Lib.hid hb
  clear hr hb
  go_wp2_with fail
  go_ret
  exact ⟨ret_bool HR.out, HB.out⟩
abbrev modO (m : md.Mod) (VD VF : Value) : Obj := .cells #[.int .i64 m.mem, VD, VF] 25
set_option maxRecDepth 100000 in
set_option maxHeartbeats 1600000 in
theorem right_any (D : Nat → Prop) (m : md.Mod) (VD VF : Value) (w : World) (hs : ModIn w D VD VF m) : Calls Tryd.prog 50 #[modV m VD VF] w fun e w' => e = .returned (.bool (md.right m)) ∧ Below w.heap.size w w' := by
  obtain ⟨od, cd, of, cf, rfl, rfl, hd1, hd2, hf1, hf2⟩ := hs.slices
  obtain ⟨mem, d, fs⟩ := m
  have hb0 := below_one w (.cells #[.int .i64 mem, .slice od d.length cd, .slice of fs.length cf] 25)
  have HB := Lib.hid hb0
  have HC := Lib.hid (containsFn_any D of cf fs _ (hs.fns.below hb0))
  have HR : Hid (md.right ⟨mem, d, fs⟩ = (decide (0 ≤ mem ∧ mem ≤ 1024) && decide ((d.length : Int) ≤ mem) && decide (1 ≤ fs.length ∧ fs.length ≤ 16) && !fs.any fun i => !md.rightFn i)) := Lib.hid (by rw [not_any]; rfl)
  have H1 := Lib.hid (fun W => within_any mem 0 1024 W)
  have H4 := Lib.hid (fun W => within_any (fs.length : Int) 1 16 W)
  rw [show decide ((1 : Int) ≤ (fs.length : Int) ∧ (fs.length : Int) ≤ 16) = decide (1 ≤ fs.length ∧ fs.length ≤ 16) by congr 1; exact propext (by omega)] at H4
  clear hs hb0
  dsimp only at hd1 hf1
  generalize md.right ⟨mem, d, fs⟩ = R at *
  generalize decide (0 ≤ mem ∧ mem ≤ 1024) = b1 at *
  generalize decide (1 ≤ fs.length ∧ fs.length ≤ 16) = b4 at *
  generalize (fs.any fun i => !md.rightFn i) = b5 at *
  generalize fs.length = n at *
  generalize d.length = nd at *
  go_enter Tryd.func50, Tryd.ntmps50
  go_wp2_with fail
  refine (H1.out _).mono ?_
  rintro e w' ⟨rfl, hw⟩
  replace hw := hw.symm
  subst hw
  cases b1 with
  | false =>
    go_wp2_with fail
    go_ret
    exact ⟨ret_bool (by rw [HR.out]; rfl), HB.out⟩
  | true =>
    by_cases h2 : (nd : Int) ≤ mem
    case neg =>
      have HZ : Hid (false = R) := Lib.hid (by rw [HR.out, decide_eq_false h2]; rfl)
      clear HR
      go_wp2_with fail
      go_ret
      exact ⟨ret_bool HZ.out, HB.out⟩
    case pos =>
      have HZ : Hid (R = (b4 && !b5)) := Lib.hid (by rw [HR.out, decide_eq_true h2]; rfl)
      clear HR
      go_wp2_with fail
      refine (H4.out _).mono ?_
      rintro e w' ⟨rfl, hw⟩
      replace hw := hw.symm
      subst hw
      cases b4 with
      | false =>
        go_wp2_with fail
        go_ret
        exact ⟨ret_bool (by rw [HZ.out]; rfl), HB.out⟩
      | true =>
        go_wp2_with fail
        refine HC.out.mono ?_
        rintro e w2 ⟨rfl, hb2⟩
        have HB2 := Lib.hid (HB.out.trans (hb2.mono HB.out.size))
        clear hb2
        go_wp2_with fail
        go_ret
        exact ⟨ret_bool (by rw [HZ.out]; rfl), HB2.out⟩
end Go.Proofs.YtoknolljfeaapaaDoor
