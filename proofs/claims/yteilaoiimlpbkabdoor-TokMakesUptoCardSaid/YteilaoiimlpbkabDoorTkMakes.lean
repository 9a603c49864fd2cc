/- TokMakes, walked: it returns true. -/
import Derived.Test.YteilaoiimlpbkabDoorTkDec
import Derived.Test.YteilaoiimlpbkabDoorTkAlive
namespace Go.Proofs.YteilaoiimlpbkabDoor
open Go.RowKit
/-- two bytes more -/
theorem wpList_two {w : World} {ops : Array Oper} {rest : List Oper} {op : Oper} {a : Act} {Q : Exit → Act → World → Prop} (hgd : op.guard = none) (s x : Operand)
    (ho : op.op = .call { callee := .builtin .append, args := #[s, x], argTypes := #[34, 34] }) (B : Nat) (v : Value) (l : List UInt8) (hs : a.eval s = v) (hown : w.ownsRow B 5 1 v l.length (byC l))
    (g : Nat) (c d : UInt8) (hx : a.eval x = .slice (some ⟨g, 0, none⟩) 2 2) (hg : w.heap[g]? = some (.cells #[.int .u8 (c.toNat : Nat), .int .u8 (d.toNat : Nat)] 5 (0, 0)))
    (hlen : l.length ≤ 1099511627776) (hbase : B ≤ w.heap.size)
    (h : ∀ v' w', w'.ownsRow B 5 1 v' (l ++ [c, d]).length (byC (l ++ [c, d])) → Below B w w' → wpList Tryd.prog ops Q rest (a.put op.dst v') w') : wpList Tryd.prog ops Q (op :: rest) a w := by
  obtain ⟨i0, hi, hz0, hz1, hz2⟩ := info_parts infoB
  refine wpList_append_own (P := Tryd.prog) w hgd s x 34 ho B 5 i0 _ 1 1 Tryd.underlying34 hi hz0 hz1 hz2 rfl (by omega) v l.length (byC l) hs hown
    ⟨g, 0, none⟩ 2 2 [.int .u8 (c.toNat : Nat), .int .u8 (d.toNat : Nat)] hx rfl (fun j u hu => ?_) (fun u hu => ?_) (by unfold maxLen; omega) (by omega) hbase (fun v' w' r1 r2 _ => h v' w' ?_ ?_)
  · rw [addr_b0, cell_of_heap hg]
    rcases j with _ | _ | j
    · simpa using hu
    · simpa using hu
    · simp at hu
  · simp at hu
    rcases hu with rfl | rfl <;> rfl
  · rw [show byC (l ++ [c, d]) = byC l ++ [.int .u8 (c.toNat : Nat), .int .u8 (d.toNat : Nat)] by simp [byC], List.length_append]; exact r1
  · exact (Below.refl B w).grown r2 hbase (fun k hk => (hown.lt k hk).1)
/-- the text in quotes so far, in a row of the law's own -/
structure MQ (w wr : World) (V : Value) (acc : List UInt8) : Prop where
  row : wr.ownsRow w.heap.size 5 1 V acc.length (byC acc)
  bel : Below w.heap.size w wr
theorem MQ.next {w wr X w' : World} {V v' : Value} {acc acc' : List UInt8} (h : MQ w wr V acc) (hX : Below wr.heap.size wr X) (hr : w'.ownsRow w.heap.size 5 1 v' acc'.length (byC acc')) (hb : Below w.heap.size X w') : MQ w w' v' acc' :=
  ⟨hr, h.bel.trans ((hX.mono h.bel.size).trans hb)⟩
theorem MQ.start {w W : World} (h : Below w.heap.size w W) : MQ w (W.alloc (.cells #[.int .u8 34] 5)) (.slice (some ⟨W.heap.size, 0, none⟩) 1 1) [34] :=
  ⟨⟨rfl, .inr ⟨W.heap.size, 1, #[.int .u8 34], rfl, h.size, heap_alloc_new _ _, Nat.le_refl _, by decide, rfl, rfl⟩⟩, h.alloc h.size _⟩
theorem tk.qb_len (c : UInt8) : (tk.qb c).length ≤ 2 := by
  unfold tk.qb
  split
  · simp
  split
  · simp
  split <;> simp
theorem tk.qbs_snoc (l : List UInt8) (k : Nat) (h : k < l.length) : tk.qbs (l.take (k + 1)) = tk.qbs (l.take k) ++ tk.qb l[k] := by
  show (l.take (k + 1)).flatMap tk.qb = (l.take k).flatMap tk.qb ++ tk.qb l[k]
  rw [List.take_succ_eq_append_getElem h, List.flatMap_append, List.flatMap_cons, List.flatMap_nil, List.append_nil]
theorem twice_bytes (D : List UInt8) : (ByteArray.mk D.toArray ++ ByteArray.mk #[32] ++ ByteArray.mk D.toArray) = ByteArray.mk (D ++ 32 :: D).toArray := by
  rw [show (#[32] : Array UInt8) = ([32] : List UInt8).toArray from rfl, ByteArray.mk_append_mk, ByteArray.mk_append_mk]
  simp
theorem wrong_bytes (D : List UInt8) : (ByteArray.mk #[120, 32] ++ ByteArray.mk D.toArray ++ ByteArray.mk #[121]) = ByteArray.mk (120 :: 32 :: (D ++ [121])).toArray := by
  rw [show (#[120, 32] : Array UInt8) = ([120, 32] : List UInt8).toArray from rfl, show (#[121] : Array UInt8) = ([121] : List UInt8).toArray from rfl, ByteArray.mk_append_mk, ByteArray.mk_append_mk]
  simp
set_option maxRecDepth 100000 in
set_option maxHeartbeats 1600000 in
theorem tokMakes_any (n : Int) (l : List UInt8) (w : World) (ht : TT w) (h0 : -9223372036854775808 ≤ n) (h1 : n ≤ 9223372036854775807) (hll : l.length ≤ 1048576) : Calls Tryd.prog 4 #[.int .i64 n, str l] w fun e w' => e = .returned (.bool true) ∧ Below w.heap.size w w' := by
  have h3 := ht.lt
  have HT := Lib.hid ht
  have HA := Lib.hid (alive_any w ht)
  have HD := Lib.hid (fun W => decimal_any n h0 h1 W)
  have hdl := Lib.itoa_length_le n h0 h1
  have HK1 := Lib.hid (fun W hW => tokens_then (Lib.itoa n ++ 32 :: Lib.itoa n) W hW (by rw [List.length_append, List.length_cons]; omega) _ _ _ (tk.tokens_twice n h0 h1))
  have HK2 := Lib.hid (fun W hW => tokens_then (120 :: 32 :: (Lib.itoa n ++ [121])) W hW (by simp only [List.length_cons, List.length_append, List.length_nil]; omega) _ _ _ (tk.tokens_wrong n h0 h1))
  have HK3 := Lib.hid (fun W hW hm hl => tokens_then (34 :: (tk.qbs l ++ [34])) W hW (by simp only [List.length_cons, List.length_append, List.length_nil]; omega) _ _ _ (tk.tokens_quoted l hm hl))
  generalize Lib.itoa n = D at *
  have hc1 := twice_bytes D
  have hc2 := wrong_bytes D
  have hsz := str_size l
  have hsd := str_size D
  have HIX := Lib.hid (fun (i : Nat) (hi : i < l.length) wx => run_str_idx l .i64 i hi wx)
  have HQS := Lib.hid (fun k (h : k < l.length) => tk.qbs_snoc l k h)
  have HTA : Hid (l.take l.length = l) := Lib.hid (List.take_length)
  clear ht
  obtain ⟨N, hN⟩ : ∃ N, l.length = N := ⟨_, rfl⟩
  have HN := Lib.hid hN
  rw [hN] at hsz hll HTA
  clear hN
  go_enter Tryd.func4, Tryd.ntmps4
  go_wp2_with fail
  refine HA.out.mono ?_
  rintro e w1 ⟨rfl, hb1⟩
  have HB1 := Lib.hid hb1
  clear hb1 HA
  go_wp2_with fail
  refine (HD.out w1).mono ?_
  rintro e w2 ⟨rfl, hb2⟩
  have HB2 := Lib.hid (HB1.out.trans (hb2.mono HB1.out.size))
  clear hb2 HD HB1
  go_wp2_with fail
  refine (HK1.out w2 (HT.out.below HB2.out h3)).mono ?_
  rintro e w3 ⟨V1, rfl, hb3, hx3⟩
  have HX3 := Lib.hid hx3
  have HB3 : Hid (Below w2.heap.size w2 (w3.alloc (.cells #[.int .i64 (0 : Nat), .int .i64 0] 26))) := Lib.hid (hx3 _ (Below.refl _ _)).2.2
  obtain ⟨ao1, ac1, rfl⟩ := own_slice (hx3 _ (Below.refl _ _)).1
  clear hx3 hb3 HK1 hc1
  go_wp2_with fail
  generalize w3.alloc (.cells #[.int .i64 (0 : Nat), .int .i64 0] 26) = w4 at *
  generalize w3.heap.size = f1 at *
  have HB4 := Lib.hid (HB2.out.trans (HB3.out.mono HB2.out.size))
  refine (HK2.out w4 (HT.out.below HB4.out h3)).mono ?_
  rintro e w5 ⟨V2, rfl, hb5, hx5⟩
  have HX5 := Lib.hid hx5
  have HB5 : Hid (Below w4.heap.size w4 (w5.alloc (.cells #[.int .i64 (73 : Nat), .int .i64 2] 26))) := Lib.hid (hx5 _ (Below.refl _ _)).2.2
  obtain ⟨ao2, ac2, rfl⟩ := own_slice (hx5 _ (Below.refl _ _)).1
  clear hx5 hb5 HK2 hc2
  go_upto_region 6 with fail
  generalize w5.alloc (.cells #[.int .i64 (73 : Nat), .int .i64 2] 26) = w6 at *
  generalize w5.heap.size = f2 at *
  have HB6 := Lib.hid (HB4.out.trans (HB5.out.mono HB4.out.size))
  obtain ⟨r1, y1, _⟩ := HX3.out w6 HB5.out
  obtain ⟨_, y2, _⟩ := HX5.out w6 (Below.refl _ _)
  have a0 : w6.cell? ⟨f1, 0, none⟩ = some (.int .i64 0) := (cell_of_heap y1).trans rfl
  have b0 : w6.cell? ⟨f2, 0, none⟩ = some (.int .i64 73) := (cell_of_heap y2).trans rfl
  have b1 : w6.cell? ⟨f2, 1, none⟩ = some (.int .i64 2) := (cell_of_heap y2).trans rfl
  obtain ⟨g1, c1, hV, _, hm1, _, hg1, _, _, t02, _⟩ := tok_at r1 (k := 0) rfl
  obtain ⟨g1', c1', hV', _, _, _, _, t10, t11, _, _⟩ := tok_at r1 (k := 1) rfl
  obtain ⟨rfl, -, rfl⟩ := Value.slice.inj hV
  obtain ⟨hgg, -, -⟩ := Value.slice.inj hV'
  obtain rfl : g1 = g1' := by simpa using hgg
  simp only [Nat.zero_mul, Nat.zero_add, Nat.one_mul] at t02 t10 t11
  clear r1 y1 y2 HX3 HX5 HB5 HB4 hV' hgg HB3 HB2
  have H0 : Hid (MQ w (w6.alloc (.cells #[.int .u8 34] 5)) (.slice (some ⟨w6.heap.size, 0, none⟩) 1 1) [34]) := Lib.hid (MQ.start HB6.out)
  go_wp2_with fail
  generalize w6.alloc (.cells #[.int .u8 34] 5) = w7 at *
  generalize Value.slice (some ⟨w6.heap.size, 0, none⟩) 1 1 = V0 at *
  clear a0 b0 b1 t02 t10 t11 hg1 HB6
  go_loopg [10, 11] N (fun gg s10 s11 wr => ∃ (k : Nat) (V : Value) (acc : List UInt8), V = s10 ∧ s11 = .int .i64 k ∧ k ≤ N ∧ N - k ≤ gg ∧ acc.length ≤ 2 * k + 1 ∧ Hid (MQ w wr V acc ∧ acc = 34 :: tk.qbs (l.take k) ∧ ∀ c ∈ l.take k, tk.may c = true))
  case atStart => exact ⟨0, _, [34], rfl, rfl, Nat.zero_le _, by omega, by simp, Lib.hid ⟨H0.out, rfl, by simp⟩⟩
  case round =>
    clear H0
    obtain ⟨k, V, acc, rfl, rfl, hk, hgk, hal, HS⟩ := hrel
    by_cases hlt : k < N
    · have hki : (k : Int) < (N : Int) := by omega
      have hkl : k < l.length := by rw [HN.out]; exact hlt
      have hix := HIX.out k hkl
      have HQ : Hid (34 :: tk.qbs (l.take (k + 1)) = (34 :: tk.qbs (l.take k)) ++ tk.qb l[k] ∧ True) := Lib.hid ⟨by rw [HQS.out k hkl]; rfl, trivial⟩
      have HM0 : Hid (tk.may l[k] = true → ∀ c ∈ l.take (k + 1), tk.may c = true) := Lib.hid (fun h c hc => by
        rw [List.take_succ_eq_append_getElem hkl] at hc
        rcases List.mem_append.1 hc with hc | hc
        · exact HS.out.2.2 c hc
        · simp at hc; subst hc; exact h)
      generalize l[k] = c at *
      have hwl : w.heap.size ≤ wr.heap.size := HS.out.1.bel.size
      by_cases h10 : c.toNat = 10
      · have HQB : Hid (tk.qb c = [92, 110]) := Lib.hid (by unfold tk.qb; rw [if_pos h10])
        have HM := Lib.hid (HM0.out (by simp only [tk.may, decide_eq_true_eq]; omega))
        have hci : ((c.toNat : Nat) : Int) = 10 := by omega
        rw [hci] at hix
        clear h10 HM0
        have hb1 := below_one wr (.cells #[.int .u8 92, .int .u8 110] 5)
        have HB1 := Lib.hid hb1
        have HRW := Lib.hid (And.intro (row_below HS.out.1.row hb1) (heap_alloc_new wr (.cells #[.int .u8 92, .int .u8 110] 5)))
        clear hb1
        go_wp2_with (at_builtin; refine wpList_two rfl _ _ rfl w.heap.size V acc rfl HRW.out.1 wr.heap.size 92 110 rfl HRW.out.2 (by omega) (by simp; omega) (fun v' w' r1 r2 => ?_); have HN1 := Lib.hid (HS.out.1.next HB1.out r1 r2); clear r1 r2)
        go_roundg (N - (k + 1))
        case measure => omega
        case rel => exact ⟨k + 1, _, acc ++ [92, 110], rfl, by go_num, by omega, Nat.le_refl _, by rw [List.length_append]; simp; omega, Lib.hid ⟨HN1.out, by rw [HQ.out.1, HS.out.2.1, HQB.out], HM.out⟩⟩
      have h10i : (((c.toNat : Nat) : Int) == 10) = false := by simp; omega
      by_cases h9 : c.toNat = 9
      · have HQB : Hid (tk.qb c = [92, 116]) := Lib.hid (by unfold tk.qb; rw [if_neg h10, if_pos h9])
        have HM := Lib.hid (HM0.out (by simp only [tk.may, decide_eq_true_eq]; omega))
        have hci : ((c.toNat : Nat) : Int) = 9 := by omega
        rw [hci] at hix
        clear h9 h10 HM0
        have hb1 := below_one wr (.cells #[.int .u8 92, .int .u8 116] 5)
        have HB1 := Lib.hid hb1
        have HRW := Lib.hid (And.intro (row_below HS.out.1.row hb1) (heap_alloc_new wr (.cells #[.int .u8 92, .int .u8 116] 5)))
        clear hb1
        go_wp2_with (at_builtin; refine wpList_two rfl _ _ rfl w.heap.size V acc rfl HRW.out.1 wr.heap.size 92 116 rfl HRW.out.2 (by omega) (by simp; omega) (fun v' w' r1 r2 => ?_); have HN1 := Lib.hid (HS.out.1.next HB1.out r1 r2); clear r1 r2)
        go_roundg (N - (k + 1))
        case measure => omega
        case rel => exact ⟨k + 1, _, acc ++ [92, 116], rfl, by go_num, by omega, Nat.le_refl _, by rw [List.length_append]; simp; omega, Lib.hid ⟨HN1.out, by rw [HQ.out.1, HS.out.2.1, HQB.out], HM.out⟩⟩
      have h9i : (((c.toNat : Nat) : Int) == 9) = false := by simp; omega
      by_cases h34 : c.toNat = 34
      · have HQB : Hid (tk.qb c = [92, 34]) := Lib.hid (by unfold tk.qb; rw [if_neg h10, if_neg h9, if_pos (.inl h34), tk.ub_ext (c := c) (d := 34) h34])
        have HM := Lib.hid (HM0.out (by simp only [tk.may, decide_eq_true_eq]; omega))
        have hci : ((c.toNat : Nat) : Int) = 34 := by omega
        rw [hci] at hix
        clear h9 h10 h34 HM0
        have hb1 := below_one wr (.cells #[.int .u8 92, .int .u8 34] 5)
        have HB1 := Lib.hid hb1
        have HRW := Lib.hid (And.intro (row_below HS.out.1.row hb1) (heap_alloc_new wr (.cells #[.int .u8 92, .int .u8 34] 5)))
        clear hb1
        go_wp2_with (at_builtin; refine wpList_two rfl _ _ rfl w.heap.size V acc rfl HRW.out.1 wr.heap.size 92 34 rfl HRW.out.2 (by omega) (by simp; omega) (fun v' w' r1 r2 => ?_); have HN1 := Lib.hid (HS.out.1.next HB1.out r1 r2); clear r1 r2)
        go_roundg (N - (k + 1))
        case measure => omega
        case rel => exact ⟨k + 1, _, acc ++ [92, 34], rfl, by go_num, by omega, Nat.le_refl _, by rw [List.length_append]; simp; omega, Lib.hid ⟨HN1.out, by rw [HQ.out.1, HS.out.2.1, HQB.out], HM.out⟩⟩
      have h34i : (((c.toNat : Nat) : Int) == 34) = false := by simp; omega
      by_cases h92 : c.toNat = 92
      · have HQB : Hid (tk.qb c = [92, 92]) := Lib.hid (by unfold tk.qb; rw [if_neg h10, if_neg h9, if_pos (.inr h92), tk.ub_ext (c := c) (d := 92) h92])
        have HM := Lib.hid (HM0.out (by simp only [tk.may, decide_eq_true_eq]; omega))
        have hci : ((c.toNat : Nat) : Int) = 92 := by omega
        rw [hci] at hix
        clear h9 h10 h34 h92 HM0
        have hb1 := below_one wr (.cells #[.int .u8 92, .int .u8 92] 5)
        have HB1 := Lib.hid hb1
        have HRW := Lib.hid (And.intro (row_below HS.out.1.row hb1) (heap_alloc_new wr (.cells #[.int .u8 92, .int .u8 92] 5)))
        clear hb1
        go_wp2_with (at_builtin; refine wpList_two rfl _ _ rfl w.heap.size V acc rfl HRW.out.1 wr.heap.size 92 92 rfl HRW.out.2 (by omega) (by simp; omega) (fun v' w' r1 r2 => ?_); have HN1 := Lib.hid (HS.out.1.next HB1.out r1 r2); clear r1 r2)
        go_roundg (N - (k + 1))
        case measure => omega
        case rel => exact ⟨k + 1, _, acc ++ [92, 92], rfl, by go_num, by omega, Nat.le_refl _, by rw [List.length_append]; simp; omega, Lib.hid ⟨HN1.out, by rw [HQ.out.1, HS.out.2.1, HQB.out], HM.out⟩⟩
      have h92i : (((c.toNat : Nat) : Int) == 92) = false := by simp; omega
      by_cases h32 : c.toNat < 32
      · have h32i : decide (((c.toNat : Nat) : Int) < 32) = true := decide_eq_true (by omega)
        clear HM0 HQ HQS
        go_wp2_with fail
        go_ret
        exact ⟨rfl, HS.out.1.bel⟩
      have h32i : decide (((c.toNat : Nat) : Int) < 32) = false := decide_eq_false (by omega)
      by_cases h127 : c.toNat = 127
      · have h127i : (((c.toNat : Nat) : Int) == 127) = true := by simp; omega
        clear HM0 HQ HQS
        go_wp2_with fail
        go_ret
        exact ⟨rfl, HS.out.1.bel⟩
      have h127i : (((c.toNat : Nat) : Int) == 127) = false := by simp; omega
      have HQB : Hid (tk.qb c = [c]) := Lib.hid (by unfold tk.qb; rw [if_neg h10, if_neg h9, if_neg (by omega)])
      have HM := Lib.hid (HM0.out (by simp only [tk.may, decide_eq_true_eq]; omega))
      clear HM0
      have hb1 := below_one wr (.cells #[.int .u8 (c.toNat : Nat)] 5)
      have HB1 := Lib.hid hb1
      have HRW := Lib.hid (And.intro (row_below HS.out.1.row hb1) (heap_alloc_new wr (.cells #[.int .u8 (c.toNat : Nat)] 5)))
      clear hb1
      go_wp2_with (at_builtin; refine wpList_byte rfl _ _ rfl w.heap.size V acc rfl HRW.out.1 wr.heap.size c rfl HRW.out.2 (by omega) (by simp; omega) (fun v' w' r1 r2 => ?_); have HN1 := Lib.hid (HS.out.1.next HB1.out r1 r2); clear r1 r2)
      go_roundg (N - (k + 1))
      case measure => omega
      case rel => exact ⟨k + 1, _, acc ++ [c], rfl, by go_num, by omega, Nat.le_refl _, by rw [List.length_append]; simp; omega, Lib.hid ⟨HN1.out, by rw [HQ.out.1, HS.out.2.1, HQB.out], HM.out⟩⟩
    · obtain rfl : k = N := by omega
      have HACC : Hid (acc = 34 :: tk.qbs l ∧ ∀ c ∈ l, tk.may c = true) := Lib.hid (by
        have h1 := HS.out.2.1
        have h2 := HS.out.2.2
        rw [HTA.out] at h1 h2
        exact ⟨h1, h2⟩)
      have HM1 := Lib.hid HS.out.1
      clear HS HQS HIX
      obtain ⟨ao, ac, rfl⟩ := own_slice HM1.out.row
      have hwl : w.heap.size ≤ wr.heap.size := HM1.out.bel.size
      by_cases h4 : 4000 < acc.length
      · have h4i : decide ((4000 : Int) < (acc.length : Int)) = true := decide_eq_true (by omega)
        go_wp2_with fail
        go_ret
        exact ⟨rfl, HM1.out.bel⟩
      have h4i : decide ((4000 : Int) < (acc.length : Int)) = false := decide_eq_false (by omega)
      have HQ4 : Hid ((tk.qbs l).length ≤ 4000) := Lib.hid (by
        rw [HACC.out.1, List.length_cons] at h4; omega)
      have HE : Hid (acc ++ [34] = 34 :: (tk.qbs l ++ [34])) := Lib.hid (by rw [HACC.out.1]; rfl)
      have hb1 := below_one wr (.cells #[.int .u8 34] 5)
      have HB1 := Lib.hid hb1
      have HRW := Lib.hid (And.intro (row_below HM1.out.row hb1) (heap_alloc_new wr (.cells #[.int .u8 34] 5)))
      clear hb1
      go_wp2_with (at_builtin; refine wpList_byte rfl _ _ rfl w.heap.size _ acc rfl HRW.out.1 wr.heap.size 34 rfl HRW.out.2 (by omega) (by simp; omega) (fun v' w' r1 r2 => ?_); have hcv := conv_own r1; rw [HE.out] at hcv; have HN1 := Lib.hid (HM1.out.next HB1.out r1 r2); clear r1 r2)
      refine (HK3.out _ (HT.out.below HN1.out.bel h3) HACC.out.2 HQ4.out).mono ?_
      rintro e w9 ⟨V3, rfl, hb9, hx9⟩
      have HX9 := Lib.hid hx9
      obtain ⟨ao3, ac3, rfl⟩ := own_slice (hx9 _ (Below.refl _ _)).1
      clear hx9 hb9 HK3
      go_upto_region 25 with fail
      generalize w9.alloc (.cells #[.int .i64 (0 : Nat), .int .i64 0] 26) = w10 at *
      generalize w9.heap.size = f3 at *
      obtain ⟨r3, y3, hb10⟩ := HX9.out w10 (Below.refl _ _)
      have HB10 := Lib.hid (HN1.out.bel.trans (hb10.mono HN1.out.bel.size))
      have d0 : w10.cell? ⟨f3, 0, none⟩ = some (.int .i64 0) := (cell_of_heap y3).trans rfl
      obtain ⟨g3, c3, hV3, _, hm3, _, hg3, u0, u1, _, _⟩ := tok_at r3 (k := 0) rfl
      obtain ⟨rfl, -, rfl⟩ := Value.slice.inj hV3
      simp only [Nat.zero_mul, Nat.zero_add] at u0 u1
      clear r3 y3 hb10 HX9 hcv HE HRW HB1
      go_wp2_with fail
      go_ret
      exact ⟨rfl, HB10.out⟩
end Go.Proofs.YteilaoiimlpbkabDoor
