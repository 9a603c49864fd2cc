/- What bytes between quotes say. -/
import Derived.Test.YthmiaamjbokljaaGreatDoorTkTell
import Derived.Lib.AppendStr
namespace Go.Proofs.YthmiaamjbokljaaGreatDoor
open Go.RowKit
/-- a value and a struct in a cell, as results -/
theorem results_tmp_cell {fn : Func} {p u : Tmp} {ty : TypeId} (h : fn.results = #[.tmp u, .cell p ty]) (tmps : Array Value) (P : Program) (w : World) :
    (results fn tmps).run P w =
      ((asAddr (tmps.getD p undef)).run P w).andThen fun a w₁ => ((loadVar ty a).run P w₁).andThen fun v w₂ => .ok (.tuple #[tmps.getD u undef, v]) w₂ := by
  simp only [results, h]
  simp [Sem.run_bind, Result.andThen]
theorem results_tmp_row {P : Program} {fn : Func} {p u : Tmp} {ty : TypeId} (h : fn.results = #[.tmp u, .cell p ty]) (tmps : Array Value) (w : World) (g : Nat) (t : TypeId) (cs : Array Value) (fr : Nat × Nat) (d : TypeDesc)
    (hp : tmps.getD p undef = .pointer (some ⟨g, 0, none⟩)) (hg : w.heap[g]? = some (.cells cs t fr))
    (hu : P.underlying ty = some d) (hd : (match d with | .struct _ | .array _ _ => true | _ => false) = true) (hi : (P.info? ty).map (·.size) = some cs.size) :
    (results fn tmps).run P w = .ok (.tuple #[tmps.getD u undef, .agg cs]) w := by
  rw [results_tmp_cell h, hp]
  simp [asAddr, run_loadVar_row w g t ty cs fr d hg hu hd hi, Result.andThen]
/-- each \ has a byte behind it -/
def tk.paired : List UInt8 → Bool
  | [] => true
  | [c] => decide (c.toNat ≠ 92)
  | c :: d :: r => if c.toNat = 92 then tk.paired r else tk.paired (d :: r)
theorem tk.paired_step (l : List UInt8) (k : Nat) (h : k < l.length) (hp : tk.paired (l.drop k) = true) :
    (l[k].toNat = 92 → k + 1 < l.length ∧ tk.paired (l.drop (k + 2)) = true) ∧ (l[k].toNat ≠ 92 → tk.paired (l.drop (k + 1)) = true) := by
  rw [tk.drop_cons l k h] at hp
  by_cases h2 : k + 1 < l.length
  · rw [tk.drop_cons l (k + 1) h2] at hp
    unfold tk.paired at hp
    refine ⟨fun h92 => ⟨h2, by rw [if_pos h92] at hp; exact hp⟩, fun h92 => ?_⟩
    rw [if_neg h92] at hp
    rw [tk.drop_cons l (k + 1) h2]
    exact hp
  · have e1 : l.drop (k + 1) = [] := List.drop_eq_nil_of_le (by omega)
    rw [e1] at hp ⊢
    simp [tk.paired] at hp
    exact ⟨fun h92 => absurd h92 hp, fun _ => rfl⟩
theorem tk.unq_step (l : List UInt8) (k : Nat) (h : k < l.length) (acc : List UInt8) :
    tk.unq k (l.drop k) acc = if tk.isControl l[k] = true then ([], 70, k) else if l[k].toNat = 92 then (if h2 : k + 1 < l.length then (if tk.escaped l[k + 1] = 0 then ([], 72, k) else tk.unq (k + 2) (l.drop (k + 2)) (acc ++ [UInt8.ofNat (tk.escaped l[k + 1])])) else ([], 72, k)) else tk.unq (k + 1) (l.drop (k + 1)) (acc ++ [l[k]]) := by
  rw [tk.drop_cons l k h]
  by_cases h2 : k + 1 < l.length
  · rw [tk.drop_cons l (k + 1) h2, dif_pos h2]
    rfl
  · have e1 : l.drop (k + 1) = [] := List.drop_eq_nil_of_le (by omega)
    rw [e1, dif_neg h2]
    rfl
theorem tk.escaped_small (c : UInt8) : tk.escaped c < 256 := by
  have : c.toNat < 256 := UInt8.toNat_lt c
  unfold tk.escaped
  split
  · exact this
  split
  · omega
  split <;> omega
theorem infoB : (Tryz.prog.info? 5).map (fun i => (i.zero, i.size, i.bytes)) = some (some (Value.int .u8 0), 1, 1) := by kernel_rfl
def byC (l : List UInt8) : List Value := l.map fun c => Value.int .u8 (c.toNat : Nat)
/-- where unquoting stands -/
structure UQ (w wr : World) (V : Value) (acc : List UInt8) : Prop where
  row : wr.ownsRow (w.heap.size + 1) 5 1 V acc.length (byC acc)
  blk : wr.heap[w.heap.size]? = some (.cells #[.int .i64 0, .int .i64 0] 30 (0, 0))
  bel : Below w.heap.size w wr
theorem UQ.start (w : World) : UQ w (w.alloc (.cells #[.int .i64 0, .int .i64 0] 30)) (.slice none 0 0) [] :=
  ⟨World.ownsRow_nil _ _ _ _, heap_alloc_new _ _, below_one _ _⟩
theorem cells_one_new (w : World) (v : Value) (e : TypeId) : ∀ (j : Nat) (u : Value), [v][j]? = some u → (w.alloc (.cells #[v] e)).cell? ((⟨w.heap.size, 0, none⟩ : Addr).add j) = some u := by
  intro j u hj
  match j, hj with
  | 0, hj => simp at hj; subst hj; simp [Addr.add]
/-- the bytes of a row of one's own as a text -/
theorem conv_own {w : World} {B : Nat} {V : Value} {acc : List UInt8} (h : w.ownsRow B 5 1 V acc.length (byC acc)) : (convert 51 9 V).run Tryz.prog w = .ok (str acc) w := by
  rcases h.2 with ⟨rfl, h0⟩ | ⟨g, cap, cur, rfl, hB, hg, hc, hm, hs, ht⟩
  · obtain rfl : acc = [] := List.length_eq_zero_iff.1 h0
    exact run_convert_bytes_nil w 51 5 Tryz.underlying51 Tryz.underlying5 0 0 9 Tryz.underlying9
  · refine run_convert_bytes_back (P := Tryz.prog) w 51 9 5 ⟨g, 0, none⟩ cap acc Tryz.underlying51 Tryz.underlying5 Tryz.underlying9 (fun j hj => ?_)
    rw [addr_b0, cell_of_heap hg]
    have h1 : cur.toList[j]? = (byC acc)[j]? := by
      rw [← ht, List.getElem?_take, if_pos (by omega)]
    rw [← Array.getElem?_toList, h1]
    simp [byC, hj]
theorem byC_snoc (l : List UInt8) (c : UInt8) : byC (l ++ [c]) = byC l ++ [Value.int .u8 (c.toNat : Nat)] := by simp [byC]
/-- a byte more -/
theorem wpList_byte {w : World} {ops : Array Oper} {rest : List Oper} {op : Oper} {a : Act} {Q : Exit → Act → World → Prop} (hgd : op.guard = none) (s x : Operand)
    (ho : op.op = .call { callee := .builtin .append, args := #[s, x], argTypes := #[51, 51] }) (B : Nat) (v : Value) (l : List UInt8) (hs : a.eval s = v) (hown : w.ownsRow B 5 1 v l.length (byC l))
    (g : Nat) (c : UInt8) (hx : a.eval x = .slice (some ⟨g, 0, none⟩) 1 1) (hg : w.heap[g]? = some (.cells #[.int .u8 (c.toNat : Nat)] 5 (0, 0)))
    (hlen : l.length ≤ 1099511627776) (hbase : B ≤ w.heap.size)
    (h : ∀ v' w', w'.ownsRow B 5 1 v' (l ++ [c]).length (byC (l ++ [c])) → Below B w w' → wpList Tryz.prog ops Q rest (a.put op.dst v') w') : wpList Tryz.prog ops Q (op :: rest) a w := by
  obtain ⟨i0, hi, hz0, hz1, hz2⟩ := info_parts infoB
  refine wpList_append_own (P := Tryz.prog) w hgd s x 51 ho B 5 i0 _ 1 1 Tryz.underlying51 hi hz0 hz1 hz2 rfl (by omega) v l.length (byC l) hs hown
    ⟨g, 0, none⟩ 1 1 [.int .u8 (c.toNat : Nat)] hx rfl (fun j u hu => ?_) (fun u hu => ?_) (by unfold maxLen; omega) (by omega) hbase (fun v' w' r1 r2 _ => h v' w' ?_ ?_)
  · rw [addr_b0, cell_of_heap hg]; simpa using hu
  · simp at hu; subst hu; rfl
  · rw [byC_snoc, List.length_append]; exact r1
  · exact (Below.refl B w).grown r2 hbase (fun k hk => (hown.lt k hk).1)
theorem UQ.fault {w wr : World} {V : Value} {acc : List UInt8} (h : UQ w wr V acc) (c k : Int) : ((wr.setCell ⟨w.heap.size, 0, none⟩ (.int .i64 c)).setCell ⟨w.heap.size, 1, none⟩ (.int .i64 k)).heap[w.heap.size]? = some (.cells #[.int .i64 c, .int .i64 k] 30 (0, 0)) ∧ Below w.heap.size w ((wr.setCell ⟨w.heap.size, 0, none⟩ (.int .i64 c)).setCell ⟨w.heap.size, 1, none⟩ (.int .i64 k)) := by
  have h1 := heap_setCell_same wr w.heap.size 0 _ _ (.int .i64 c) h.blk
  exact ⟨heap_setCell_same _ w.heap.size 1 _ _ (.int .i64 k) h1, (h.bel.setCell (Nat.le_refl _) _).setCell (Nat.le_refl _) _⟩
theorem UQ.next {w wr X w' : World} {V v' : Value} {acc acc' : List UInt8} (h : UQ w wr V acc) (hX : Below wr.heap.size wr X) (hr : w'.ownsRow (w.heap.size + 1) 5 1 v' acc'.length (byC acc')) (hb : Below (w.heap.size + 1) X w') : UQ w w' v' acc' := by
  have hlt : w.heap.size < wr.heap.size := (Array.getElem?_eq_some_iff.1 h.blk).1
  exact ⟨hr, (hb.block _ (Nat.lt_succ_self _)).trans ((hX.block _ hlt).trans h.blk), h.bel.trans ((hX.mono (Nat.le_of_lt hlt)).trans (hb.mono (Nat.le_succ _)))⟩
set_option maxRecDepth 100000 in
set_option maxHeartbeats 3200000 in
theorem unquoted_any (l : List UInt8) (w : World) (hl : l.length ≤ 1048576) (hp : tk.paired l = true) :
    Calls Tryz.prog 84 #[str l] w fun e w' => e = .returned (.tuple #[str (tk.unq 0 l []).1, .agg #[.int .i64 (tk.unq 0 l []).2.1, .int .i64 (tk.unq 0 l []).2.2]]) ∧ Below w.heap.size w w' := by
  obtain ⟨i0, hi, hz0, hz1, hz2⟩ := info_parts infoB
  have hsz := str_size l
  have HIX := Lib.hid (fun (i : Nat) (hi : i < l.length) wx => run_str_idx l .i64 i hi wx)
  have HPS := Lib.hid (tk.paired_step l)
  have HUS := Lib.hid (tk.unq_step l)
  obtain ⟨R, hR⟩ : ∃ R, tk.unq 0 l [] = R := ⟨_, rfl⟩
  rw [hR]
  have H0 : Hid (UQ w (w.alloc (.cells #[.int .i64 0, .int .i64 0] 30)) (.slice none 0 0) [] ∧ tk.unq 0 (l.drop 0) [] = R ∧ tk.paired (l.drop 0) = true) := Lib.hid ⟨UQ.start w, hR, hp⟩
  obtain ⟨n, hn⟩ : ∃ n, l.length = n := ⟨_, rfl⟩
  have HN := Lib.hid hn
  rw [hn] at hl hsz
  clear hn hR hp
  go_enter Tryz.func84, Tryz.ntmps84
  go_wp2_with fail
  generalize w.alloc (.cells #[.int .i64 0, .int .i64 0] 30) = wE at *
  go_loopg [4, 5] n (fun gg s4 s5 wr => ∃ (k : Nat) (V : Value) (acc : List UInt8), V = s4 ∧ s5 = .int .i64 k ∧ k ≤ n ∧ n - k ≤ gg ∧ acc.length ≤ k ∧ Hid (UQ w wr V acc ∧ tk.unq k (l.drop k) acc = R ∧ tk.paired (l.drop k) = true))
  case atStart => exact ⟨0, _, [], rfl, rfl, Nat.zero_le _, by omega, Nat.le_refl _, H0⟩
  case round =>
    clear H0
    obtain ⟨k, V, acc, rfl, rfl, hk, hgg, hal, HS⟩ := hrel
    by_cases hlt : k < n
    · have hki : (k : Int) < (n : Int) := by omega
      have hkl : k < l.length := by rw [HN.out]; exact hlt
      have hix := HIX.out k hkl
      have hps := HPS.out k hkl HS.out.2.2
      have hus := HUS.out k hkl acc
      rw [HS.out.2.1] at hus
      have HC := Lib.hid (fun W => isControl_any l[k] W)
      have hr3 := HS.out.1.blk
      have hwl : w.heap.size < wr.heap.size := (Array.getElem?_eq_some_iff.1 hr3).1
      have d0 : wr.cell? ⟨w.heap.size, 0, none⟩ = some (.int .i64 0) := (cell_of_heap hr3).trans rfl
      have d1 : wr.cell? ⟨w.heap.size, 1, none⟩ = some (.int .i64 0) := (cell_of_heap hr3).trans rfl
      have e0 : wr.frozen? ⟨w.heap.size, 0, none⟩ = false := by simp [World.frozen?, hr3]
      have e1 : wr.frozen? ⟨w.heap.size, 1, none⟩ = false := by simp [World.frozen?, hr3]
      clear hr3
      generalize l[k] = c at *
      generalize tk.isControl c = ctl at *
      cases ctl
      case true =>
        have HR : Hid (R = ([], 70, k)) := Lib.hid (by rw [hus, if_pos rfl])
        have HF := Lib.hid (HS.out.1.fault 70 k)
        clear hus hps
        go_wp2_with fail
        refine (HC.out _).mono ?_
        rintro e wr ⟨rfl, rfl⟩
        go_wp2_with fail
        refine bodyPost_ret (results_tmp_row rfl _ _ w.heap.size 30 _ (0, 0) _ rfl HF.out.1 Tryz.underlying30 rfl (by kernel_rfl)) rfl ?_
        rw [HR.out]
        exact ⟨rfl, HF.out.2⟩
      case false =>
        rw [if_neg (by decide)] at hus
        go_wp2_with fail
        refine (HC.out _).mono ?_
        rintro e wr ⟨rfl, rfl⟩
        clear HC
        by_cases h92 : c.toNat = 92
        · obtain ⟨hk1, hp2⟩ := hps.1 h92
          rw [if_pos h92, dif_pos hk1] at hus
          have hix2 := HIX.out (k + 1) hk1
          rw [show ((k + 1 : Nat) : Int) = (k : Int) + 1 by omega] at hix2
          have HES := Lib.hid (fun W => escaped_any l[k + 1] W)
          have hes := tk.escaped_small l[k + 1]
          have h92i : ((c.toNat : Nat) : Int) = 92 := by omega
          have hkn : k + 1 < n := by rw [← HN.out]; exact hk1
          clear hps
          generalize l[k + 1] = d at *
          generalize tk.escaped d = ec at *
          by_cases hz : ec = 0
          · subst hz
            have HR : Hid (R = ([], 72, k)) := Lib.hid (by rw [hus, if_pos rfl])
            have HF := Lib.hid (HS.out.1.fault 72 k)
            clear hus hp2
            rw [h92i] at *
            clear h92
            go_wp2_with fail
            refine (HES.out _).mono ?_
            rintro e wr ⟨rfl, rfl⟩
            go_wp2_with fail
            refine bodyPost_ret (results_tmp_row rfl _ _ w.heap.size 30 _ (0, 0) _ rfl HF.out.1 Tryz.underlying30 rfl (by kernel_rfl)) rfl ?_
            rw [HR.out]
            exact ⟨rfl, HF.out.2⟩
          · have hzi : ((ec : Int) == 0) = false := by simp; omega
            have HEC : Hid ((UInt8.ofNat ec).toNat = ec) := Lib.hid (by rw [UInt8.toNat_ofNat']; omega)
            have HR : Hid (tk.unq (k + 2) (l.drop (k + 2)) (acc ++ [UInt8.ofNat ec]) = R ∧ tk.paired (l.drop (k + 2)) = true) := Lib.hid ⟨by rw [hus, if_neg hz], hp2⟩
            rw [h92i] at *
            clear hus hp2 h92
            rw [← HEC.out] at HES
            obtain ⟨c8, hc8⟩ : ∃ c8, UInt8.ofNat ec = c8 := ⟨_, rfl⟩
            rw [hc8] at HR HES HEC
            rw [← HEC.out] at hzi
            clear hc8 hz hes
            have hb1 := below_one wr (.cells #[.int .u8 (c8.toNat : Nat)] 5)
            have HB1 := Lib.hid hb1
            have HRW := Lib.hid (And.intro (row_below HS.out.1.row hb1) (heap_alloc_new wr (.cells #[.int .u8 (c8.toNat : Nat)] 5)))
            clear hb1
            go_wp2_with fail
            refine (HES.out _).mono ?_
            rintro e wr ⟨rfl, rfl⟩
            go_wp2_with (at_builtin; refine wpList_byte rfl _ _ rfl (w.heap.size + 1) V acc rfl HRW.out.1 wr.heap.size c8 rfl HRW.out.2 (by omega) (by simp; omega) (fun v' w' r1 r2 => ?_); have HN1 := Lib.hid (HS.out.1.next HB1.out r1 r2); clear r1 r2)
            go_roundg (n - (k + 2))
            case measure => omega
            case rel => exact ⟨k + 2, _, acc ++ [c8], rfl, by go_num, by omega, Nat.le_refl _, by rw [List.length_append]; simp; omega, Lib.hid ⟨HN1.out, HR.out.1, HR.out.2⟩⟩
        · have h92i : (((c.toNat : Nat) : Int) == 92) = false := by simp; omega
          have HR : Hid (tk.unq (k + 1) (l.drop (k + 1)) (acc ++ [c]) = R ∧ tk.paired (l.drop (k + 1)) = true) := Lib.hid ⟨by rw [hus, if_neg h92], hps.2 h92⟩
          clear hus hps
          have hb1 := below_one wr (.cells #[.int .u8 (c.toNat : Nat)] 5)
          have HB1 := Lib.hid hb1
          have HRW := Lib.hid (And.intro (row_below HS.out.1.row hb1) (heap_alloc_new wr (.cells #[.int .u8 (c.toNat : Nat)] 5)))
          clear hb1
          go_wp2_with (at_builtin; refine wpList_byte rfl _ _ rfl (w.heap.size + 1) V acc rfl HRW.out.1 wr.heap.size c rfl HRW.out.2 (by omega) (by simp; omega) (fun v' w' r1 r2 => ?_); have HN1 := Lib.hid (HS.out.1.next HB1.out r1 r2); clear r1 r2)
          go_roundg (n - (k + 1))
          case measure => omega
          case rel => exact ⟨k + 1, _, acc ++ [c], rfl, by go_num, by omega, Nat.le_refl _, by rw [List.length_append]; simp; omega, Lib.hid ⟨HN1.out, HR.out.1, HR.out.2⟩⟩
    · obtain rfl : k = n := by omega
      have hki : ¬ (k : Int) < (k : Int) := by omega
      have hcv := conv_own HS.out.1.row
      have hr3 := HS.out.1.blk
      have hwl : w.heap.size < wr.heap.size := (Array.getElem?_eq_some_iff.1 hr3).1
      have d0 : wr.cell? ⟨w.heap.size, 0, none⟩ = some (.int .i64 0) := (cell_of_heap hr3).trans rfl
      have d1 : wr.cell? ⟨w.heap.size, 1, none⟩ = some (.int .i64 0) := (cell_of_heap hr3).trans rfl
      have e0 : wr.frozen? ⟨w.heap.size, 0, none⟩ = false := by simp [World.frozen?, hr3]
      have e1 : wr.frozen? ⟨w.heap.size, 1, none⟩ = false := by simp [World.frozen?, hr3]
      have HF := Lib.hid (HS.out.1.fault 0 0)
      have HR : Hid (R = (acc, 0, 0)) := Lib.hid (by
        have h1 := HS.out.2.1
        rw [List.drop_eq_nil_of_le (by rw [HN.out]; exact Nat.le_refl _)] at h1
        rw [← h1]
        rfl)
      clear hr3
      go_wp2_with fail
      refine bodyPost_ret (results_tmp_row rfl _ _ w.heap.size 30 _ (0, 0) _ rfl HF.out.1 Tryz.underlying30 rfl (by kernel_rfl)) rfl ?_
      rw [HR.out]
      exact ⟨rfl, HF.out.2⟩
end Go.Proofs.YthmiaamjbokljaaGreatDoor
