/- The bytes of a control sequence: Csi. -/
import Derived.Test.YtgkodjkhhmcnnaaDoorEscLoop
import Derived.Test.YtgkodjkhhmcnnaaDoorGlLit
import Derived.Test.YtgkodjkhhmcnnaaDoorShelf
import Derived.Lib.AppendIntMem
import Derived.Lib.ItoaLen
namespace Go.Proofs.YtgkodjkhhmcnnaaDoor
open Go.RowKit

namespace es
/-- a number in a sequence: nothing where it is negative -/
def numT (n : Int) : List UInt8 := if 0 ≤ n then Lib.itoa (min n 9999) else []
/-- the k-th number, and what parts it from the one ahead -/
def piece (ps : List Int) (k : Nat) : List UInt8 := (if k = 0 then [] else [59]) ++ numT (ps.getD k 0)
def nums (ps : List Int) (k : Nat) : List UInt8 := (List.range k).flatMap (piece ps)
theorem nums_succ (ps : List Int) (k : Nat) : nums ps (k + 1) = nums ps k ++ piece ps k := by simp [nums, List.range_succ]
def privB (priv : Nat) : List UInt8 := if priv = 0 then [] else [UInt8.ofNat priv]
def csiB (priv : Nat) (ps : List Int) (final : UInt8) : List UInt8 := [27, 91] ++ privB priv ++ nums ps (min ps.length 16) ++ [final]
theorem numT_len (n : Int) : (numT n).length ≤ 21 := by
  unfold numT
  split
  · exact Lib.itoa_length_le _ (by omega) (by omega)
  · simp
theorem piece_len (ps : List Int) (k : Nat) : (piece ps k).length ≤ 22 := by
  have := numT_len (ps.getD k 0)
  unfold piece
  generalize numT (ps.getD k 0) = z at *
  rw [List.length_append]
  split <;> simp <;> omega
/-- the bytes ahead of the end, k numbers in -/
def upto (priv : Nat) (ps : List Int) (k : Nat) : List UInt8 := [27, 91] ++ privB priv ++ nums ps k
theorem upto_len (priv : Nat) (ps : List Int) : ∀ k, (upto priv ps k).length ≤ 3 + 22 * k
  | 0 => by unfold upto privB nums; split <;> simp
  | k + 1 => by
    have h1 := upto_len priv ps k
    have h2 := piece_len ps k
    unfold upto at *
    rw [nums_succ]
    simp only [List.length_append] at *
    omega
theorem upto_succ (priv : Nat) (ps : List Int) (k : Nat) : upto priv ps (k + 1) = upto priv ps k ++ piece ps k := by
  unfold upto
  rw [nums_succ]
  simp [List.append_assoc]
end es
/-- the table of powers of ten -/
def PTab (w : World) : Prop := Lib.TabIs Tryd.prog w "internal/strconv.uint64pow10" .u64 Lib.pow10Tab
theorem byteCells_eq (l : List UInt8) : Lib.byteCells l = cs .u8 (u8s l) := by simp [Lib.byteCells, cs, u8s]
/-- bytes in a row of the call's own -/
def RowB (wr : World) (B : Nat) (V : Value) (l : List UInt8) : Prop := wr.ownsRow B 5 1 V l.length (cs .u8 (u8s l))
theorem RowB.below {w w' : World} {B : Nat} {V : Value} {l : List UInt8} (h : RowB w B V l) (hb : Below w.heap.size w w') : RowB w' B V l := by
  obtain ⟨o, c, rfl, _⟩ := Nums.of_own h
  exact (Own.mk h).below hb |>.row
theorem rowB_append {l m : List UInt8} {w : World} {B : Nat} {V : Value} (h : w.ownsRow B 5 1 V (l.length + m.length) (cs .u8 (u8s l ++ u8s m))) : RowB w B V (l ++ m) := by
  unfold RowB
  rw [List.length_append, u8s_append]
  exact h
theorem rowB_num {l : List UInt8} {n : Int} {w : World} {B : Nat} {V : Value} (h : w.ownsRow B 5 1 V (l.length + (Lib.itoa n).length) (cs .u8 (u8s l) ++ Lib.byteCells (Lib.itoa n))) : RowB w B V (l ++ Lib.itoa n) := by
  refine rowB_append ?_
  rw [byteCells_eq] at h
  simpa [cs] using h
/-- what holds where k numbers stand -/
structure CsiIn (w : World) (o : Option Addr) (n cap : Nat) (ps : List Int) (V : Value) (l : List UInt8) (wr : World) : Prop where
  row : RowB wr w.heap.size V l
  bel : Below w.heap.size w wr
  bts : Nums .i64 wr o n cap ps
theorem CsiIn.step {w wr w' : World} {o : Option Addr} {n cap : Nat} {ps : List Int} {V V' : Value} {l l' : List UInt8} (h : CsiIn w o n cap ps V l wr) (hx : Nums .i64 w o n cap ps) (hb : Below w.heap.size wr w') (hr : RowB w' w.heap.size V' l') : CsiIn w o n cap ps V' l' w' :=
  ⟨hr, h.bel.trans hb, hx.below (h.bel.trans hb)⟩
theorem min16_lt {k n : Nat} : k < min n 16 → k < n := by omega
set_option maxRecDepth 100000 in
/-- a slice's beginning -/
theorem slice_hi_i {w : World} {o : Option Addr} {n cap : Nat} {zs : List Int} (H : Nums .i64 w o n cap zs) (l : Nat) (hl : l ≤ n) (x : Int) (hx : x = (l : Int)) :
    (∀ (k : IntKind) (wx : World), (Instr.slice 43 (.slice o n cap) none (some (.int k x)) none).run Tryd.prog wx = .ok (.slice o l cap) wx) := by
  subst hx
  have hle := H.le
  refine fun k wx => ?_
  rw [run_slice_h wx 43 o n cap Tryd.underlying43 k l (by omega) (by omega)]
  have hz : (sizeOf (Tryd.prog.elem 43)).run Tryd.prog wx = .ok 1 wx := by kernel_rfl
  rw [hz]
  have e : (fun x : Addr => x.add 0) = id := funext addr_add0
  simp [Result.andThen, sliced, e]
set_option maxRecDepth 100000 in
set_option maxHeartbeats 1600000 in
theorem csiB_any (priv : Nat) (final : UInt8) (ps : List Int) (o : Option Addr) (n cap : Nat) (w : World) (hx : Nums .i64 w o n cap ps) (hi64 : ∀ z ∈ ps, -9223372036854775808 ≤ z ∧ z ≤ 9223372036854775807) (ht : PTab w) (hpr : priv < 256) :
    Calls Tryd.prog 18 #[.int .u8 priv, .slice o n cap, .int .u8 final.toNat] w fun e w' => ∃ ro rc, e = .returned (.slice ro (es.csiB priv ps final).length rc) ∧ Own w' w.heap.size 5 .u8 ro (es.csiB priv ps final).length rc (u8s (es.csiB priv ps final)) ∧ Below w.heap.size w w' := by
  obtain ⟨i0, hi, hz0, hz1, hz2⟩ := info_parts infoB
  have hlen := hx.len
  have hmx : cap ≤ 9223372036854775807 := hx.max
  have hle := hx.le
  have rm := fun W ts t k k' x y => run_mn (P := Tryd.prog) (w := W) ts t k k' x y
  have hm : mn (n : Int) 16 = ((min n 16 : Nat) : Int) := mn_nat n 16
  have hs := slice_hi_i hx (min n 16) (by omega) (mn (n : Int) 16) hm
  have HT := Lib.hid (Lib.tabBelow_of_tabIs ht)
  have HX := Lib.hid hx; have HI := Lib.hid hi64
  have H0 : Hid (CsiIn w o n cap ps (.slice (some ⟨w.heap.size, 0, none⟩) 2 2) [27, 91] (w.alloc (.cells #[.int .u8 27, .int .u8 91] 5))) := Lib.hid ⟨by
    have := own_made (w := w) (B := w.heap.size) 2 #[.int .u8 27, .int .u8 91] (Nat.le_refl _) (by unfold maxLen; omega) rfl 5 .u8
    exact ⟨rfl, .inr ⟨w.heap.size, 2, #[.int .u8 27, .int .u8 91], rfl, Nat.le_refl _, heap_alloc_new _ _, Nat.le_refl _, by unfold maxLen; omega, rfl, rfl⟩⟩, below_one w _, hx.below (below_one w _)⟩
  clear hx hi64 ht
  by_cases hp0 : priv = 0
  · subst hp0
    rw [show ([27, 91] : List UInt8) = es.upto 0 ps 0 by simp [es.upto, es.privB, es.nums]] at H0
    go_enter Tryd.func18, Tryd.ntmps18
    go_wp2_with fail
    go_loopg [7, 23] (min n 16) (fun gg s7 s23 wr => ∃ (k : Nat) (V : Value), V = s7 ∧ s23 = .int .i64 k ∧ k ≤ min n 16 ∧ min n 16 - k ≤ gg ∧ Hid (CsiIn w o n cap ps V (es.upto 0 ps k) wr))
    case atStart => exact ⟨0, _, rfl, rfl, Nat.zero_le _, by omega, H0⟩
    case round =>
      clear H0
      obtain ⟨k, _, rfl, rfl, hk, hgg, HC⟩ := hrel
      by_cases hlt : k < min n 16
      · have hkn : k < n := min16_lt hlt
        obtain ⟨b, off, rfl, hb, hc⟩ := HC.out.bts.cell hkn
        have hz := HI.out (ps.getD k 0) (by simp [List.getD, show k < ps.length by omega])
        have hl := es.upto_len 0 ps k
        have hki : (k : Int) < ((min n 16 : Nat) : Int) := by omega
        have hbel := HC.out.bel
        have HPC := Lib.hid (es.upto_succ 0 ps k)
        have HZ : Hid (es.piece ps k = (if k = 0 then [] else [59]) ++ es.numT (ps.getD k 0)) := Lib.hid rfl
        generalize ps.getD k 0 = z at *
        have hs1 : w.heap.size ≤ wr.heap.size := hbel.size
        have HB := Lib.hid hbel
        have hl2 : (es.upto 0 ps k).length ≤ 1000 := by omega
        generalize hL1 : es.upto 0 ps (k + 1) = L1 at *
        have HL1 := Lib.hid hL1
        clear hL1
        generalize es.upto 0 ps k = L at *
        generalize es.piece ps k = PC at *
        clear hbel hl
        by_cases hk0 : k = 0
        · subst hk0
          rw [Nat.add_zero] at hc
          have HZ2 : Hid (L1 = L ++ es.numT z) := Lib.hid (by rw [HPC.out, HZ.out]; simp)
          clear HPC HZ
          by_cases hzn : 0 ≤ z
          · have HN : Hid (es.numT z = Lib.itoa (mn z 9999)) := Lib.hid (by unfold es.numT mn; rw [if_pos hzn]; congr 1; omega)
            have hmb : -9223372036854775808 ≤ mn z 9999 ∧ mn z 9999 ≤ 9223372036854775807 := by unfold mn; omega
            have HA := Lib.hid (Tryd.strconv_AppendInt_10 w.heap.size L.length (mn z 9999) hmb.1 hmb.2 _ _ wr HC.out.row hs1 (by omega) (HT.out.on HB.out))
            clear hmb
            go_wp2_with fail
            refine HA.out.mono ?_
            rintro e w2 ⟨V2, rfl, r1, r2, _⟩
            have HC2 : Hid (CsiIn w _ n cap ps V2 L1 w2) := Lib.hid (HC.out.step HX.out r2 (by rw [HZ2.out, HN.out]; exact rowB_num r1))
            clear r1 r2 HA
            go_wp2_with fail
            go_roundg (min n 16 - (0 + 1))
            case measure => omega
            case rel => exact ⟨0 + 1, _, rfl, by go_num, by omega, Nat.le_refl _, by rw [HL1.out]; exact HC2⟩
          · have HN : Hid (CsiIn w _ n cap ps _ L1 wr) := Lib.hid (by
              have e : es.numT z = [] := by unfold es.numT; rw [if_neg hzn]
              rw [HZ2.out, e, List.append_nil]
              exact HC.out)
            have hzl : z < 0 := by omega
            go_wp2_with fail
            go_roundg (min n 16 - (0 + 1))
            case measure => omega
            case rel => exact ⟨0 + 1, _, rfl, by go_num, by omega, Nat.le_refl _, by rw [HL1.out]; exact HN⟩
        · have HZ2 : Hid (L1 = L ++ [59] ++ es.numT z) := Lib.hid (by rw [HPC.out, HZ.out, if_neg hk0]; simp)
          clear HPC HZ
          have hkp : (0 : Int) < (k : Int) := by omega
          have HRA := Lib.hid (HC.out.row.below (below_one wr (.cells #[.int .u8 59] 5)))
          have HTB := Lib.hid (HT.out.on HB.out)
          have hl3 : (L ++ [59]).length = L.length + 1 := by simp
          by_cases hzn : 0 ≤ z
          · have HN : Hid (es.numT z = Lib.itoa (mn z 9999)) := Lib.hid (by unfold es.numT mn; rw [if_pos hzn]; congr 1; omega)
            have hmb : -9223372036854775808 ≤ mn z 9999 ∧ mn z 9999 ≤ 9223372036854775807 := by unfold mn; omega
            go_wp2_with (at_builtin; refine wpList_append_nums (K := .u8) rfl _ _ 34 rfl w.heap.size 5 i0 (Value.int .u8 0) 1 Tryd.underlying34 hi hz0 hz1 hz2 (by decide) rfl _ L.length (u8s L) rfl HRA.out (some ⟨wr.heap.size, 0, none⟩) 1 1 [59] rfl (nums_one _ _ _) (by omega) (by simp; omega) (fun v' w' r1 r2 r3 => ?_); have HR1 : Hid (RowB w' w.heap.size v' (L ++ [59])) := Lib.hid (rowB_append (m := [59]) (by simpa [u8s] using r1)); have HK1 := Lib.hid (((Below.refl w.heap.size wr).alloc hs1 (.cells #[.int .u8 59] 5)).trans ((Below.refl w.heap.size _).grown r2 (by simp; omega) (fun g hg => (HRA.out.lt g hg).1))); clear r1 r2 r3; clear HRA)
            have HA := Lib.hid (Tryd.strconv_AppendInt_10 w.heap.size (L ++ [59] : List UInt8).length (mn z 9999) hmb.1 hmb.2 v' (cs .u8 (u8s (L ++ [59]))) w' HR1.out (by have := HK1.out.size; omega) (by rw [hl3]; omega) (HTB.out.on HK1.out))
            clear hmb
            refine HA.out.mono ?_
            rintro e w2 ⟨V2, rfl, r1, r2, _⟩
            have HC2 : Hid (CsiIn w _ n cap ps V2 L1 w2) := Lib.hid (HC.out.step HX.out (HK1.out.trans r2) (by rw [HZ2.out, HN.out]; exact rowB_num r1))
            clear r1 r2 HA
            go_wp2_with fail
            go_roundg (min n 16 - (k + 1))
            case measure => omega
            case rel => exact ⟨k + 1, _, rfl, by go_num, by omega, Nat.le_refl _, by rw [HL1.out]; exact HC2⟩
          · have e : es.numT z = [] := by unfold es.numT; rw [if_neg hzn]
            rw [e, List.append_nil] at HZ2
            have hzl : z < 0 := by omega
            clear hzn e
            go_wp2_with (at_builtin; refine wpList_append_nums (K := .u8) rfl _ _ 34 rfl w.heap.size 5 i0 (Value.int .u8 0) 1 Tryd.underlying34 hi hz0 hz1 hz2 (by decide) rfl _ L.length (u8s L) rfl HRA.out (some ⟨wr.heap.size, 0, none⟩) 1 1 [59] rfl (nums_one _ _ _) (by omega) (by simp; omega) (fun v' w' r1 r2 r3 => ?_); have HR1 : Hid (RowB w' w.heap.size v' (L ++ [59])) := Lib.hid (rowB_append (m := [59]) (by simpa [u8s] using r1)); have HK1 := Lib.hid (((Below.refl w.heap.size wr).alloc hs1 (.cells #[.int .u8 59] 5)).trans ((Below.refl w.heap.size _).grown r2 (by simp; omega) (fun g hg => (HRA.out.lt g hg).1))); clear r1 r2 r3; clear HRA)
            have HN : Hid (CsiIn w _ n cap ps v' L1 w') := Lib.hid (HC.out.step HX.out HK1.out (by rw [HZ2.out]; exact HR1.out))
            go_roundg (min n 16 - (k + 1))
            case measure => omega
            case rel => exact ⟨k + 1, _, rfl, by go_num, by omega, Nat.le_refl _, by rw [HL1.out]; exact HN⟩
      · obtain rfl : k = min n 16 := by omega
        have hl := es.upto_len 0 ps (min n 16)
        have hs1 : w.heap.size ≤ wr.heap.size := HC.out.bel.size
        have HCB : Hid (es.csiB 0 ps final = es.upto 0 ps (min n 16) ++ [final]) := Lib.hid (by unfold es.csiB es.upto; rw [hlen])
        have hl2 : (es.upto 0 ps (min n 16)).length ≤ 1000 := by omega
        generalize es.upto 0 ps (min n 16) = L at *
        have HRA := Lib.hid (HC.out.row.below (below_one wr (.cells #[.int .u8 final.toNat] 5)))
        clear hl
        go_wp2_with (at_builtin; refine wpList_append_nums (K := .u8) rfl _ _ 34 rfl w.heap.size 5 i0 (Value.int .u8 0) 1 Tryd.underlying34 hi hz0 hz1 hz2 (by decide) rfl _ L.length (u8s L) rfl HRA.out (some ⟨wr.heap.size, 0, none⟩) 1 1 [(final.toNat : Int)] rfl (nums_one _ _ _) (by omega) (by simp; omega) (fun v' w' r1 r2 r3 => ?_); have HR1 : Hid (RowB w' w.heap.size v' (L ++ [final])) := Lib.hid (rowB_append (m := [final]) (by simpa [u8s] using r1)); have HK1 := Lib.hid (HC.out.bel.trans (((Below.refl w.heap.size wr).alloc hs1 (.cells #[.int .u8 final.toNat] 5)).trans ((Below.refl w.heap.size _).grown r2 (by simp; omega) (fun g hg => (HRA.out.lt g hg).1)))); clear r1 r2 r3; clear HRA)
        go_ret
        rw [HCB.out]
        obtain ⟨ro, rc, rfl, hO⟩ := Own.of (K := .u8) HR1.out
        exact ⟨ro, rc, rfl, hO, HK1.out⟩
  · have b1 : ((priv : Int) == 0) = false := by simpa using hp0
    have b2 : ((priv : Int) != 0) = true := by simpa using hp0
    have HR0 : Hid (RowB ((w.alloc (.cells #[.int .u8 27, .int .u8 91] 5)).alloc (.cells #[.int .u8 (priv : Nat)] 5)) w.heap.size (.slice (some ⟨w.heap.size, 0, none⟩) 2 2) [27, 91]) := Lib.hid (H0.out.row.below (below_one _ _))
    go_enter Tryd.func18, Tryd.ntmps18
    go_wp2_with (at_builtin; refine wpList_append_nums (K := .u8) rfl _ _ 34 rfl w.heap.size 5 i0 (Value.int .u8 0) 1 Tryd.underlying34 hi hz0 hz1 hz2 (by decide) rfl (.slice (some ⟨w.heap.size, 0, none⟩) 2 2) 2 (u8s [27, 91]) rfl HR0.out (some ⟨w.heap.size + 1, 0, none⟩) 1 1 [(priv : Int)] rfl ?c0 (by omega) (by simp; omega) (fun v' w' r1 r2 r3 => ?_))
    case c0 => have := nums_one (K := .u8) (w.alloc (.cells #[.int .u8 27, .int .u8 91] 5)) (priv : Int) 5; simpa using this
    have HP : Hid (es.upto priv ps 0 = [27, 91] ++ [UInt8.ofNat priv]) := Lib.hid (by simp [es.upto, es.privB, es.nums, hp0])
    have hpb : (UInt8.ofNat priv).toNat = priv := by rw [UInt8.toNat_ofNat']; omega
    have H1 : Hid (CsiIn w o n cap ps v' (es.upto priv ps 0) w') := by
      refine Lib.hid (H0.out.step HX.out (((Below.refl _ _).alloc (by simp) _).trans ((Below.refl _ _).grown r2 (by simp; omega) (fun g hg => by simp [Value.ownBlock] at hg; omega))) ?_)
      rw [HP.out]
      refine rowB_append ?_
      have e1 : u8s [UInt8.ofNat priv] = [(priv : Int)] := by simp [u8s, hpb]
      rw [e1]
      simpa using r1
    clear H0 HR0 r1 r2 r3 HP hpb
    go_wp2_with fail
    go_loopg [7, 23] (min n 16) (fun gg s7 s23 wr => ∃ (k : Nat) (V : Value), V = s7 ∧ s23 = .int .i64 k ∧ k ≤ min n 16 ∧ min n 16 - k ≤ gg ∧ Hid (CsiIn w o n cap ps V (es.upto priv ps k) wr))
    case atStart => exact ⟨0, _, rfl, rfl, Nat.zero_le _, by omega, H1⟩
    case round =>
      clear H1
      obtain ⟨k, _, rfl, rfl, hk, hgg, HC⟩ := hrel
      by_cases hlt : k < min n 16
      · have hkn : k < n := min16_lt hlt
        obtain ⟨b, off, rfl, hb, hc⟩ := HC.out.bts.cell hkn
        have hz := HI.out (ps.getD k 0) (by simp [List.getD, show k < ps.length by omega])
        have hl := es.upto_len priv ps k
        have hki : (k : Int) < ((min n 16 : Nat) : Int) := by omega
        have hbel := HC.out.bel
        have HPC := Lib.hid (es.upto_succ priv ps k)
        have HZ : Hid (es.piece ps k = (if k = 0 then [] else [59]) ++ es.numT (ps.getD k 0)) := Lib.hid rfl
        generalize ps.getD k 0 = z at *
        have hs1 : w.heap.size ≤ wr.heap.size := hbel.size
        have HB := Lib.hid hbel
        have hl2 : (es.upto priv ps k).length ≤ 1000 := by omega
        generalize hL1 : es.upto priv ps (k + 1) = L1 at *
        have HL1 := Lib.hid hL1
        clear hL1
        generalize es.upto priv ps k = L at *
        generalize es.piece ps k = PC at *
        clear hbel hl
        by_cases hk0 : k = 0
        · subst hk0
          rw [Nat.add_zero] at hc
          have HZ2 : Hid (L1 = L ++ es.numT z) := Lib.hid (by rw [HPC.out, HZ.out]; simp)
          clear HPC HZ
          by_cases hzn : 0 ≤ z
          · have HN : Hid (es.numT z = Lib.itoa (mn z 9999)) := Lib.hid (by unfold es.numT mn; rw [if_pos hzn]; congr 1; omega)
            have hmb : -9223372036854775808 ≤ mn z 9999 ∧ mn z 9999 ≤ 9223372036854775807 := by unfold mn; omega
            have HA := Lib.hid (Tryd.strconv_AppendInt_10 w.heap.size L.length (mn z 9999) hmb.1 hmb.2 _ _ wr HC.out.row hs1 (by omega) (HT.out.on HB.out))
            clear hmb
            go_wp2_with fail
            refine HA.out.mono ?_
            rintro e w2 ⟨V2, rfl, r1, r2, _⟩
            have HC2 : Hid (CsiIn w _ n cap ps V2 L1 w2) := Lib.hid (HC.out.step HX.out r2 (by rw [HZ2.out, HN.out]; exact rowB_num r1))
            clear r1 r2 HA
            go_wp2_with fail
            go_roundg (min n 16 - (0 + 1))
            case measure => omega
            case rel => exact ⟨0 + 1, _, rfl, by go_num, by omega, Nat.le_refl _, by rw [HL1.out]; exact HC2⟩
          · have HN : Hid (CsiIn w _ n cap ps _ L1 wr) := Lib.hid (by
              have e : es.numT z = [] := by unfold es.numT; rw [if_neg hzn]
              rw [HZ2.out, e, List.append_nil]
              exact HC.out)
            have hzl : z < 0 := by omega
            go_wp2_with fail
            go_roundg (min n 16 - (0 + 1))
            case measure => omega
            case rel => exact ⟨0 + 1, _, rfl, by go_num, by omega, Nat.le_refl _, by rw [HL1.out]; exact HN⟩
        · have HZ2 : Hid (L1 = L ++ [59] ++ es.numT z) := Lib.hid (by rw [HPC.out, HZ.out, if_neg hk0]; simp)
          clear HPC HZ
          have hkp : (0 : Int) < (k : Int) := by omega
          have HRA := Lib.hid (HC.out.row.below (below_one wr (.cells #[.int .u8 59] 5)))
          have HTB := Lib.hid (HT.out.on HB.out)
          have hl3 : (L ++ [59]).length = L.length + 1 := by simp
          by_cases hzn : 0 ≤ z
          · have HN : Hid (es.numT z = Lib.itoa (mn z 9999)) := Lib.hid (by unfold es.numT mn; rw [if_pos hzn]; congr 1; omega)
            have hmb : -9223372036854775808 ≤ mn z 9999 ∧ mn z 9999 ≤ 9223372036854775807 := by unfold mn; omega
            go_wp2_with (at_builtin; refine wpList_append_nums (K := .u8) rfl _ _ 34 rfl w.heap.size 5 i0 (Value.int .u8 0) 1 Tryd.underlying34 hi hz0 hz1 hz2 (by decide) rfl _ L.length (u8s L) rfl HRA.out (some ⟨wr.heap.size, 0, none⟩) 1 1 [59] rfl (nums_one _ _ _) (by omega) (by simp; omega) (fun v' w' r1 r2 r3 => ?_); have HR1 : Hid (RowB w' w.heap.size v' (L ++ [59])) := Lib.hid (rowB_append (m := [59]) (by simpa [u8s] using r1)); have HK1 := Lib.hid (((Below.refl w.heap.size wr).alloc hs1 (.cells #[.int .u8 59] 5)).trans ((Below.refl w.heap.size _).grown r2 (by simp; omega) (fun g hg => (HRA.out.lt g hg).1))); clear r1 r2 r3; clear HRA)
            have HA := Lib.hid (Tryd.strconv_AppendInt_10 w.heap.size (L ++ [59] : List UInt8).length (mn z 9999) hmb.1 hmb.2 v' (cs .u8 (u8s (L ++ [59]))) w' HR1.out (by have := HK1.out.size; omega) (by rw [hl3]; omega) (HTB.out.on HK1.out))
            clear hmb
            refine HA.out.mono ?_
            rintro e w2 ⟨V2, rfl, r1, r2, _⟩
            have HC2 : Hid (CsiIn w _ n cap ps V2 L1 w2) := Lib.hid (HC.out.step HX.out (HK1.out.trans r2) (by rw [HZ2.out, HN.out]; exact rowB_num r1))
            clear r1 r2 HA
            go_wp2_with fail
            go_roundg (min n 16 - (k + 1))
            case measure => omega
            case rel => exact ⟨k + 1, _, rfl, by go_num, by omega, Nat.le_refl _, by rw [HL1.out]; exact HC2⟩
          · have e : es.numT z = [] := by unfold es.numT; rw [if_neg hzn]
            rw [e, List.append_nil] at HZ2
            have hzl : z < 0 := by omega
            clear hzn e
            go_wp2_with (at_builtin; refine wpList_append_nums (K := .u8) rfl _ _ 34 rfl w.heap.size 5 i0 (Value.int .u8 0) 1 Tryd.underlying34 hi hz0 hz1 hz2 (by decide) rfl _ L.length (u8s L) rfl HRA.out (some ⟨wr.heap.size, 0, none⟩) 1 1 [59] rfl (nums_one _ _ _) (by omega) (by simp; omega) (fun v' w' r1 r2 r3 => ?_); have HR1 : Hid (RowB w' w.heap.size v' (L ++ [59])) := Lib.hid (rowB_append (m := [59]) (by simpa [u8s] using r1)); have HK1 := Lib.hid (((Below.refl w.heap.size wr).alloc hs1 (.cells #[.int .u8 59] 5)).trans ((Below.refl w.heap.size _).grown r2 (by simp; omega) (fun g hg => (HRA.out.lt g hg).1))); clear r1 r2 r3; clear HRA)
            have HN : Hid (CsiIn w _ n cap ps v' L1 w') := Lib.hid (HC.out.step HX.out HK1.out (by rw [HZ2.out]; exact HR1.out))
            go_roundg (min n 16 - (k + 1))
            case measure => omega
            case rel => exact ⟨k + 1, _, rfl, by go_num, by omega, Nat.le_refl _, by rw [HL1.out]; exact HN⟩
      · obtain rfl : k = min n 16 := by omega
        have hl := es.upto_len priv ps (min n 16)
        have hs1 : w.heap.size ≤ wr.heap.size := HC.out.bel.size
        have HCB : Hid (es.csiB priv ps final = es.upto priv ps (min n 16) ++ [final]) := Lib.hid (by unfold es.csiB es.upto; rw [hlen])
        have hl2 : (es.upto priv ps (min n 16)).length ≤ 1000 := by omega
        generalize es.upto priv ps (min n 16) = L at *
        have HRA := Lib.hid (HC.out.row.below (below_one wr (.cells #[.int .u8 final.toNat] 5)))
        clear hl
        go_wp2_with (at_builtin; refine wpList_append_nums (K := .u8) rfl _ _ 34 rfl w.heap.size 5 i0 (Value.int .u8 0) 1 Tryd.underlying34 hi hz0 hz1 hz2 (by decide) rfl _ L.length (u8s L) rfl HRA.out (some ⟨wr.heap.size, 0, none⟩) 1 1 [(final.toNat : Int)] rfl (nums_one _ _ _) (by omega) (by simp; omega) (fun v' w' r1 r2 r3 => ?_); have HR1 : Hid (RowB w' w.heap.size v' (L ++ [final])) := Lib.hid (rowB_append (m := [final]) (by simpa [u8s] using r1)); have HK1 := Lib.hid (HC.out.bel.trans (((Below.refl w.heap.size wr).alloc hs1 (.cells #[.int .u8 final.toNat] 5)).trans ((Below.refl w.heap.size _).grown r2 (by simp; omega) (fun g hg => (HRA.out.lt g hg).1)))); clear r1 r2 r3; clear HRA)
        go_ret
        rw [HCB.out]
        obtain ⟨ro, rc, rfl, hO⟩ := Own.of (K := .u8) HR1.out
        exact ⟨ro, rc, rfl, hO, HK1.out⟩
end Go.Proofs.YtgkodjkhhmcnnaaDoor
