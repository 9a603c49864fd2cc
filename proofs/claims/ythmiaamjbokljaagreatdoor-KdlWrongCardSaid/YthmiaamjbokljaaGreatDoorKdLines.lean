/- The writer: name, value, parts. -/
import Derived.Test.YthmiaamjbokljaaGreatDoorKdPut
import Derived.Lib.AppendIntMem
namespace Go.Proofs.YthmiaamjbokljaaGreatDoor
open Go.RowKit
theorem gPow : Tryz.prog.globalNamed "internal/strconv.uint64pow10" = some 1 := by kernel_rfl
structure KT (w : World) : Prop where
  tt : TT w
  pow : Lib.TabIs Tryz.prog w "internal/strconv.uint64pow10" .u64 Lib.pow10Tab
theorem KT.lt {w : World} (h : KT w) : 3 + 1 ≤ w.heap.size := h.tt.lt
theorem KT.below {w w' : World} {B : Nat} (h : KT w) (hb : Below B w w') (hB : 3 + 1 ≤ B) : KT w' := by
  refine ⟨h.tt.below hb hB, ?_⟩
  have hp := h.pow
  have e : w'.heap[1]? = w.heap[1]? := hb.block _ (by omega)
  unfold Lib.TabIs World.var? at hp ⊢
  rw [gPow] at hp ⊢
  simpa [e] using hp
theorem Tw.fr {p : Nat} {w w' : World} (h : Tw p w w') : Fr (fun k => p ≤ k) w w' := ⟨h.bel.os, h.bel.tape, h.bel.output, h.size, fun k _ hk => h.bel.block k (by omega)⟩
set_option maxRecDepth 100000 in
set_option maxHeartbeats 1600000 in
theorem name_any (p : Nat) (full s : List UInt8) (w : World) (hk : KT w) (h : WrAt w p full) (hs : s.length ≤ 1048576) :
    Calls Tryz.prog 27 #[.pointer (some ⟨p, 0, none⟩), str s] w fun ev w' => ev = .returned (.tuple #[]) ∧ WrAt w' p (full ++ kd.nameT s) ∧ Tw p w w' := by
  have HP := Lib.hid (plain_any s w hk.tt hs)
  have hp := h.lt
  have HW := Lib.hid h
  have HN : Hid (kd.nameT s = if tk.plain s then s else kd.quoteT s) := Lib.hid rfl
  generalize kd.nameT s = R at *
  clear h hk
  go_enter Tryz.func27, Tryz.ntmps27
  go_wp2_with fail
  refine HP.out.mono ?_
  rintro ev w1 ⟨rfl, hb⟩
  have HW1 := Lib.hid (HW.out.below hb)
  have HT1 := Lib.hid (Tw.of_below hb (Nat.le_of_lt hp))
  clear hb
  cases hpl : tk.plain s
  case true =>
    have HE : Hid (R = s) := Lib.hid (by rw [HN.out, if_pos hpl])
    have HQ := Lib.hid (put_any p full s w1 HW1.out (by omega))
    clear hpl
    go_wp2_with fail
    refine HQ.out.mono ?_
    rintro ev w2 ⟨rfl, hw2, ht2⟩
    have HR := Lib.hid (And.intro hw2 (HT1.out.trans ht2))
    clear hw2 ht2 HQ
    go_wp2_with fail
    refine bodyPost_ret (results_none rfl _ _ _) rfl ?_
    exact ⟨rfl, by rw [HE.out]; exact HR.out.1, HR.out.2⟩
  case false =>
    have HE : Hid (R = kd.quoteT s) := Lib.hid (by rw [HN.out, if_neg (by rw [hpl]; decide)])
    have HQ := Lib.hid (quote_any' p full s w1 HW1.out (by omega))
    clear hpl
    go_wp2_with fail
    refine HQ.out.mono ?_
    rintro ev w2 ⟨rfl, hw2, ht2⟩
    have HR := Lib.hid (And.intro hw2 (HT1.out.trans ht2))
    clear hw2 ht2 HQ
    go_wp2_with fail
    go_end0
    exact ⟨rfl, by rw [HE.out]; exact HR.out.1, HR.out.2⟩
/-- bounds of a value that is written -/
def kd.ValW (v : kd.Val) : Prop := v.text.length ≤ 9223372036854775807 ∧ -9223372036854775808 ≤ v.int ∧ v.int ≤ 9223372036854775807
theorem itoa_short (n : Int) (h0 : -9223372036854775808 ≤ n) (h1 : n ≤ 9223372036854775807) : (Lib.itoa n).length ≤ 9223372036854775807 := Nat.le_trans (Lib.itoa_length_le n h0 h1) (by decide)
theorem fmtBool (b : Bool) : (ByteArray.mk (Lib.formatBool b).toArray) = ByteArray.mk (if b then kd.tTrue else kd.tFalse).toArray := by cases b <;> rfl
set_option maxRecDepth 100000 in
set_option maxHeartbeats 1600000 in
theorem wvalue_any (p : Nat) (full : List UInt8) (v : kd.Val) (w : World) (hk : KT w) (h : WrAt w p full) (hv : kd.ValW v) :
    Calls Tryz.prog 49 #[.pointer (some ⟨p, 0, none⟩), valV v] w fun ev w' => ev = .returned (.tuple #[]) ∧ WrAt w' p (full ++ kd.valT v) ∧ Tw p w w' := by
  obtain ⟨k, x, i, fl⟩ := v
  have hp := h.lt
  have hb0 := below_one w (valO ⟨k, x, i, fl⟩)
  have HW := Lib.hid (h.below hb0)
  have HK := Lib.hid (hk.below hb0 hk.lt)
  have HT := Lib.hid (Tw.of_below hb0 (Nat.le_of_lt hp))
  have HN : Hid (kd.valT ⟨k, x, i, fl⟩ = if k = 1 then kd.quoteT x else if k = 2 then Lib.itoa i else if k = 3 then (if fl then kd.tTrue else kd.tFalse) else if k = 4 then kd.tNull else []) := Lib.hid rfl
  obtain ⟨hv1, hv2, hv3⟩ := hv
  dsimp only at hv1 hv2 hv3
  generalize kd.valT ⟨k, x, i, fl⟩ = R at *
  have HQ := Lib.hid (fun s hs => put_any p full s (w.alloc (valO ⟨k, x, i, fl⟩)) HW.out hs)
  have hps : p < (w.alloc (valO ⟨k, x, i, fl⟩)).heap.size := HW.out.lt
  clear h hk hb0
  by_cases h1 : k = 1
  · subst h1
    have HE : Hid (R = kd.quoteT x) := Lib.hid (by rw [HN.out, if_pos rfl])
    have HQ1 := Lib.hid (quote_any' p full x _ HW.out hv1)
    go_enter Tryz.func49, Tryz.ntmps49
    go_wp2_with fail
    refine HQ1.out.mono ?_
    rintro ev w2 ⟨rfl, hw2, ht2⟩
    have HR := Lib.hid (And.intro hw2 (HT.out.trans ht2))
    clear hw2 ht2
    go_wp2_with fail
    go_end0
    exact ⟨rfl, by rw [HE.out]; exact HR.out.1, HR.out.2⟩
  have b1 : (k == 1) = false := by simpa using h1
  by_cases h2 : k = 2
  · subst h2
    have HE : Hid (R = Lib.itoa i) := Lib.hid (by rw [HN.out]; rfl)
    have HF := Lib.hid (Tryz.strconv_FormatInt_10 i hv2 hv3 (w.alloc (valO ⟨2, x, i, fl⟩)) HK.out.pow)
    have HL := Lib.hid (itoa_short i hv2 hv3)
    clear b1
    go_enter Tryz.func49, Tryz.ntmps49
    go_wp2_with fail
    refine HF.out.mono ?_
    rintro ev w2 ⟨rfl, kk, os, hgr⟩
    have hb2 : Below (w.alloc (valO ⟨2, x, i, fl⟩)).heap.size (w.alloc (valO ⟨2, x, i, fl⟩)) w2 := by rw [hgr]; exact Lib.below_grow _ _ (Nat.le_refl _) _ _
    have HQ2 := Lib.hid (put_any p full (Lib.itoa i) w2 (HW.out.below hb2) HL.out)
    have HT2 := Lib.hid (HT.out.then hb2 (Nat.le_of_lt hps))
    clear hgr hb2
    go_wp2_with fail
    refine HQ2.out.mono ?_
    rintro ev w3 ⟨rfl, hw3, ht3⟩
    have HR := Lib.hid (And.intro hw3 (HT2.out.trans ht3))
    clear hw3 ht3
    go_wp2_with fail
    go_end0
    exact ⟨rfl, by rw [HE.out]; exact HR.out.1, HR.out.2⟩
  have b2 : (k == 2) = false := by simpa using h2
  by_cases h3 : k = 3
  · subst h3
    have HE : Hid (R = if fl then kd.tTrue else kd.tFalse) := Lib.hid (by rw [HN.out]; rfl)
    have HF := Lib.hid (Tryz.strconv_FormatBool fl (w.alloc (valO ⟨3, x, i, fl⟩)))
    rw [fmtBool] at HF
    have HQ3 := Lib.hid (HQ.out (if fl then kd.tTrue else kd.tFalse) (by cases fl <;> decide))
    generalize (if fl then kd.tTrue else kd.tFalse) = X at *
    clear b1 b2
    go_enter Tryz.func49, Tryz.ntmps49
    go_wp2_with fail
    refine HF.out.mono ?_
    rintro ev w2 ⟨rfl, hw⟩
    replace hw := hw.symm
    subst hw
    go_wp2_with fail
    refine HQ3.out.mono ?_
    rintro ev w3 ⟨rfl, hw3, ht3⟩
    have HR := Lib.hid (And.intro hw3 (HT.out.trans ht3))
    clear hw3 ht3
    go_wp2_with fail
    go_end0
    exact ⟨rfl, by rw [HE.out]; exact HR.out.1, HR.out.2⟩
  have b3 : (k == 3) = false := by simpa using h3
  by_cases h4 : k = 4
  · subst h4
    have HE : Hid (R = kd.tNull) := Lib.hid (by rw [HN.out]; rfl)
    have HQ3 := Lib.hid (HQ.out kd.tNull (by decide))
    clear b1 b2 b3
    go_enter Tryz.func49, Tryz.ntmps49
    go_wp2_with fail
    refine HQ3.out.mono ?_
    rintro ev w3 ⟨rfl, hw3, ht3⟩
    have HR := Lib.hid (And.intro hw3 (HT.out.trans ht3))
    clear hw3 ht3
    go_wp2_with fail
    go_end0
    exact ⟨rfl, by rw [HE.out]; exact HR.out.1, HR.out.2⟩
  have b4 : (k == 4) = false := by simpa using h4
  have HE : Hid (R = []) := Lib.hid (by rw [HN.out, if_neg h1, if_neg h2, if_neg h3, if_neg h4])
  clear h1 h2 h3 h4
  go_enter Tryz.func49, Tryz.ntmps49
  go_wp2_with fail
  go_end0
  exact ⟨rfl, by rw [HE.out, List.append_nil]; exact HW.out, HT.out⟩
end Go.Proofs.YthmiaamjbokljaaGreatDoor
