/- The document's Begins. -/
import Derived.Test.YtgkodjkhhmcnnaaDoorGlBeginsM
import Derived.Test.YtgkodjkhhmcnnaaDoorGlRunesM
import Derived.Test.YtgkodjkhhmcnnaaDoorGlWhole
import Derived.Test.YtgkodjkhhmcnnaaDoorGlLit
import Derived.Test.YtgkodjkhhmcnnaaDoorGlFeed
import Derived.Test.YtgkodjkhhmcnnaaDoorGlSlh
namespace Go.Proofs.YtgkodjkhhmcnnaaDoor
open Go.RowKit
attribute [local go_sem ↓ 10000] run_slo_b

/-- the document's fills in memory -/
def FillsAt (W : World) (G : Nat) : Prop := G + 8 < W.heap.size ∧ ∀ i f, gl.fills[i]? = some f → W.cell? ⟨G + 8, i, none⟩ = some (.slice (some ⟨G + i, 0, none⟩) f.length f.length) ∧ Bts W (some ⟨G + i, 0, none⟩) f.length f.length f
theorem FillsAt.below {W W' : World} {G : Nat} (h : FillsAt W G) (hb : Below W.heap.size W W') : FillsAt W' G :=
  ⟨Nat.lt_of_lt_of_le h.1 hb.size, fun i f hf => ⟨(hb.cell (p := ⟨G + 8, i, none⟩) h.1).trans (h.2 i f hf).1, (h.2 i f hf).2.below hb⟩⟩
/-- the world in which the fills have been laid -/
abbrev fillW (w : World) : World := ((((((((w.alloc (.cells #[.int .u8 128] 5)).alloc (.cells #[.int .u8 144] 5)).alloc (.cells #[.int .u8 160] 5)).alloc (.cells #[.int .u8 128, .int .u8 128] 5)).alloc (.cells #[.int .u8 144, .int .u8 128] 5)).alloc (.cells #[.int .u8 160, .int .u8 128] 5)).alloc (.cells #[.int .u8 128, .int .u8 128, .int .u8 128] 5)).alloc (.cells #[.int .u8 144, .int .u8 128, .int .u8 128] 5)).alloc (.cells #[.slice (some ⟨w.heap.size, 0, none⟩) 1 1, .slice (some ⟨w.heap.size + 1, 0, none⟩) 1 1, .slice (some ⟨w.heap.size + 2, 0, none⟩) 1 1, .slice (some ⟨w.heap.size + 3, 0, none⟩) 2 2, .slice (some ⟨w.heap.size + 4, 0, none⟩) 2 2, .slice (some ⟨w.heap.size + 5, 0, none⟩) 2 2, .slice (some ⟨w.heap.size + 6, 0, none⟩) 3 3, .slice (some ⟨w.heap.size + 7, 0, none⟩) 3 3] 34)
theorem bts_lit {W : World} {g : Nat} (f : List UInt8) (T : TypeId) (h : W.heap[g]? = some (.cells ((u8s f).map (Value.int .u8)).toArray T)) (hl : f.length ≤ 1000) : Bts W (some ⟨g, 0, none⟩) f.length f.length f := by
  refine ⟨u8s_len f, Nat.le_refl _, by unfold maxLen; omega, .inr ⟨g, 0, rfl, (Array.getElem?_eq_some_iff.1 h).1, fun k hk => ?_⟩⟩
  have hk' : k < (u8s f).length := by rw [u8s_len]; exact hk
  rw [cell_of_heap h]
  simp [hk']
theorem fills_at (w : World) : FillsAt (fillW w) w.heap.size := by
  have hh : ∀ i, (fillW w).heap[w.heap.size + i]? = (#[.cells #[.int .u8 128] 5, .cells #[.int .u8 144] 5, .cells #[.int .u8 160] 5, .cells #[.int .u8 128, .int .u8 128] 5, .cells #[.int .u8 144, .int .u8 128] 5, .cells #[.int .u8 160, .int .u8 128] 5, .cells #[.int .u8 128, .int .u8 128, .int .u8 128] 5, .cells #[.int .u8 144, .int .u8 128, .int .u8 128] 5, .cells #[.slice (some ⟨w.heap.size, 0, none⟩) 1 1, .slice (some ⟨w.heap.size + 1, 0, none⟩) 1 1, .slice (some ⟨w.heap.size + 2, 0, none⟩) 1 1, .slice (some ⟨w.heap.size + 3, 0, none⟩) 2 2, .slice (some ⟨w.heap.size + 4, 0, none⟩) 2 2, .slice (some ⟨w.heap.size + 5, 0, none⟩) 2 2, .slice (some ⟨w.heap.size + 6, 0, none⟩) 3 3, .slice (some ⟨w.heap.size + 7, 0, none⟩) 3 3] 34] : Array Obj)[i]? := by
    intro i
    have : (fillW w).heap = w.heap ++ #[.cells #[.int .u8 128] 5, .cells #[.int .u8 144] 5, .cells #[.int .u8 160] 5, .cells #[.int .u8 128, .int .u8 128] 5, .cells #[.int .u8 144, .int .u8 128] 5, .cells #[.int .u8 160, .int .u8 128] 5, .cells #[.int .u8 128, .int .u8 128, .int .u8 128] 5, .cells #[.int .u8 144, .int .u8 128, .int .u8 128] 5, .cells #[.slice (some ⟨w.heap.size, 0, none⟩) 1 1, .slice (some ⟨w.heap.size + 1, 0, none⟩) 1 1, .slice (some ⟨w.heap.size + 2, 0, none⟩) 1 1, .slice (some ⟨w.heap.size + 3, 0, none⟩) 2 2, .slice (some ⟨w.heap.size + 4, 0, none⟩) 2 2, .slice (some ⟨w.heap.size + 5, 0, none⟩) 2 2, .slice (some ⟨w.heap.size + 6, 0, none⟩) 3 3, .slice (some ⟨w.heap.size + 7, 0, none⟩) 3 3] 34] := rfl
    rw [this, Array.getElem?_append_right (by omega)]
    congr 1
    omega
  refine ⟨by simp, fun i f hf => ?_⟩
  have h8 := hh 8
  have hi : i < 8 := (List.getElem?_eq_some_iff.1 hf).1
  have hc : (fillW w).cell? ⟨w.heap.size + 8, i, none⟩ = _ := cell_of_heap h8
  rw [hc]
  match i, hi, hf with
  | 0, _, hf => obtain rfl := Option.some.inj hf; exact ⟨rfl, bts_lit [128] _ (hh 0) (by simp)⟩
  | 1, _, hf => obtain rfl := Option.some.inj hf; exact ⟨rfl, bts_lit [144] _ (hh 1) (by simp)⟩
  | 2, _, hf => obtain rfl := Option.some.inj hf; exact ⟨rfl, bts_lit [160] _ (hh 2) (by simp)⟩
  | 3, _, hf => obtain rfl := Option.some.inj hf; exact ⟨rfl, bts_lit [128, 128] _ (hh 3) (by simp)⟩
  | 4, _, hf => obtain rfl := Option.some.inj hf; exact ⟨rfl, bts_lit [144, 128] _ (hh 4) (by simp)⟩
  | 5, _, hf => obtain rfl := Option.some.inj hf; exact ⟨rfl, bts_lit [160, 128] _ (hh 5) (by simp)⟩
  | 6, _, hf => obtain rfl := Option.some.inj hf; exact ⟨rfl, bts_lit [128, 128, 128] _ (hh 6) (by simp)⟩
  | 7, _, hf => obtain rfl := Option.some.inj hf; exact ⟨rfl, bts_lit [144, 128, 128] _ (hh 7) (by simp)⟩
theorem below_fillW (w : World) : Below w.heap.size w (fillW w) := by
  have h (W : World) (o : Obj) (hb : Below w.heap.size w W) : Below w.heap.size w (W.alloc o) := hb.alloc hb.size o
  exact h _ _ (h _ _ (h _ _ (h _ _ (h _ _ (h _ _ (h _ _ (h _ _ (h _ _ (Below.refl _ _)))))))))
theorem begins_false {l : List UInt8} (h : l = [] ∨ gl.full l = true) : gl.begins l = false := by
  unfold gl.begins
  rcases h with rfl | h
  · rfl
  · rw [h]; simp
theorem begins_true {l : List UInt8} (h0 : l ≠ []) (h : gl.full l = false) : gl.begins l = true := by
  unfold gl.begins
  rw [h]
  simp [h0]
set_option maxRecDepth 100000 in
set_option maxHeartbeats 3200000 in
theorem begins_any (o : Option Addr) (n cap : Nat) (l : List UInt8) (w : World) (hx : Bts w o n cap l) :
    Calls Tryd.prog 68 #[.slice o n cap] w fun e w' => e = .returned (.bool (gl.begins l)) ∧ Below w.heap.size w w' := by
  obtain ⟨i0, hi, hz0, hz1, hz2⟩ := info_parts infoB
  have hmx : cap ≤ 9223372036854775807 := hx.max
  have hle := hx.le
  have hsz := hx.size
  by_cases h0 : n = 0
  · subst h0
    have HB := Lib.hid (begins_false (l := l) (.inl (List.length_eq_zero_iff.1 hsz)))
    clear hx hsz
    go_enter Tryd.func68, Tryd.ntmps68
    go_wp2_with fail
    go_ret
    exact ⟨ret_bool HB.out.symm, Below.refl _ _⟩
  have hz : ((n : Int) == 0) = false := by simp; omega
  by_cases h3 : 3 < n
  · have HB := Lib.hid (begins_false (l := l) (.inr (by
      cases hf : gl.full l with
      | true => rfl
      | false => have := gl.not_full hf; omega)))
    have h3i : (3 : Int) < (n : Int) := by omega
    clear hx hsz h0
    go_enter Tryd.func68, Tryd.ntmps68
    go_wp2_with fail
    go_ret
    exact ⟨ret_bool HB.out.symm, Below.refl _ _⟩
  have h3i : (n : Int) ≤ 3 := by omega
  have HW := Lib.hid (whole_any o n cap l w hx)
  unfold WholeAns at HW
  by_cases hw0 : (gl.whole l).1 = 0
  · have hne : l ≠ [] := fun h => by rw [h] at hsz; simp at hsz; omega
    have HX := Lib.hid hx; have HL := Lib.hid hsz
    have HW0 := Lib.hid hw0
    rw [hw0] at HW
    clear hx hw0 hsz h0
    go_enter Tryd.func68, Tryd.ntmps68
    go_wp2_with fail
    refine HW.out.mono ?_
    rintro e w1 ⟨rfl, nq, hw1⟩
    have hb1 : Below w.heap.size w w1 := hw1 ▸ below_drewN (Below.refl _ _) nq
    have HFL := Lib.hid (fills_at w1)
    have HBF := Lib.hid (hb1.trans ((below_fillW w1).mono hb1.size))
    clear hw1 HW hb1
    unfold fillW at HFL HBF
    go_wp2_with fail
    generalize ((((((((w1.alloc (.cells #[.int .u8 128] 5)).alloc (.cells #[.int .u8 144] 5)).alloc (.cells #[.int .u8 160] 5)).alloc (.cells #[.int .u8 128, .int .u8 128] 5)).alloc (.cells #[.int .u8 144, .int .u8 128] 5)).alloc (.cells #[.int .u8 160, .int .u8 128] 5)).alloc (.cells #[.int .u8 128, .int .u8 128, .int .u8 128] 5)).alloc (.cells #[.int .u8 144, .int .u8 128, .int .u8 128] 5)).alloc (.cells #[.slice (some ⟨w1.heap.size, 0, none⟩) 1 1, .slice (some ⟨w1.heap.size + 1, 0, none⟩) 1 1, .slice (some ⟨w1.heap.size + 2, 0, none⟩) 1 1, .slice (some ⟨w1.heap.size + 3, 0, none⟩) 2 2, .slice (some ⟨w1.heap.size + 4, 0, none⟩) 2 2, .slice (some ⟨w1.heap.size + 5, 0, none⟩) 2 2, .slice (some ⟨w1.heap.size + 6, 0, none⟩) 3 3, .slice (some ⟨w1.heap.size + 7, 0, none⟩) 3 3] 34) = w0 at *
    generalize w1.heap.size = G at *
    have hs0 : w.heap.size ≤ w0.heap.size := HBF.out.size
    go_loopg [6] 8 (fun gg s6 wr => ∃ i : Nat, s6 = .int .i64 i ∧ i ≤ 8 ∧ 8 - i ≤ gg ∧ Hid (∀ j f, j < i → gl.fills[j]? = some f → (gl.whole (l ++ f)).1 ≠ (l ++ f).length) ∧ Hid (Below w0.heap.size w0 wr))
    case atStart => exact ⟨0, rfl, by omega, by omega, Lib.hid (fun j f hj => by omega), Lib.hid (Below.refl _ _)⟩
    case round =>
      obtain ⟨i, rfl, hi8, hgg, HNO, HB0⟩ := hrel
      by_cases hlt : i < 8
      · obtain ⟨f, hf⟩ : ∃ f, gl.fills[i]? = some f := ⟨_, List.getElem?_eq_getElem hlt⟩
        have hfm : f ∈ gl.fills := List.mem_of_getElem? hf
        have hfne := gl.fills_ne f hfm
        have hfl : f.length ≤ 3 := (show ∀ f ∈ gl.fills, f.length ≤ 3 by decide) f hfm
        have hNX : (gl.whole (l ++ f)).1 ≠ (l ++ f).length → ∀ j g, j < i + 1 → gl.fills[j]? = some g → (gl.whole (l ++ g)).1 ≠ (l ++ g).length := fun h j g hj hg => by
          by_cases e : j = i
          · subst e; rw [hf] at hg; cases hg; exact h
          · exact HNO.out j g (by omega) hg
        have HNX := Lib.hid hNX
        have hYS : (gl.whole (l ++ f)).1 = (l ++ f).length → gl.begins l = true := fun h => begins_true hne (by
          cases hfu : gl.full l with
          | false => rfl
          | true => exact absurd h (gl.no_fill hfu HW0.out hfne))
        have HYS := Lib.hid hYS
        have HF := Lib.hid hf
        have hin : (i : Int) < 8 := by omega
        clear hf hfm hfne hNX hYS
        go_wp2_with fail
        generalize hwo : wr = wo at *
        clear hwo
        have HO0 := Lib.hid (own_made0 (w := wo) (B := wo.heap.size) 0 #[] (Nat.le_refl _) (by unfold maxLen; omega) rfl 5 .u8)
        have hb0' := below_one wo (.cells #[] 5)
        have HBW := Lib.hid hb0'
        clear hb0'
        go_loopg [7, 8] n (fun gg s7 s8 wr => ∃ (k : Nat) (ro : Option Addr) (rc : Nat), s8 = .int .i64 k ∧ s7 = .slice ro k rc ∧ k ≤ n ∧ n - k ≤ gg ∧ Hid (Own wr wo.heap.size 5 .u8 ro k rc (u8s (l.take k))) ∧ Hid (Below wo.heap.size wo wr))
        case atStart => exact ⟨0, _, _, rfl, rfl, Nat.zero_le _, by omega, HO0, HBW⟩
        case round =>
          clear HO0 HBW
          obtain ⟨k, ro, rc, rfl, rfl, hk, hgg2, HO, HB⟩ := hrel
          have hsw : wo.heap.size ≤ wr.heap.size := HB.out.size
          by_cases hlt2 : k < n
          · have hbx := HX.out.below (HBF.out.trans ((HB0.out.trans (HB.out.mono HB0.out.size)).mono hs0))
            obtain ⟨b, off, rfl, hb, hbk⟩ := Bts.byte hbx (by omega)
            have k0 := hbk k hlt2
            have hts : u8s (l.take (k + 1)) = u8s (l.take k) ++ [(gl.b l k : Int)] := by
              have hkl : k < l.length := by rw [HL.out]; exact hlt2
              rw [List.take_succ_eq_append_getElem hkl, u8s_append]
              simp [u8s, gl.b, List.getD, hkl]
            have HTS := Lib.hid hts
            generalize gl.b l k = y at *
            clear hbx hbk hts
            go_wp2_with (at_builtin; refine wpList_append_nums (K := .u8) rfl _ _ 34 rfl wo.heap.size 5 i0 (Value.int .u8 0) 1 Tryd.underlying34 hi hz0 hz1 hz2 (by decide) rfl (.slice ro k rc) k (u8s (l.take k)) rfl ?a1 (some ⟨wr.heap.size, 0, none⟩) 1 1 [(y : Int)] rfl ?a0 ?a2 ?a3 ?_)
            case a1 => exact HO.out.row.alloc _
            case a0 => exact nums_one wr y _
            case a2 => omega
            case a3 => simp; omega
            intro v' w3 hr3 hg3 _
            obtain ⟨ro', rc', rfl, hO3⟩ := Own.of (K := .u8) (xs := u8s (l.take k) ++ [(y : Int)]) (by simpa [cs] using hr3)
            have HO3 : Hid (Own w3 wo.heap.size 5 .u8 ro' (k + 1) rc' (u8s (l.take (k + 1)))) := Lib.hid (by rw [HTS.out]; exact hO3)
            have HB3 := Lib.hid ((HB.out.alloc hsw _).trans (grown_below hg3 (HO.out.row.alloc _) (by simp; omega)))
            clear hr3 hg3 hO3
            go_wp2_with fail
            go_roundg (n - (k + 1))
            case measure => omega
            case rel => exact ⟨k + 1, ro', rc', by go_num, rfl, by omega, Nat.le_refl _, HO3, HB3⟩
          · obtain rfl : k = n := by omega
            have hO := HO.out
            rw [List.take_of_length_le (by rw [HL.out]; exact Nat.le_refl _)] at hO
            have HOL := Lib.hid hO
            clear hO HO
            go_wp2_with fail
            have HBL := HB
            generalize hw2 : wr = wv at *
            clear hw2 HB
            go_loopg [7, 9] f.length (fun gg s7 s9 wr => ∃ (q : Nat) (ro : Option Addr) (rc : Nat), s9 = .int .i64 q ∧ s7 = .slice ro (k + q) rc ∧ q ≤ f.length ∧ f.length - q ≤ gg ∧ Hid (Own wr wo.heap.size 5 .u8 ro (k + q) rc (u8s (l ++ f.take q))) ∧ Hid (Below wo.heap.size wo wr))
            case atStart => exact ⟨0, _, _, rfl, rfl, Nat.zero_le _, by omega, Lib.hid (by simpa using HOL.out), HBL⟩
            case round =>
              clear HOL HBL
              obtain ⟨q, ro, rc, rfl, rfl, hq, hgg3, HO, HB⟩ := hrel
              have hsw2 : wo.heap.size ≤ wr.heap.size := HB.out.size
              obtain ⟨kf, hbf⟩ := (HFL.out.below (HB0.out.trans (HB.out.mono HB0.out.size))).2 i f HF.out
              by_cases hlt3 : q < f.length
              · obtain ⟨b, off, he, hb, hbk⟩ := hbf.byte (by omega)
                have he' := Option.some.inj he
                have e1 : G + i = b := congrArg Addr.block he'
                have e2 : 0 = off := congrArg Addr.off he'
                subst e1 e2
                have k0 := hbk q hlt3
                rw [Nat.zero_add] at k0
                have hts : u8s (l ++ f.take (q + 1)) = u8s (l ++ f.take q) ++ [(gl.b f q : Int)] := by
                  rw [List.take_succ_eq_append_getElem hlt3, ← List.append_assoc, u8s_append]
                  simp [u8s, gl.b, List.getD, hlt3]
                have HTS := Lib.hid hts
                generalize gl.b f q = y at *
                clear hbf hbk hts he he'
                go_wp2_with (at_builtin; refine wpList_append_nums (K := .u8) rfl _ _ 34 rfl wo.heap.size 5 i0 (Value.int .u8 0) 1 Tryd.underlying34 hi hz0 hz1 hz2 (by decide) rfl (.slice ro (k + q) rc) (k + q) (u8s (l ++ f.take q)) rfl ?b1 (some ⟨wr.heap.size, 0, none⟩) 1 1 [(y : Int)] rfl ?b0 ?b2 ?b3 ?_)
                case b1 => exact HO.out.row.alloc _
                case b0 => exact nums_one wr y _
                case b2 => omega
                case b3 => simp; omega
                intro v' w3 hr3 hg3 _
                obtain ⟨ro', rc', rfl, hO3⟩ := Own.of (K := .u8) (xs := u8s (l ++ f.take q) ++ [(y : Int)]) (by simpa [cs] using hr3)
                have HO3 : Hid (Own w3 wo.heap.size 5 .u8 ro' (k + (q + 1)) rc' (u8s (l ++ f.take (q + 1)))) := Lib.hid (by rw [HTS.out]; exact hO3)
                have HB3 := Lib.hid ((HB.out.alloc hsw2 _).trans (grown_below hg3 (HO.out.row.alloc _) (by simp; omega)))
                clear hr3 hg3 hO3
                go_wp2_with fail
                go_roundg (f.length - (q + 1))
                case measure => omega
                case rel => exact ⟨q + 1, ro', rc', by go_num, rfl, by omega, Nat.le_refl _, HO3, HB3⟩
              · obtain rfl : q = f.length := by omega
                have hO := HO.out
                rw [List.take_of_length_le (Nat.le_refl _)] at hO
                have hbt : Bts wr ro (k + f.length) rc (l ++ f) := hO.nums
                have HW2 := Lib.hid (whole_any _ _ _ _ wr hbt)
                unfold WholeAns at HW2
                have hws := gl.whole_size (l ++ f)
                have hll : (l ++ f).length = k + f.length := by rw [List.length_append, HL.out]
                rw [hll] at HNX HYS hws
                generalize (gl.whole (l ++ f)).1 = N at *
                generalize (gl.whole (l ++ f)).2 = R at *
                have HBW2 := Lib.hid (HB0.out.trans (HB.out.mono HB0.out.size))
                clear hO HO hbt hbf hll HB
                go_wp2_with fail
                refine HW2.out.mono ?_
                rintro e w2 ⟨rfl, nq2, hw2⟩
                have HB2 := Lib.hid (show Below w0.heap.size w0 w2 from hw2 ▸ below_drewN HBW2.out nq2)
                clear hw2 HW2 HBW2 kf
                by_cases hNe : N = k + f.length
                · have HYES := Lib.hid (HYS.out hNe)
                  subst hNe
                  go_wp2_with fail
                  go_ret
                  exact ⟨ret_bool HYES.out.symm, HBF.out.trans (HB2.out.mono hs0)⟩
                · have hNi : ((N : Int) == ((k + f.length : Nat) : Int)) = false := by simp; omega
                  have hNi2 : ((N : Int) == (k : Int) + (f.length : Int)) = false := by simp; omega
                  have HN1 := Lib.hid (HNX.out hNe)
                  clear hNe
                  go_wp2_with fail
                  go_roundg (8 - (i + 1))
                  case measure => omega
                  case rel => exact ⟨i + 1, by go_num, by omega, Nat.le_refl _, HN1, HB2⟩
      · obtain rfl : i = 8 := by omega
        have HNB := Lib.hid (begins_false (l := l) (.inr (by
          cases hfu : gl.full l with
          | true => rfl
          | false =>
            exfalso
            match l, hne, hfu, HNO with
            | x :: t, _, hfu, HNO =>
              obtain ⟨f, hf, hq⟩ := gl.some_fill hfu
              obtain ⟨j, hj⟩ := List.getElem?_of_mem hf
              exact HNO.out j f (by have := (List.getElem?_eq_some_iff.1 hj).1; exact this) hj hq)))
        go_wp2_with fail
        go_ret
        exact ⟨ret_bool HNB.out.symm, HBF.out.trans (HB0.out.mono hs0)⟩
  · have HB := Lib.hid (begins_false (l := l) (.inr (gl.full_of_whole hw0)))
    obtain ⟨N, hN⟩ : ∃ N, (gl.whole l).1 = N := ⟨_, rfl⟩
    rw [hN] at HW hw0
    have hNi : (0 : Int) < (N : Int) := by omega
    clear hx hw0 hN hsz h0
    go_enter Tryd.func68, Tryd.ntmps68
    go_wp2_with fail
    refine HW.out.mono ?_
    rintro e w1 ⟨rfl, nq, hw1⟩
    have HB1 := Lib.hid (show Below w.heap.size w w1 from hw1 ▸ below_drewN (Below.refl _ _) nq)
    clear hw1 HW
    go_wp2_with fail
    go_ret
    exact ⟨ret_bool HB.out.symm, HB1.out⟩
end Go.Proofs.YtgkodjkhhmcnnaaDoor
