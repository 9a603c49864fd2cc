/- repeats: two properties of one name; ContainsFunc over it, over tooDeep, over unwritable; wrong. -/
import Derived.Test.YthmiaamjbokljaaGreatDoorKdPlaced
import Derived.Laws.EntriesVeiled
namespace Go.Proofs.YthmiaamjbokljaaGreatDoor
open Go.RowKit
theorem again_take (L : List kd.Prp) (k : Nat) (h : k < L.length) (seen : List (List UInt8)) : kd.again (L.drop k) seen = (seen.any (fun n => decide (n = L[k].name)) || kd.again (L.drop (k + 1)) (seen ++ [L[k].name])) := by
  rw [List.drop_eq_getElem_cons h]
  rfl
theorem names_take (L : List kd.Prp) (k : Nat) (h : k < L.length) : (L.take (k + 1)).map (·.name) = (L.take k).map (·.name) ++ [L[k].name] := by
  rw [List.take_add_one, List.getElem?_eq_getElem h, List.map_append]
  rfl
set_option maxRecDepth 100000 in
set_option maxHeartbeats 1600000 in
theorem reps_index (o : Option Addr) (n cap : Nat) (L : List kd.Prp) (t3 b m : Nat) (w0 w : World) (hs : PrpsIn w0 o n cap L) (hb0 : Below w0.heap.size w0 w) (hm0 : w0.heap.size ≤ m) (h3 : w.heap[t3]? = some (.cells #[againV b] 35 (0, 0))) (h : AgAt w b m []) (hL : L.length ≤ 4611686018427387904) :
    Calls Tryz.prog 74 #[.slice o n cap, .func (.func 46) #[] #[.pointer (some ⟨t3, 0, none⟩)]] w fun e w' => (∃ r : Int, e = .returned (.int .i64 r) ∧ decide (0 ≤ r) = kd.again L []) ∧ Below w0.heap.size w0 w' := by
  have hm : cap ≤ 9223372036854775807 := hs.max
  have hle := hs.le
  have HS := Lib.hid hs
  have HAG : Hid (kd.again L [] = kd.again (L.drop 0) ((L.take 0).map (·.name))) := Lib.hid rfl
  generalize kd.again L [] = R at *
  have H0 := Lib.hid (And.intro hb0 (And.intro h3 h))
  clear hs hb0 h3 h
  go_enter Tryz.func74, Tryz.ntmps74
  go_wp2_with fail
  go_loopg [8] n (fun gg s8 wr => ∃ k : Nat, s8 = .int .i64 k ∧ k ≤ n ∧ n - k ≤ gg ∧ Hid (R = kd.again (L.drop k) ((L.take k).map (·.name)) ∧ Below w0.heap.size w0 wr ∧ wr.heap[t3]? = some (.cells #[againV b] 35 (0, 0)) ∧ AgAt wr b m ((L.take k).map (·.name))))
  case atStart => exact ⟨0, rfl, Nat.zero_le _, by omega, Lib.hid ⟨HAG.out, H0.out.1, H0.out.2.1, H0.out.2.2⟩⟩
  case round =>
    obtain ⟨k, rfl, hk, hgg, HA⟩ := hrel
    by_cases hlt : k < n
    · have hkl : k < L.length := by rw [HS.out.len]; exact hlt
      obtain ⟨bb, off, rfl, hb, c0, c1, c2, c3, c4⟩ : ∃ b off, o = some ⟨b, off, none⟩ ∧ b < wr.heap.size ∧ wr.cell? ⟨b, off + k * 5, none⟩ = some (str L[k].name) ∧ wr.cell? ⟨b, off + k * 5 + 1, none⟩ = some (.int .i64 L[k].val.kind) ∧ wr.cell? ⟨b, off + k * 5 + 2, none⟩ = some (str L[k].val.text) ∧ wr.cell? ⟨b, off + k * 5 + 3, none⟩ = some (.int .i64 L[k].val.int) ∧ wr.cell? ⟨b, off + k * 5 + 4, none⟩ = some (.bool L[k].val.flag) := by
        rcases (HS.out.below HA.out.2.1).at_ with h0 | ⟨b, off, e, hb, hc⟩
        · omega
        · exact ⟨b, off, e, hb, hc k _ (List.getElem?_eq_getElem hkl)⟩
      have hst := again_take L k hkl ((L.take k).map (·.name))
      have hnt := names_take L k hkl
      rw [← HA.out.1, ← hnt] at hst
      have hagm := HA.out.2.2.2.mapObj
      have HC := Lib.hid (rep_any L[k] t3 b m _ wr HA.out.2.2.1 HA.out.2.2.2 (HS.out.bd _ (List.getElem_mem hkl)).1 (by rw [List.length_map, List.length_take]; omega))
      rw [← hnt] at HC
      have HST := Lib.hid hst
      have HFT : Hid (∀ w2, Fr (· = m) wr w2 → w2.heap[t3]? = some (.cells #[againV b] 35 (0, 0)) ∧ Below w0.heap.size w0 w2) := Lib.hid (fun w2 hf => ⟨(hf.block t3 (heap_lt HA.out.2.2.1) (fun e => by
        obtain ⟨es, ck, hm'⟩ := hagm
        have := HA.out.2.2.1
        rw [e, hm'] at this
        cases this)).trans HA.out.2.2.1, HA.out.2.1.trans (hf.to_below w0.heap.size HA.out.2.1.size (fun q hq e => by have : q = m := e; omega))⟩)
      generalize L[k] = v at *
      generalize ((L.take k).map (·.name)).any (fun n => decide (n = v.name)) = F at *
      have hki : (k : Int) < (n : Int) := by omega
      clear hst hkl hnt hagm HA
      go_wp2_with fail
      refine HC.out.mono ?_
      rintro ev w2 ⟨rfl, ha2, hf2⟩
      have HB2 := Lib.hid (And.intro (HFT.out w2 hf2) ha2)
      clear ha2 hf2
      cases F
      · go_wp2_with fail
        go_roundg (n - (k + 1))
        case measure => omega
        case rel => exact ⟨k + 1, by go_num, by omega, Nat.le_refl _, Lib.hid ⟨by have := HST.out; rwa [Bool.false_or] at this, HB2.out.1.2, HB2.out.1.1, HB2.out.2⟩⟩
      · go_wp2_with fail
        go_ret
        exact ⟨⟨_, rfl, by rw [HST.out]; exact decide_eq_true (by omega)⟩, HB2.out.1.2⟩
    · obtain rfl : k = n := by omega
      have HF : Hid (R = false) := Lib.hid (by have := HA.out.1; rwa [List.drop_eq_nil_of_le (by rw [HS.out.len]; exact Nat.le_refl _)] at this)
      go_wp2_with fail
      go_ret
      exact ⟨⟨_, rfl, by rw [HF.out]; rfl⟩, HA.out.2.1⟩
set_option maxRecDepth 100000 in
theorem prp_contains_of (o : Option Addr) (n cap : Nat) (fv : Value) (R : Bool) (w : World) (Q : World → Prop) (h : Calls Tryz.prog 74 #[.slice o n cap, fv] w fun e w' => (∃ r : Int, e = .returned (.int .i64 r) ∧ decide (0 ≤ r) = R) ∧ Q w') :
    Calls Tryz.prog 44 #[.slice o n cap, fv] w fun e w' => e = .returned (.bool R) ∧ Q w' := by
  have HI := Lib.hid h
  clear h
  go_enter Tryz.func44, Tryz.ntmps44
  go_wp2_with fail
  refine HI.out.mono ?_
  rintro e w2 ⟨⟨r, rfl, hr⟩, hq⟩
  have HR := Lib.hid hr
  have HQ := Lib.hid hq
  clear hr hq
  go_wp2_with fail
  go_ret
  exact ⟨ret_bool HR.out, HQ.out⟩
set_option maxRecDepth 100000 in
set_option maxHeartbeats 1600000 in
theorem repeats_any (n : kd.Node) (d : Nat) (c0 c1 c2 c3 : Value) (w : World) (h : Node4 w n c0 c1 c2 c3) (hL : n.props.length ≤ 4611686018427387904) : Calls Tryz.prog 24 #[plV c0 c1 c2 c3 d] w fun ev w' => ev = .returned (.bool (kd.again n.props [])) ∧ Below w.heap.size w w' := by
  obtain ⟨ok, ck, rfl⟩ := h.ks
  obtain ⟨oa, ca, rfl, ha⟩ := h.av
  obtain ⟨op, cp, rfl, hp⟩ := h.ps
  obtain rfl := h.nm
  have hb0 := below_one w (plO (str n.name) (.slice oa n.args.length ca) (.slice op n.props.length cp) (.slice ok n.kids.length ck) d)
  have HB := Lib.hid hb0
  have HN := Lib.hid (heap_alloc_new w (plO (str n.name) (.slice oa n.args.length ca) (.slice op n.props.length cp) (.slice ok n.kids.length ck) d))
  have HTW := Lib.hid (twice_any (w.alloc (plO (str n.name) (.slice oa n.args.length ca) (.slice op n.props.length cp) (.slice ok n.kids.length ck) d)))
  rw [World.size_alloc] at HTW
  have HPI := Lib.hid hp
  have HIX := Lib.hid (fun t3 X hb hb3 hag => reps_index op n.props.length cp n.props t3 (w.heap.size + 1 + 1) (w.heap.size + 1) w X HPI.out hb (Nat.le_succ _) hb3 hag hL)
  generalize kd.again n.props [] = R at *
  clear h hb0 ha hp
  go_enter Tryz.func24, Tryz.ntmps24
  go_wp2_with fail
  refine HTW.out.mono ?_
  rintro ev w1 ⟨rfl, hag, hb1⟩
  have HB1 := Lib.hid (HB.out.trans (hb1.mono (Nat.le_succ _)))
  have HQ1 := Lib.hid ((hb1.block w.heap.size (Nat.lt_succ_self _)).trans HN.out)
  have hb2 := below_one w1 (.cells #[againV (w.heap.size + 1 + 1)] 35)
  have HAG2 := Lib.hid (hag.below hb2)
  have HT2 := Lib.hid (heap_alloc_new w1 (.cells #[againV (w.heap.size + 1 + 1)] 35))
  have HB2 := Lib.hid (HB1.out.trans (hb2.mono HB1.out.size))
  have hQ2 := (hb2.block w.heap.size (heap_lt HQ1.out)).trans HQ1.out
  clear hb1 hb2 hag HTW
  go_upto_region 2 with fail
  generalize w1.alloc (.cells #[againV (w.heap.size + 1 + 1)] 35) = w2 at *
  generalize w1.heap.size = t3 at *
  have q2 : w2.cell? ⟨w.heap.size, 2, none⟩ = some (.slice op n.props.length cp) := (cell_of_heap hQ2).trans rfl
  have HC := Lib.hid (HIX.out t3 w2 HB2.out HT2.out HAG2.out)
  clear hQ2
  go_wp2_with fail
  refine (prp_contains_of _ _ _ _ R _ (fun w' => Below w.heap.size w w') HC.out).mono ?_
  rintro ev w3 ⟨rfl, hb3⟩
  have HB3 := Lib.hid hb3
  clear hb3
  go_wp2_with fail
  go_ret
  exact ⟨rfl, HB3.out⟩
end Go.Proofs.YthmiaamjbokljaaGreatDoor
