/- prints. -/
import Derived.Test.YtijfpfkmfibjjaaDoorEscSay
namespace Go.Proofs.YtijfpfkmfibjjaaDoor
open Go.RowKit

/-- what is no row of acts is left -/
abbrev NoActs (w w' : World) : Prop := ∀ (k : Nat) (ob : Obj), w.heap[k]? = some ob → (∀ c, ob ≠ Obj.cells c 45 (0, 0)) → w'.heap[k]? = some ob
theorem Own.acts {w w' : World} {B : Nat} {o : Option Addr} {n cap : Nat} {zs : List Int} (h : Own w B 21 .i32 o n cap zs) (hk : NoActs w w') : Own w' B 21 .i32 o n cap zs := by
  obtain ⟨h1, h2⟩ := h.row
  refine ⟨h1, h2.imp id ?_⟩
  rintro ⟨g, c, cur, e1, e2, e3, e4⟩
  exact ⟨g, c, cur, e1, e2, hk g _ e3 (fun c' e => by simp at e), e4⟩
set_option maxRecDepth 100000 in
set_option maxHeartbeats 1600000 in
theorem prints_any (B : Nat) (V : Value) (l : List es.Act) (ro : Option Addr) (n rc : Nat) (zs : List Int) (w : World) (ha : ActsAt w B V l) (ho : Own w B 21 .i32 ro n rc zs) (hl : l.length + n ≤ 1099511627776) (hBw : B ≤ w.heap.size) :
    Calls Tryd.prog 52 #[V, .slice ro n rc] w fun e w' => ∃ V', e = .returned V' ∧ ActsAt w' B V' (l ++ zs.map es.print) ∧ Below B w w' := by
  have hlen := ho.len
  have HA := Lib.hid ha
  have HO := Lib.hid ho
  clear ha ho
  go_enter Tryd.func52, Tryd.ntmps52
  go_wp2_with fail
  go_loopg [0, 9] n (fun gg s0 s9 wr => ∃ (k : Nat) (U : Value), s0 = U ∧ s9 = .int .i64 k ∧ k ≤ n ∧ n - k ≤ gg ∧ Hid (ActsAt wr B U (l ++ (zs.take k).map es.print)) ∧ Hid (Own wr B 21 .i32 ro n rc zs) ∧ Hid (Below B w wr))
  case atStart => exact ⟨0, V, rfl, rfl, Nat.zero_le _, by omega, Lib.hid (by simpa using HA.out), HO, Lib.hid (Below.refl _ _)⟩
  case round =>
    obtain ⟨k, U, rfl, rfl, hkn, hgg, HU, HR, HB⟩ := hrel
    clear HA HO
    by_cases hlt : k < n
    · have hki : (k : Int) < (n : Int) := by omega
      have hk0 : (0 : Int) ≤ (k : Int) := by omega
      obtain ⟨b, off, rfl, hbl, hc⟩ := HR.out.nums.cell hlt
      obtain ⟨r, hr⟩ : ∃ r, zs.getD k 0 = r := ⟨_, rfl⟩
      rw [hr] at hc
      have hBr : B ≤ wr.heap.size := Nat.le_trans hBw HB.out.size
      have hb1 : Below wr.heap.size wr (wr.alloc (Obj.cells #[.int .i64 1, .int .i32 r, .int .u8 0, .int .u8 0, .string ⟨#[]⟩, .slice none 0 0, .string ⟨#[]⟩] 45)) := (Below.refl _ _).alloc (Nat.le_refl _) _
      have hA1 := HU.out.below hb1
      have hP1 := act1_none (wr.alloc (Obj.cells #[.int .i64 1, .int .i32 r, .int .u8 0, .int .u8 0, .string ⟨#[]⟩, .slice none 0 0, .string ⟨#[]⟩] 45)) B (es.print r) rfl
      have hG1 := heap_alloc_new wr (Obj.cells #[.int .i64 1, .int .i32 r, .int .u8 0, .int .u8 0, .string ⟨#[]⟩, .slice none 0 0, .string ⟨#[]⟩] 45)
      have hO1 := HR.out.below hb1
      have HT := Lib.hid (And.intro hA1 (And.intro hP1 hG1))
      have HO1 := Lib.hid hO1
      have HB1 := Lib.hid (HB.out.alloc hBr (Obj.cells #[.int .i64 1, .int .i32 r, .int .u8 0, .int .u8 0, .string ⟨#[]⟩, .slice none 0 0, .string ⟨#[]⟩] 45))
      have HE : Hid (l ++ (zs.take k).map es.print ++ [es.print r] = l ++ (zs.take (k + 1)).map es.print) := Lib.hid (by
        have hk : k < zs.length := by omega
        rw [List.take_add_one, List.getElem?_eq_getElem hk]
        have : zs[k] = r := by rw [← hr]; simp [List.getD, hk]
        simp [this])
      have hll : (l ++ (zs.take k).map es.print).length ≤ 1099511627776 := by simp; omega
      clear hb1 hA1 hP1 hG1 hO1 hr HU HR
      go_wp2_with (at_builtin; refine wpList_append_act' rfl (.tmp 13) (.tmp 16) rfl B _ _ rfl HT.out.1 wr.heap.size (es.print r) none 0 rfl HT.out.2.2 HT.out.2.1 hll (by simp; omega) (fun v' w' r1 r2 r3 => ?_); have HX := Lib.hid (And.intro r1 (And.intro (HB1.out.trans r2) (HO1.out.acts r3))); clear r1 r2 r3)
      go_roundg (n - (k + 1))
      case measure => omega
      case rel => exact ⟨k + 1, _, rfl, by go_num, by omega, Nat.le_refl _, Lib.hid (HE.out ▸ HX.out.1), Lib.hid HX.out.2.2, Lib.hid HX.out.2.1⟩
    · obtain rfl : k = n := by omega
      go_wp2_with fail
      go_ret
      refine ⟨_, rfl, ?_, HB.out⟩
      have := HU.out
      rwa [← hlen, List.take_length] at this
end Go.Proofs.YtijfpfkmfibjjaaDoor
