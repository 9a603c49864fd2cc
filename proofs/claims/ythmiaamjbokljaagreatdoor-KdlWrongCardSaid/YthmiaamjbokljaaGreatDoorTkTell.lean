/- tell, remark. -/
import Derived.Test.YthmiaamjbokljaaGreatDoorTkRead
namespace Go.Proofs.YthmiaamjbokljaaGreatDoor
open Go.RowKit
/-- the variables that the library's functions read -/
structure TT (w : World) : Prop where
  syn : ∃ ev, w.cell? ⟨2, 0, none⟩ = some ev ∧ (ev = .nilIface ∨ ∃ te pe, ev = .iface te pe)
  max : ∃ m, w.cell? ⟨0, 0, none⟩ = some (.int .i64 m)
  rng : ∃ ev, w.cell? ⟨3, 0, none⟩ = some ev ∧ (ev = .nilIface ∨ ∃ te pe, ev = .iface te pe)
theorem block_lt {W : World} {a : Addr} {v : Value} (h : W.cell? a = some v) : a.block < W.heap.size := World.block_lt_of_cell? W a h
theorem TT.lt {w : World} (h : TT w) : 3 + 1 ≤ w.heap.size := by
  obtain ⟨m, hm⟩ := h.max
  obtain ⟨ev, he, _⟩ := h.rng
  have h1 : 3 < w.heap.size := block_lt he
  omega
theorem TT.below {w w' : World} {B : Nat} (h : TT w) (hb : Below B w w') (hB : 3 + 1 ≤ B) : TT w' := by
  obtain ⟨m, hm⟩ := h.max
  obtain ⟨ev, he, hev⟩ := h.rng
  obtain ⟨sv, hs, hsv⟩ := h.syn
  exact ⟨⟨sv, (hb.cell (p := ⟨2, 0, none⟩) (show 2 < B by omega)).trans hs, hsv⟩, ⟨m, (hb.cell (p := ⟨0, 0, none⟩) (show 0 < B by omega)).trans hm⟩, ⟨ev, (hb.cell (p := ⟨3, 0, none⟩) (show 3 < B by omega)).trans he, hev⟩⟩
set_option maxRecDepth 100000 in
theorem clone_any (l : List UInt8) (w : World) (hl : l.length ≤ 1048576) : Calls Tryz.prog 82 #[str l] w fun e w' => e = .returned (str l) ∧ Below w.heap.size w w' := by
  have H := Lib.hid (Tryz.stringslite_Clone ⟨l.toArray⟩ w (by rw [str_size]; omega))
  go_enter Tryz.func82, Tryz.ntmps82
  go_wp2_with fail
  refine H.out.mono ?_
  rintro e w1 ⟨rfl, hb⟩
  have HB := Lib.hid hb
  clear hb
  go_wp2_with fail
  go_ret
  exact ⟨rfl, HB.out⟩
set_option maxRecDepth 100000 in
set_option maxHeartbeats 1600000 in
theorem tell_any (p : Nat) (s : List UInt8) (r : tk.St) (V : Value) (kind : Nat) (text : List UInt8) (w : World) (h : RdAt w p s r V) (hat : r.at_ + text.length ≤ 1048576) (hlen : r.toks.length ≤ 1048576) :
    Calls Tryz.prog 59 #[.pointer (some ⟨p, 0, none⟩), .int .i64 kind, str text] w fun e w' => e = .returned (.tuple #[]) ∧ (∃ V', RdAt w' p s (tk.tell r kind text) V') ∧ Below p w w' := by
  have HC := Lib.hid (clone_any text w (by omega))
  have hsz := str_size text
  have hp := h.lt
  have HH := Lib.hid h
  clear h
  go_enter Tryz.func59, Tryz.ntmps59
  go_wp2_with fail
  refine HC.out.mono ?_
  rintro e w1 ⟨rfl, hb⟩
  have HA := Lib.hid (add_any p s r V { kind := kind, text := text } 0 text.length w1 (HH.out.below hb) (by omega) hlen)
  have HB := Lib.hid (hb.mono (Nat.le_of_lt hp))
  clear hb
  go_wp2_with fail
  refine HA.out.mono ?_
  rintro e w2 ⟨rfl, hR, hb2⟩
  have HR := Lib.hid (And.intro hR (HB.out.trans hb2))
  clear hR hb2
  go_wp2_with fail
  go_end0
  exact ⟨rfl, HR.out.1, HR.out.2⟩
theorem tk.index_len : ∀ (l : List UInt8) (sub : List UInt8), Lib.index l sub ≤ l.length
  | [], sub => by unfold Lib.index; split <;> simp
  | b :: l, sub => by
    have := tk.index_len l sub
    unfold Lib.index
    split
    · simp; omega
    split
    · simp; omega
    · simp; omega
theorem tk.index_ge : ∀ (l : List UInt8) (sub : List UInt8), -1 ≤ Lib.index l sub
  | [], sub => by unfold Lib.index; split <;> simp
  | b :: l, sub => by
    have := tk.index_ge l sub
    unfold Lib.index
    split
    · simp
    split
    · simp
    · omega
set_option maxRecDepth 100000 in
set_option maxHeartbeats 1600000 in
theorem remark_any (p : Nat) (s : List UInt8) (r : tk.St) (V : Value) (rest : List UInt8) (w : World) (h : RdAt w p s r V) (ht : TT w) (h2 : 2 ≤ rest.length) (hl : rest.length ≤ 1048576) (hat : r.at_ ≤ 1048576) :
    Calls Tryz.prog 57 #[.pointer (some ⟨p, 0, none⟩), str rest] w fun e w' => e = .returned (.tuple #[]) ∧ (∃ V', RdAt w' p s (tk.remark r rest) V') ∧ Below p w w' := by
  obtain ⟨m, hm⟩ := ht.max
  have hslo := fun wx => run_str_lo rest .i64 2 h2 wx
  rw [show ((2 : Nat) : Int) = 2 from rfl] at hslo
  have HI := Lib.hid (Tryz.strings_Index ⟨(rest.drop 2).toArray⟩ ⟨#[42, 47]⟩ m w (by rw [str_size, List.length_drop]; omega) hm)
  rw [show Lib.index (ByteArray.mk (rest.drop 2).toArray).data.toList (ByteArray.mk #[42, 47]).data.toList = Lib.index (rest.drop 2) [42, 47] from rfl] at HI
  have hi1 := tk.index_len (rest.drop 2) [42, 47]
  have hi2 := tk.index_ge (rest.drop 2) [42, 47]
  rw [List.length_drop] at hi1
  have HD : Hid (tk.remark r rest = if Lib.index (rest.drop 2) [42, 47] < 0 then tk.fail r 71 r.at_ else { r with at_ := r.at_ + (2 + (Lib.index (rest.drop 2) [42, 47]).toNat + 2) }) := Lib.hid rfl
  generalize tk.remark r rest = R at *
  generalize Lib.index (rest.drop 2) [42, 47] = x at *
  obtain ⟨c0, c1, c2, c3, c4, f1, f2, f3, f4, u⟩ := h.cells
  have HF := Lib.hid (fail_any p s r V 71 r.at_ w h)
  have HH := Lib.hid h
  clear h hm ht
  go_enter Tryz.func57, Tryz.ntmps57
  go_wp2_with fail
  refine HI.out.mono ?_
  rintro e w1 ⟨rfl, rfl⟩
  by_cases hx : x < 0
  · go_wp2_with fail
    refine HF.out.mono ?_
    rintro e w2 ⟨rfl, hR, hb⟩
    have HR := Lib.hid (And.intro hR hb)
    have HE : Hid (R = tk.fail r 71 r.at_) := Lib.hid (by rw [HD.out, if_pos hx])
    clear hR hb
    go_wp2_with fail
    refine bodyPost_ret (results_none rfl _ _ _) rfl ?_
    exact ⟨rfl, ⟨V, by rw [HE.out]; exact HR.out.1⟩, HR.out.2⟩
  · have HE : Hid (R = { r with at_ := r.at_ + (2 + x.toNat + 2) }) := Lib.hid (by rw [HD.out, if_neg hx])
    have HR := Lib.hid (And.intro (HH.out.at_ (r.at_ + (2 + x.toNat + 2)) ((r.at_ : Int) + (2 + x + 2)) (by omega)) ((Below.refl p w1).setCell (show p ≤ (⟨p, 1, none⟩ : Addr).block from Nat.le_refl _) (.int .i64 ((r.at_ : Int) + (2 + x + 2)))))
    go_wp2_with fail
    go_end0
    exact ⟨rfl, ⟨V, by rw [HE.out]; exact HR.out.1⟩, HR.out.2⟩
end Go.Proofs.YthmiaamjbokljaaGreatDoor
