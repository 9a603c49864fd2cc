/- A slice's tokens, wherever they lie; cut from the front (as in TkLike and TkJoinP, without the document's Like). -/
import Derived.Test.YthmiaamjbokljaaGreatDoorTkPlain
namespace Go.Proofs.YthmiaamjbokljaaGreatDoor
open Go.RowKit
/-- a slice's tokens, wherever they lie -/
structure TkIn (w : World) (o : Option Addr) (n cap : Nat) (l : List tk.Tok) : Prop where
  len : l.length = n
  le : n ≤ cap
  max : cap ≤ 9223372036854775807
  at_ : n = 0 ∨ ∃ b off, o = some ⟨b, off, none⟩ ∧ b < w.heap.size ∧ ∀ k t, l[k]? = some t → w.cell? ⟨b, off + k * 4, none⟩ = some (.int .i64 t.kind) ∧ w.cell? ⟨b, off + k * 4 + 1, none⟩ = some (str t.text) ∧ w.cell? ⟨b, off + k * 4 + 2, none⟩ = some (.int .i64 t.int) ∧ w.cell? ⟨b, off + k * 4 + 3, none⟩ = some (.int .i64 t.at_)
theorem TkIn.below {w w' : World} {o : Option Addr} {n cap : Nat} {l : List tk.Tok} (h : TkIn w o n cap l) (hb : Below w.heap.size w w') : TkIn w' o n cap l :=
  ⟨h.len, h.le, h.max, h.at_.imp id fun ⟨b, off, e, hlt, hc⟩ => ⟨b, off, e, Nat.lt_of_lt_of_le hlt hb.size, fun k t hk => by
    obtain ⟨c0, c1, c2, c3⟩ := hc k t hk
    exact ⟨(hb.cell (p := ⟨b, off + k * 4, none⟩) hlt).trans c0, (hb.cell (p := ⟨b, off + k * 4 + 1, none⟩) hlt).trans c1, (hb.cell (p := ⟨b, off + k * 4 + 2, none⟩) hlt).trans c2, (hb.cell (p := ⟨b, off + k * 4 + 3, none⟩) hlt).trans c3⟩⟩⟩
/-- a row of tokens, as any slice of them -/
theorem TkIn.row {w : World} {B : Nat} {ao : Option Addr} {n cap : Nat} {l : List tk.Tok} (h : w.ownsRow B 82 4 (.slice ao n cap) l.length (tokC l)) : TkIn w ao n cap l := by
  rcases h.2 with ⟨e, h0⟩ | ⟨g, cap', cur, e, hB, hg, hc, hm, hs, ht⟩
  · obtain ⟨rfl, rfl, rfl⟩ := Value.slice.inj e
    exact ⟨h0, Nat.le_refl _, by decide, .inl rfl⟩
  · obtain ⟨rfl, rfl, rfl⟩ := Value.slice.inj e
    refine ⟨rfl, hc, hm, .inr ⟨g, 0, rfl, (Array.getElem?_eq_some_iff.1 hg).1, fun k t hk => ?_⟩⟩
    obtain ⟨g', c', e', _, _, _, _, k0, k1, k2, k3⟩ := tok_at h hk
    obtain ⟨e1, -, -⟩ := Value.slice.inj e'
    obtain rfl : g = g' := by simpa using e1
    simp only [Nat.zero_add]
    exact ⟨k0, k1, k2, k3⟩
def slo (o : Option Addr) (cap l : Nat) : Option Addr := if cap = l then o else o.map (·.add (l * 4))
theorem addr_add0 (a : Addr) : a.add 0 = a := by unfold Addr.add; split <;> simp_all
set_option maxRecDepth 100000 in
theorem run_slo (o : Option Addr) (n cap : Nat) (k : IntKind) (l : Nat) (hl : (l : Int) ≤ (n : Int)) (wx : World) : (Instr.slice 59 (.slice o n cap) (some (.int k (l : Int))) none none).run Tryz.prog wx = .ok (.slice (slo o cap l) (n - l) (cap - l)) wx := by
  rw [run_slice_l wx 59 o n cap Tryz.underlying59 k l (by omega) (by omega)]
  have hz : (sizeOf (Tryz.prog.elem 59)).run Tryz.prog wx = .ok 4 wx := by kernel_rfl
  rw [hz]
  simp [Result.andThen, sliced, slo]
theorem TkIn.lo {w : World} {o : Option Addr} {n cap : Nat} {zs : List tk.Tok} (H : TkIn w o n cap zs) (l : Nat) (hl : l ≤ n) : TkIn w (slo o cap l) (n - l) (cap - l) (zs.drop l) := by
  have hle := H.le
  have hm := H.max
  refine ⟨by rw [List.length_drop, H.len], by omega, by omega, ?_⟩
  rcases H.at_ with h0 | ⟨b, off, rfl, hb, hc⟩
  · exact .inl (by omega)
  · by_cases hcl : cap = l
    · exact .inl (by omega)
    · right
      refine ⟨b, off + l * 4, by rw [slo, if_neg hcl]; simp [Addr.add], hb, fun k t hk => ?_⟩
      have := hc (l + k) t (by rw [← hk, List.getElem?_drop])
      rwa [show off + (l + k) * 4 = off + l * 4 + k * 4 by omega] at this
theorem run_slo' (o : Option Addr) (n cap : Nat) (l : Nat) (x : Int) (hx : x = (l : Int)) (hl : (l : Int) ≤ (n : Int)) (k : IntKind) (wx : World) : (Instr.slice 59 (.slice o n cap) (some (.int k x)) none none).run Tryz.prog wx = .ok (.slice (slo o cap l) (n - l) (cap - l)) wx := by
  subst hx
  exact run_slo o n cap k l hl wx
theorem join_bytes (a b : List UInt8) : (ByteArray.mk a.toArray ++ ByteArray.mk #[10] ++ ByteArray.mk b.toArray) = ByteArray.mk (a ++ 10 :: b).toArray := by
  rw [show (#[10] : Array UInt8) = ([10] : List UInt8).toArray from rfl, ByteArray.mk_append_mk, ByteArray.mk_append_mk]
  simp
end Go.Proofs.YthmiaamjbokljaaGreatDoor
