/- The bytes of runes: AppendRune, Bytes. -/
import Derived.Test.YtknkmfofjbpdbaaDoorGlRead
import Derived.Shelf.Strings.BuilderK
import Derived.Lib.RuneBytes
namespace Go.Proofs.YtknkmfofjbpdbaaDoor
open Go.RowKit

/-- the bytes of a rune as numbers are bytes -/
theorem u8s_enc (r : Int) : u8s (Lib.encodeRune r) = Lib.encodeRuneZ r := by
  unfold u8s Lib.encodeRune
  rw [List.map_map]
  have h : ∀ x ∈ Lib.encodeRuneZ r, ((fun x : UInt8 => (x.toNat : Int)) ∘ fun x : Int => x.toNat.toUInt8) x = x := by
    intro x hx
    have := Lib.encodeRuneZ_byte r x hx
    show ((x.toNat.toUInt8.toNat : Nat) : Int) = x
    rw [show x.toNat.toUInt8.toNat = x.toNat % 256 from rfl]
    omega
  rw [List.map_congr_left h]
  simp
/-- the bytes of runes -/
def encs (rs : List Int) : List UInt8 := rs.flatMap Lib.encodeRune
theorem encs_len : ∀ rs : List Int, rs.length ≤ (encs rs).length ∧ (encs rs).length ≤ 4 * rs.length
  | [] => by simp [encs]
  | r :: rs => by
    have h := encs_len rs
    have h1 := Lib.encodeRuneZ_length r
    have h2 : (Lib.encodeRune r).length = (Lib.encodeRuneZ r).length := by simp [Lib.encodeRune]
    unfold encs at h ⊢
    simp only [List.flatMap_cons, List.length_append, List.length_cons]
    omega
theorem encs_snoc (rs : List Int) (r : Int) : encs (rs ++ [r]) = encs rs ++ Lib.encodeRune r := by simp [encs]

/-- a row that has grown behind one new block -/
theorem enc_done {w w' : World} {B n m : Nat} {e : TypeId} {K : IntKind} {o : Option Addr} {cap : Nat} {xs ys : List Int} {zs : List Value} {X : Obj} {v' : Value} (h : Own w B e K o n cap xs) (hB : B ≤ w.heap.size)
    (hr : w'.ownsRow B e 1 v' m zs) (he : zs = cs K ys) (hg : (w.alloc X).grownBy w' (Value.slice o n cap).ownBlock) : ∃ o' cap', v' = .slice o' m cap' ∧ Own w' B e K o' m cap' ys ∧ Below B w w' := by
  subst he
  obtain ⟨o', cap', rfl, h2⟩ := Own.of hr
  refine ⟨o', cap', rfl, h2, ((Below.refl B w).alloc hB X).trans ?_⟩
  exact ⟨hg.os, hg.tape, hg.output, hg.size, fun k hk => hg.block k (by simp; omega) (fun e' => by have := (h.row.lt k e'.symm).1; omega)⟩

set_option maxRecDepth 100000 in
set_option maxHeartbeats 4000000 in
theorem nonAscii_any (B : Nat) (o : Option Addr) (n cap : Nat) (xs : List Int) (r : Int) (hr0 : -2147483648 ≤ r) (hr1 : r ≤ 2147483647) (hr : r < 0 ∨ 128 ≤ r) (w : World) (hown : Own w B 5 .u8 o n cap xs) (hl : n ≤ 17592186044000) (hB : B ≤ w.heap.size) :
    Calls Tryd.prog 42 #[.slice o n cap, .int .i32 r] w fun e w' => ∃ o' cap', e = .returned (.slice o' (n + (Lib.encodeRuneZ r).length) cap') ∧ Own w' B 5 .u8 o' (n + (Lib.encodeRuneZ r).length) cap' (xs ++ Lib.encodeRuneZ r) ∧ Below B w w' := by
  obtain ⟨i0, hi, hz0, hz1, hz2⟩ := info_parts infoB
  by_cases c2 : 128 ≤ r ∧ r ≤ 2047
  · rw [Lib.encodeRuneZ_two c2.1 c2.2]
    obtain ⟨h0, h1⟩ := c2
    clear hr
    have HO := Lib.hid hown; clear hown
    go_enter Tryd.func42, Tryd.ntmps42
    go_wp2_with (at_builtin; refine wpList_append_nums (K := .u8) rfl _ _ 22 rfl B 5 i0 (Value.int .u8 0) 1 Tryd.underlying22 hi hz0 hz1 hz2 (by decide) rfl (.slice o n cap) n xs rfl ?c1 (some ⟨w.heap.size, 0, none⟩) 2 2 [192 + r / 64, 128 + r % 64] rfl ?c0 ?c2 ?c3 ?_)
    case c1 => exact HO.out.row.alloc _
    case c0 => exact Nums.new w _ [192 + r / 64, 128 + r % 64] (by simp)
    case c2 => omega
    case c3 => first | omega | (simp; omega)
    intro v' w2 hr2 hg2 _
    obtain ⟨o', cap', rfl, h2, h3⟩ := enc_done (ys := xs ++ [192 + r / 64, 128 + r % 64]) HO.out hB hr2 (by simp [cs]) hg2
    have H2 := Lib.hid h2; clear hr2 hg2 h2
    go_wp2
    go_ret
    exact ⟨o', cap', rfl, H2.out, h3⟩
  by_cases c3 : (2048 ≤ r ∧ r < 55296) ∨ (57343 < r ∧ r ≤ 65535)
  · rw [Lib.encodeRuneZ_three c3]
    have HO := Lib.hid hown; clear hown hr c2
    rcases c3 with ⟨h0, h1⟩ | ⟨h0, h1⟩
    all_goals
      go_enter Tryd.func42, Tryd.ntmps42
      go_wp2_with (at_builtin; refine wpList_append_nums (K := .u8) rfl _ _ 22 rfl B 5 i0 (Value.int .u8 0) 1 Tryd.underlying22 hi hz0 hz1 hz2 (by decide) rfl (.slice o n cap) n xs rfl ?c1 (some ⟨w.heap.size, 0, none⟩) 3 3 [224 + r / 4096, 128 + r / 64 % 64, 128 + r % 64] rfl ?c0 ?c2 ?c3 ?_)
      case c1 => exact HO.out.row.alloc _
      case c0 => exact Nums.new w _ [224 + r / 4096, 128 + r / 64 % 64, 128 + r % 64] (by simp)
      case c2 => omega
      case c3 => first | omega | (simp; omega)
      intro v' w2 hr2 hg2 _
      obtain ⟨o', cap', rfl, h2, h3⟩ := enc_done (ys := xs ++ [224 + r / 4096, 128 + r / 64 % 64, 128 + r % 64]) HO.out hB hr2 (by simp [cs]) hg2
      have H2 := Lib.hid h2; clear hr2 hg2 h2
      go_wp2
      go_ret
      exact ⟨o', cap', rfl, H2.out, h3⟩
  by_cases c4 : 65536 ≤ r ∧ r ≤ 1114111
  · rw [Lib.encodeRuneZ_four c4.1 c4.2]
    obtain ⟨h0, h1⟩ := c4
    have HO := Lib.hid hown; clear hown hr c2 c3
    go_enter Tryd.func42, Tryd.ntmps42
    go_wp2_with (at_builtin; refine wpList_append_nums (K := .u8) rfl _ _ 22 rfl B 5 i0 (Value.int .u8 0) 1 Tryd.underlying22 hi hz0 hz1 hz2 (by decide) rfl (.slice o n cap) n xs rfl ?c1 (some ⟨w.heap.size, 0, none⟩) 4 4 [240 + r / 262144, 128 + r / 4096 % 64, 128 + r / 64 % 64, 128 + r % 64] rfl ?c0 ?c2 ?c3 ?_)
    case c1 => exact HO.out.row.alloc _
    case c0 => exact Nums.new w _ [240 + r / 262144, 128 + r / 4096 % 64, 128 + r / 64 % 64, 128 + r % 64] (by simp)
    case c2 => omega
    case c3 => first | omega | (simp; omega)
    intro v' w2 hr2 hg2 _
    obtain ⟨o', cap', rfl, h2, h3⟩ := enc_done (ys := xs ++ [240 + r / 262144, 128 + r / 4096 % 64, 128 + r / 64 % 64, 128 + r % 64]) HO.out hB hr2 (by simp [cs]) hg2
    have H2 := Lib.hid h2; clear hr2 hg2 h2
    go_wp2
    go_ret
    exact ⟨o', cap', rfl, H2.out, h3⟩
  · have hbad : r < 0 ∨ (55296 ≤ r ∧ r ≤ 57343) ∨ 1114111 < r := by omega
    rw [Lib.encodeRuneZ_bad hbad]
    have HO := Lib.hid hown; clear hown hr c2 c3 c4
    rcases hbad with h0 | ⟨h0, h1⟩ | h0
    all_goals
      go_enter Tryd.func42, Tryd.ntmps42
      go_wp2_with (at_builtin; refine wpList_append_nums (K := .u8) rfl _ _ 22 rfl B 5 i0 (Value.int .u8 0) 1 Tryd.underlying22 hi hz0 hz1 hz2 (by decide) rfl (.slice o n cap) n xs rfl ?c1 (some ⟨w.heap.size, 0, none⟩) 3 3 [239, 191, 189] rfl ?c0 ?c2 ?c3 ?_)
      case c1 => exact HO.out.row.alloc _
      case c0 => exact Nums.new w _ [239, 191, 189] (by simp)
      case c2 => omega
      case c3 => first | omega | (simp; omega)
      intro v' w2 hr2 hg2 _
      obtain ⟨o', cap', rfl, h2, h3⟩ := enc_done (ys := xs ++ [239, 191, 189]) HO.out hB hr2 (by simp [cs]) hg2
      have H2 := Lib.hid h2; clear hr2 hg2 h2
      go_wp2
      go_ret
      exact ⟨o', cap', rfl, H2.out, h3⟩

set_option maxRecDepth 100000 in
set_option maxHeartbeats 4000000 in
theorem appendRune_any (B : Nat) (o : Option Addr) (n cap : Nat) (xs : List Int) (r : Int) (hr0 : -2147483648 ≤ r) (hr1 : r ≤ 2147483647) (w : World) (hown : Own w B 5 .u8 o n cap xs) (hl : n ≤ 17592186044000) (hB : B ≤ w.heap.size) :
    Calls Tryd.prog 34 #[.slice o n cap, .int .i32 r] w fun e w' => ∃ o' cap', e = .returned (.slice o' (n + (Lib.encodeRuneZ r).length) cap') ∧ Own w' B 5 .u8 o' (n + (Lib.encodeRuneZ r).length) cap' (xs ++ Lib.encodeRuneZ r) ∧ Below B w w' := by
  obtain ⟨i0, hi, hz0, hz1, hz2⟩ := info_parts infoB
  by_cases c1 : 0 ≤ r ∧ r ≤ 127
  · rw [Lib.encodeRuneZ_one c1.1 c1.2]
    obtain ⟨h0, h1⟩ := c1
    have HO := Lib.hid hown; clear hown hr0 hr1
    go_enter Tryd.func34, Tryd.ntmps34
    go_wp2_with (at_builtin; refine wpList_append_nums (K := .u8) rfl _ _ 22 rfl B 5 i0 (Value.int .u8 0) 1 Tryd.underlying22 hi hz0 hz1 hz2 (by decide) rfl (.slice o n cap) n xs rfl ?c1 (some ⟨w.heap.size, 0, none⟩) 1 1 [r] rfl ?c0 ?c2 ?c3 ?_)
    case c1 => exact HO.out.row.alloc _
    case c0 => exact Nums.new w _ [r] (by simp)
    case c2 => omega
    case c3 => first | omega | (simp; omega)
    intro v' w2 hr2 hg2 _
    obtain ⟨o', cap', rfl, h2, h3⟩ := enc_done (ys := xs ++ [r]) HO.out hB hr2 (by simp [cs]) hg2
    have H2 := Lib.hid h2; clear hr2 hg2 h2
    go_wp2
    go_ret
    exact ⟨o', cap', rfl, H2.out, h3⟩
  · have hn : r < 0 ∨ 128 ≤ r := by omega
    have HC := Lib.hid (nonAscii_any B o n cap xs r hr0 hr1 hn w hown hl hB)
    generalize Lib.encodeRuneZ r = E at *
    clear hown c1
    rcases hn with h0 | h0
    all_goals
      go_enter Tryd.func34, Tryd.ntmps34
      go_wp2_with fail
      refine HC.out.mono ?_
      rintro e w' ⟨o', cap', rfl, h2, h3⟩
      have H2 := Lib.hid h2; clear h2
      go_wp2
      go_ret
      exact ⟨o', cap', rfl, H2.out, h3⟩

end Go.Proofs.YtknkmfofjbpdbaaDoor
