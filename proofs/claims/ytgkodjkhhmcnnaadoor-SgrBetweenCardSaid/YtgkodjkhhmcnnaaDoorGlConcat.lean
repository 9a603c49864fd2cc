/- slices.Concat of two slices of bytes. -/
import Derived.Test.YtgkodjkhhmcnnaaDoorGlGrow
namespace Go.Proofs.YtgkodjkhhmcnnaaDoor
open Go.RowKit

/-- so much of two -/
def upTo (n1 n2 k : Nat) : Nat := if k = 0 then 0 else if k = 1 then n1 else n1 + n2
/-- so many of two lists -/
def both (xs ys : List Int) (k : Nat) : List Int := if k = 0 then [] else if k = 1 then xs else xs ++ ys
set_option maxRecDepth 100000 in
set_option maxHeartbeats 1600000 in
theorem concat_any (o1 o2 : Option Addr) (n1 c1 n2 c2 g : Nat) (xs ys : List Int) (w : World) (h1 : Nums .u8 w o1 n1 c1 xs) (h2 : Nums .u8 w o2 n2 c2 ys) (hl : n1 + n2 ≤ 4398046511104)
    (hg0 : w.cell? ⟨g, 0, none⟩ = some (.slice o1 n1 c1)) (hg1 : w.cell? ⟨g, 1, none⟩ = some (.slice o2 n2 c2)) :
    Calls Tryd.prog 77 #[.slice (some ⟨g, 0, none⟩) 2 2] w fun e w' => ∃ o cap, e = .returned (.slice o (n1 + n2) cap) ∧ Own w' w.heap.size 5 .u8 o (n1 + n2) cap (xs ++ ys) ∧ Below w.heap.size w w' := by
  obtain ⟨i0, hi, hz0, hz1, hz2⟩ := info_parts infoB
  have H1 := Lib.hid h1; have H2 := Lib.hid h2
  have HG0 := Lib.hid hg0; have HG1 := Lib.hid hg1
  clear h1 h2 hg0 hg1
  go_enter Tryd.func77, Tryd.ntmps77
  go_wp2_with fail
  go_loopg [3, 11] 2 (fun gg s3 s11 wr => ∃ (k : Nat) (z u : Int), s3 = .int .i64 u ∧ s11 = .int .i64 z ∧ u = (upTo n1 n2 k : Nat) ∧ z = k ∧ k ≤ 2 ∧ 2 - k ≤ gg ∧ w = wr)
  case atStart => exact ⟨0, 0, 0, rfl, rfl, rfl, rfl, by omega, by omega, rfl⟩
  case round =>
    obtain ⟨k, z, u, rfl, rfl, hu, hz, hk, hgg, rfl⟩ := hrel
    obtain rfl | rfl | rfl : k = 0 ∨ k = 1 ∨ k = 2 := by omega
    · obtain rfl : z = 0 := by omega
      obtain rfl : u = 0 := hu
      clear hz
      have hg0 := HG0.out
      have hn1 : (n1 : Int) ≤ 4398046511104 := by omega
      go_wp2_with fail
      go_roundg (2 - 1)
      case measure => omega
      case rel => exact ⟨1, 1, n1, by go_num, rfl, rfl, rfl, by omega, by omega, rfl⟩
    · obtain rfl : z = 1 := by omega
      obtain rfl : u = (n1 : Int) := hu
      clear hz
      have hg1 := HG1.out
      have hn1 : (n1 : Int) + (n2 : Int) ≤ 4398046511104 := by omega
      have hn2 : 0 ≤ (n1 : Int) + (n2 : Int) := by omega
      go_wp2_with fail
      go_roundg (2 - 2)
      case measure => omega
      case rel => exact ⟨2, 2, ((n1 + n2 : Nat) : Int), by go_num, rfl, rfl, rfl, by omega, by omega, rfl⟩
    · obtain rfl : z = 2 := by omega
      obtain rfl : u = ((n1 + n2 : Nat) : Int) := hu
      clear hz
      have HGR := Lib.hid (grow_any (n1 + n2) w hl)
      go_wp2_with fail
      refine HGR.out.mono ?_
      rintro e w1 ⟨o, cap, rfl, hown, hb⟩
      have HO := Lib.hid hown
      have HB := Lib.hid hb
      clear hown hb
      go_wp2_with fail
      go_loopg [6, 27] 2 (fun gg s6 s27 wr => ∃ (k : Nat) (z : Int) (o : Option Addr) (m cap : Nat) (zs : List Int), s6 = .slice o m cap ∧ s27 = .int .i64 z ∧ z = k ∧ k ≤ 2 ∧ 2 - k ≤ gg ∧ Hid (m = upTo n1 n2 k) ∧ Hid (zs = both xs ys k) ∧ Hid (Own wr w.heap.size 5 .u8 o m cap zs ∧ Below w.heap.size w wr))
      case atStart => exact ⟨0, 0, o, 0, cap, [], rfl, rfl, rfl, by omega, by omega, Lib.hid rfl, Lib.hid rfl, Lib.hid ⟨HO.out, HB.out⟩⟩
      case round =>
      clear HO HB hgg hk
      obtain ⟨k, z, o, m, cap, zs, rfl, rfl, hz, hk, hgg, HM, HZ, HR⟩ := hrel
      obtain rfl | rfl | rfl : k = 0 ∨ k = 1 ∨ k = 2 := by omega
      · obtain rfl : z = 0 := by omega
        clear hz
        have hc : wr.cell? ⟨g, 0, none⟩ = some (.slice o1 n1 c1) := (HR.out.2.cell (p := ⟨g, 0, none⟩) (World.block_lt_of_cell? w ⟨g, 0, none⟩ HG0.out)).trans HG0.out
        obtain rfl : 0 = m := HM.out.symm
        go_wp2_with (at_builtin; refine wpList_append_nums (K := .u8) rfl _ _ 34 rfl w.heap.size 5 i0 (Value.int .u8 0) 1 Tryd.underlying34 hi hz0 hz1 hz2 (by decide) rfl (.slice o 0 cap) 0 zs rfl ?c1 o1 n1 c1 xs rfl ?c4 ?c2 ?c3 ?_)
        case c1 => exact HR.out.1.row
        case c4 => exact H1.out.below HR.out.2
        case c2 => omega
        case c3 => exact HR.out.2.size
        intro v' w3 hr3 hg3 hv3
        obtain ⟨o', cap', rfl, hown3⟩ := Own.of (show w3.ownsRow w.heap.size 5 1 v' (0 + n1) (cs .u8 (zs ++ xs)) from by simpa using hr3)
        have HR3 := Lib.hid (And.intro hown3 (HR.out.2.trans (grown_below hg3 HR.out.1.row HR.out.2.size)))
        have HM3 : Hid (0 + n1 = upTo n1 n2 1) := Lib.hid (by simp [upTo])
        have HZ3 : Hid (zs ++ xs = both xs ys 1) := Lib.hid (by rw [HZ.out]; rfl)
        clear hr3 hg3 hv3 hown3 hc
        go_wp2_with fail
        go_roundg (2 - 1)
        case measure => omega
        case rel => exact ⟨1, 1, o', _, cap', _, rfl, rfl, rfl, by omega, by omega, HM3, HZ3, HR3⟩
      · obtain rfl : z = 1 := by omega
        clear hz
        have hc : wr.cell? ⟨g, 1, none⟩ = some (.slice o2 n2 c2) := (HR.out.2.cell (p := ⟨g, 1, none⟩) (World.block_lt_of_cell? w ⟨g, 1, none⟩ HG1.out)).trans HG1.out
        obtain rfl : n1 = m := HM.out.symm
        go_wp2_with (at_builtin; refine wpList_append_nums (K := .u8) rfl _ _ 34 rfl w.heap.size 5 i0 (Value.int .u8 0) 1 Tryd.underlying34 hi hz0 hz1 hz2 (by decide) rfl (.slice o n1 cap) n1 zs rfl ?c1 o2 n2 c2 ys rfl ?c4 ?c2 ?c3 ?_)
        case c1 => exact HR.out.1.row
        case c4 => exact H2.out.below HR.out.2
        case c2 => omega
        case c3 => exact HR.out.2.size
        intro v' w3 hr3 hg3 hv3
        obtain ⟨o', cap', rfl, hown3⟩ := Own.of (show w3.ownsRow w.heap.size 5 1 v' (n1 + n2) (cs .u8 (zs ++ ys)) from by simpa using hr3)
        have HR3 := Lib.hid (And.intro hown3 (HR.out.2.trans (grown_below hg3 HR.out.1.row HR.out.2.size)))
        have HM3 : Hid (n1 + n2 = upTo n1 n2 2) := Lib.hid rfl
        have HZ3 : Hid (zs ++ ys = both xs ys 2) := Lib.hid (by rw [HZ.out]; rfl)
        clear hr3 hg3 hv3 hown3 hc
        go_wp2_with fail
        go_roundg (2 - 2)
        case measure => omega
        case rel => exact ⟨2, 2, o', _, cap', _, rfl, rfl, rfl, by omega, by omega, HM3, HZ3, HR3⟩
      · obtain rfl : z = 2 := by omega
        have hm : m = n1 + n2 := HM.out
        have hzs : zs = xs ++ ys := HZ.out
        subst hm hzs
        clear hz
        go_wp2_with fail
        go_ret
        exact ⟨o, cap, rfl, HR.out.1, HR.out.2⟩
end Go.Proofs.YtgkodjkhhmcnnaaDoor
