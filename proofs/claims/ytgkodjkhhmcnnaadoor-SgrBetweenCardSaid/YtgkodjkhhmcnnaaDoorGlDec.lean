/- DecodeRune: the rune with which bytes begin, and how many bytes it takes. -/
import Derived.Test.YtgkodjkhhmcnnaaDoorGlSlow
namespace Go.Proofs.YtgkodjkhhmcnnaaDoor
open Go.RowKit Go.Lib

set_option maxRecDepth 1000000 in
set_option maxHeartbeats 1000000 in
theorem decode_any (o : Option Addr) (n cap : Nat) (l : List UInt8) (w : World) (hx : Bts w o n cap l) (hn0 : 0 < n) (ht : UTabs w) :
    Calls Tryd.prog 87 #[.slice o n cap] w fun e w' => e = .returned (.tuple #[.int .i32 (gl.dec l).1, .int .i64 (gl.dec l).2]) ∧ Below w.heap.size w w' := by
  have hn := hx.size
  have cS := decodeSlow_any o n cap l w hx hn0 ht
  obtain ⟨b, off, rfl, hb, hk⟩ := hx.byte (by omega)
  have k0 : w.cell? ⟨b, off, none⟩ = some (.int .u8 (gl.b l 0)) := hk 0 (by omega)
  have l0 := gl.b_lt l 0
  have hd : gl.b l 0 < 128 → gl.dec l = (gl.b l 0, 1) := fun h => by unfold gl.dec decodeN; rw [if_neg (by omega), if_pos h]
  have hz0 : (0 : Int) < (n : Int) := by omega
  clear hk hx ht hn
  generalize gl.b l 0 = x0 at *
  have HD := Lib.hid hd; have HS := Lib.hid cS
  clear hd cS
  by_cases ha : (x0 : Int) < 128
  · have h := HD.out (by omega)
    rw [h]
    clear h
    go_enter Tryd.func87, Tryd.ntmps87
    go_wp2_with fail
    go_loop [8] (fun i => i = .int .i64 0) (fun _ => 0)
    case atStart => rfl
    case round =>
      subst hrel
      go_wp2_with fail
      go_ret2
      exact ⟨rfl, Below.refl _ _⟩
  · generalize (gl.dec l).1 = R at *
    generalize (gl.dec l).2 = N at *
    go_enter Tryd.func87, Tryd.ntmps87
    go_wp2_with fail
    go_loop [8] (fun i => i = .int .i64 0) (fun _ => 0)
    case atStart => rfl
    case round =>
      subst hrel
      go_wp2_with fail
      refine HS.out.mono ?_
      rintro e w' ⟨rfl, hb'⟩
      go_wp2_with fail
      go_ret2
      exact ⟨rfl, hb'⟩
end Go.Proofs.YtgkodjkhhmcnnaaDoor
