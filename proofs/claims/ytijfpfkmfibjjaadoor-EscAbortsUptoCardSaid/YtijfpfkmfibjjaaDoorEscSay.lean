/- say. -/
import Derived.Test.YtijfpfkmfibjjaaDoorEscCmd2
namespace Go.Proofs.YtijfpfkmfibjjaaDoor
open Go.RowKit

/-- an act as a value -/
abbrev actV (a : es.Act) (o : Option Addr) (cap : Nat) : Value := .agg #[.int .i64 a.kind, .int .i32 a.r, .int .u8 a.final, .int .u8 a.priv, .string ⟨a.inter.toArray⟩, .slice o a.params.length cap, .string ⟨a.text.toArray⟩]
set_option maxRecDepth 100000 in
set_option maxHeartbeats 1600000 in
theorem say_any (p B : Nat) (s : es.St) (cur : Array Value) (V : Value) (l : List es.Act) (act : es.Act) (o : Option Addr) (cap : Nat) (w : World) (h : PsAt w p s cur) (ha : ActsAt w B V l) (hl : l.length ≤ 1099511627776) (hpB : p < B) (hBw : B ≤ w.heap.size) (h1 : Act1 w B act o cap) :
    Calls Tryd.prog 46 #[.pointer (some ⟨p, 0, none⟩), V, actV act o cap] w fun e w' => ∃ V', e = .returned V' ∧ ActsAt w' B V' (l ++ (es.say s act).2) ∧ (∃ cur', PsAt w' p (es.say s act).1 cur') ∧ Kept w w' (Fr p B) := by
  have c5 : w.cell? ⟨p, 5, none⟩ = some (.bool s.spoiled) := (h.c 5).trans h.is.spoiled
  have hpw := h.lt
  have hb0 : Below w.heap.size w (w.alloc (.cells #[.int .i64 act.kind, .int .i32 act.r, .int .u8 act.final, .int .u8 act.priv, .string ⟨act.inter.toArray⟩, .slice o act.params.length cap, .string ⟨act.text.toArray⟩] 45)) := (Below.refl _ _).alloc (Nat.le_refl _) _
  have HW := Lib.hid (And.intro (h.alloc (.cells #[.int .i64 act.kind, .int .i32 act.r, .int .u8 act.final, .int .u8 act.priv, .string ⟨act.inter.toArray⟩, .slice o act.params.length cap, .string ⟨act.text.toArray⟩] 45)) (And.intro (ha.below hb0) (And.intro (h1.kept (Kept.of_below hb0 (fun _ => False)) (fun _ _ _ _ h => h)) ((Below.refl B w).alloc hBw (.cells #[.int .i64 act.kind, .int .i32 act.r, .int .u8 act.final, .int .u8 act.priv, .string ⟨act.inter.toArray⟩, .slice o act.params.length cap, .string ⟨act.text.toArray⟩] 45)))))
  clear h ha h1 hb0
  unfold es.say
  cases hs : s.spoiled with
  | true =>
    rw [hs] at c5
    rw [if_pos rfl, List.append_nil]
    have hz := run_zero p s cur _ HW.out.1
    have HZ := Lib.hid (row_at HW.out.1 zero_is)
    go_enter Tryd.func46, Tryd.ntmps46
    go_wp2_with fail
    go_ret
    have hk := (Kept.refl (w.alloc (.cells #[.int .i64 act.kind, .int .i32 act.r, .int .u8 act.final, .int .u8 act.priv, .string ⟨act.inter.toArray⟩, .slice o act.params.length cap, .string ⟨act.text.toArray⟩] 45)) (· = p)).setRow (fun _ => rfl) zeroC
    exact ⟨_, rfl, HW.out.2.1.kept hk (fun k hk e => by omega), ⟨_, HZ.out⟩, (Kept.fr_below HW.out.2.2.2).fr_trans hk.fr⟩
  | false =>
    rw [hs] at c5
    rw [if_neg (by simp)]
    have hg0 := heap_alloc_new w (.cells #[.int .i64 act.kind, .int .i32 act.r, .int .u8 act.final, .int .u8 act.priv, .string ⟨act.inter.toArray⟩, .slice o act.params.length cap, .string ⟨act.text.toArray⟩] 45)
    have HG0 := Lib.hid hg0
    clear hg0
    have hb1 : Below (w.alloc (.cells #[.int .i64 act.kind, .int .i32 act.r, .int .u8 act.final, .int .u8 act.priv, .string ⟨act.inter.toArray⟩, .slice o act.params.length cap, .string ⟨act.text.toArray⟩] 45)).heap.size (w.alloc (.cells #[.int .i64 act.kind, .int .i32 act.r, .int .u8 act.final, .int .u8 act.priv, .string ⟨act.inter.toArray⟩, .slice o act.params.length cap, .string ⟨act.text.toArray⟩] 45)) ((w.alloc (.cells #[.int .i64 act.kind, .int .i32 act.r, .int .u8 act.final, .int .u8 act.priv, .string ⟨act.inter.toArray⟩, .slice o act.params.length cap, .string ⟨act.text.toArray⟩] 45)).alloc (.cells #[.int .i64 act.kind, .int .i32 act.r, .int .u8 act.final, .int .u8 act.priv, .string ⟨act.inter.toArray⟩, .slice o act.params.length cap, .string ⟨act.text.toArray⟩] 45)) := (Below.refl _ _).alloc (Nat.le_refl _) _
    have HA1 := Lib.hid (HW.out.2.1.below hb1)
    have HP1 := Lib.hid (HW.out.2.2.1.kept (Kept.of_below hb1 (fun _ => False)) (fun _ _ _ _ h => h))
    have HG1 : Hid (((w.alloc (.cells #[.int .i64 act.kind, .int .i32 act.r, .int .u8 act.final, .int .u8 act.priv, .string ⟨act.inter.toArray⟩, .slice o act.params.length cap, .string ⟨act.text.toArray⟩] 45)).alloc (.cells #[.int .i64 act.kind, .int .i32 act.r, .int .u8 act.final, .int .u8 act.priv, .string ⟨act.inter.toArray⟩, .slice o act.params.length cap, .string ⟨act.text.toArray⟩] 45)).heap[w.heap.size + 1]? = some (.cells #[.int .i64 act.kind, .int .i32 act.r, .int .u8 act.final, .int .u8 act.priv, .string ⟨act.inter.toArray⟩, .slice o act.params.length cap, .string ⟨act.text.toArray⟩] 45)) := Lib.hid (by
      have := heap_alloc_new (w.alloc (.cells #[.int .i64 act.kind, .int .i32 act.r, .int .u8 act.final, .int .u8 act.priv, .string ⟨act.inter.toArray⟩, .slice o act.params.length cap, .string ⟨act.text.toArray⟩] 45)) (.cells #[.int .i64 act.kind, .int .i32 act.r, .int .u8 act.final, .int .u8 act.priv, .string ⟨act.inter.toArray⟩, .slice o act.params.length cap, .string ⟨act.text.toArray⟩] 45)
      rw [show (w.alloc (.cells #[.int .i64 act.kind, .int .i32 act.r, .int .u8 act.final, .int .u8 act.priv, .string ⟨act.inter.toArray⟩, .slice o act.params.length cap, .string ⟨act.text.toArray⟩] 45)).heap.size = w.heap.size + 1 by simp] at this
      exact this)
    have HB1 := Lib.hid (HW.out.2.2.2.alloc (show B ≤ (w.alloc (.cells #[.int .i64 act.kind, .int .i32 act.r, .int .u8 act.final, .int .u8 act.priv, .string ⟨act.inter.toArray⟩, .slice o act.params.length cap, .string ⟨act.text.toArray⟩] 45)).heap.size by simp; omega) (.cells #[.int .i64 act.kind, .int .i32 act.r, .int .u8 act.final, .int .u8 act.priv, .string ⟨act.inter.toArray⟩, .slice o act.params.length cap, .string ⟨act.text.toArray⟩] 45))
    have HS1 := Lib.hid (HW.out.1.alloc (.cells #[.int .i64 act.kind, .int .i32 act.r, .int .u8 act.final, .int .u8 act.priv, .string ⟨act.inter.toArray⟩, .slice o act.params.length cap, .string ⟨act.text.toArray⟩] 45))
    clear hb1
    go_enter Tryd.func46, Tryd.ntmps46
    go_wp2_with (at_builtin; refine wpList_append_act rfl (.tmp 13) (.tmp 15) rfl B V l rfl HA1.out (w.heap.size + 1) act o cap rfl HG1.out HP1.out hl (by simp; omega) (fun v' w' r1 r2 => ?_); have hps := HS1.out.below r2 hpB; have hz := run_zero p s cur w' hps; have HR := Lib.hid (And.intro hps (And.intro r1 r2)); clear hps r1 r2)
    have hk := (Kept.refl w' (· = p)).setRow (fun _ => rfl) zeroC
    go_ret
    exact ⟨_, rfl, HR.out.2.1.kept hk (fun k hk e => by omega), ⟨_, row_at HR.out.1 zero_is⟩, (Kept.fr_below (HB1.out.trans HR.out.2.2)).fr_trans hk.fr⟩
end Go.Proofs.YtijfpfkmfibjjaaDoor
