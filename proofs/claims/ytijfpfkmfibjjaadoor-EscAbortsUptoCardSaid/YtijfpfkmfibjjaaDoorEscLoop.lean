/- Feed. -/
import Derived.Test.YtijfpfkmfibjjaaDoorEscByte
namespace Go.Proofs.YtijfpfkmfibjjaaDoor
open Go.RowKit

theorem UTabs.kept {w w' : World} (h : UTabs w) {S : Nat → Prop} (hk : Kept w w' S) (h1 : ¬ S 1) (h2 : ¬ S 2) : UTabs w' :=
  ⟨fun c hc => hk.cell (h.1 c hc) h1, fun i hi => ⟨hk.cell (h.2 i hi).1 h2, hk.cell (h.2 i hi).2 h2⟩⟩
theorem PsAt.tabs {w : World} {p : Nat} {s : es.St} {cur : Array Value} (h : PsAt w p s cur) (ht : UTabs w) : p ≠ 1 ∧ p ≠ 2 := by
  have c0 : w.cell? ⟨p, 0, none⟩ = some (.int .i64 s.state) := (h.c 0).trans h.is.st
  refine ⟨fun e => ?_, fun e => ?_⟩
  · have := ht.1 0 (by decide)
    rw [← e, c0] at this
    simp at this
  · have := (show w.cell? ⟨2, 0, none⟩ = some (.int .u8 (Lib.accLo 0)) from (ht.2 0 (by decide)).1)
    rw [← e, c0] at this
    simp at this
theorem es.feed_snoc (s : es.St) (l : List UInt8) (c : UInt8) : es.feed s (l ++ [c]) = ((es.byte (es.feed s l).1 c).1, (es.feed s l).2 ++ (es.byte (es.feed s l).1 c).2) := by
  rw [es.feed_append]
  simp [es.feed]
/-- what holds behind k bytes -/
structure FeedIn (w : World) (p B : Nat) (s : es.St) (o : Option Addr) (n cap : Nat) (bs : List UInt8) (k : Nat) (V : Value) (wr : World) : Prop where
  ps : ∃ cur, PsAt wr p (es.feed s (bs.take k)).1 cur
  good : es.Good (es.feed s (bs.take k)).1
  acts : ActsAt wr B V (es.feed s (bs.take k)).2
  kept : Kept w wr (Fr p B)
  bts : Bts wr o n cap bs
  tabs : UTabs wr
  len : (es.feed s (bs.take k)).2.length ≤ 4 * k
theorem FeedIn.next {w wr w' : World} {p B : Nat} {s : es.St} {o : Option Addr} {n cap : Nat} {bs : List UInt8} {k : Nat} {V V' : Value} (h : FeedIn w p B s o n cap bs k V wr) (hk : k < bs.length) (hop : ∀ d, o = some d → d.block ≠ p ∧ d.block < B) (ht : 1 < B ∧ 2 < B)
    (r1 : ActsAt w' B V' ((es.feed s (bs.take k)).2 ++ (es.byte (es.feed s (bs.take k)).1 bs[k]).2)) (r2 : ∃ cur', PsAt w' p (es.byte (es.feed s (bs.take k)).1 bs[k]).1 cur') (r3 : Kept wr w' (Fr p B)) : FeedIn w p B s o n cap bs (k + 1) V' w' := by
  obtain ⟨cur, hps⟩ := h.ps
  have hpt := hps.tabs h.tabs
  have e : bs.take (k + 1) = bs.take k ++ [bs[k]] := by rw [List.take_add_one, List.getElem?_eq_getElem hk]; rfl
  have hbl := es.byte_len (es.feed s (bs.take k)).1 bs[k] hps.is.few
  have hl := h.len
  constructor
  · rw [e, es.feed_snoc]; exact r2
  · rw [e, es.feed_snoc]; exact h.good.byte _
  · rw [e, es.feed_snoc]; exact r1
  · exact h.kept.fr_trans r3
  · refine h.bts.same (fun g hg off ho => r3.block g hg (fun e' => ?_)) r3.size
    have := hop _ ho
    rcases e' with e' | e'
    · exact this.1 e'
    · have := this.2; simp at this; omega
  · refine h.tabs.kept r3 (fun e' => ?_) (fun e' => ?_)
    · rcases e' with e' | e'
      · exact hpt.1 e'.symm
      · omega
    · rcases e' with e' | e'
      · exact hpt.2 e'.symm
      · omega
  · rw [e, es.feed_snoc, List.length_append]; omega
set_option maxRecDepth 100000 in
set_option maxHeartbeats 1600000 in
theorem feedP_any (p : Nat) (s : es.St) (cur : Array Value) (o : Option Addr) (n cap : Nat) (bs : List UInt8) (w : World) (h : PsAt w p s cur) (hg : es.Good s) (hx : Bts w o n cap bs) (hop : n ≠ 0 → ∀ d, o = some d → d.block ≠ p ∧ d.block < w.heap.size) (ht : UTabs w) (hn : n ≤ 137438953472) :
    Calls Tryd.prog 11 #[.pointer (some ⟨p, 0, none⟩), .slice o n cap] w fun e w' => ∃ V, e = .returned V ∧ ActsAt w' w.heap.size V (es.feed s bs).2 ∧ (∃ cur', PsAt w' p (es.feed s bs).1 cur') ∧ es.Good (es.feed s bs).1 ∧ Kept w w' (Fr p w.heap.size) := by
  have hlen := hx.size
  have hpw := h.lt
  have HT := Lib.hid ht.lt
  have HI : Hid (FeedIn w p w.heap.size s o n cap bs 0 (.slice none 0 0) w) := Lib.hid ⟨⟨_, h⟩, hg, ActsAt.nil _ _, Kept.refl _ _, hx, ht, Nat.le_refl _⟩
  have HOP := Lib.hid hop
  clear h hg hx ht hop
  generalize hB : w.heap.size = B at *
  go_enter Tryd.func11, Tryd.ntmps11
  go_wp2_with fail
  go_loopg [5, 10] n (fun gg s5 s10 wr => ∃ k : Nat, s10 = .int .i64 k ∧ k ≤ n ∧ n - k ≤ gg ∧ Hid (FeedIn w p B s o n cap bs k s5 wr))
  case atStart => exact ⟨0, rfl, Nat.zero_le _, by omega, HI⟩
  case round =>
    obtain ⟨k, rfl, hkn, hgg, HF⟩ := hrel
    clear HI
    by_cases hlt : k < n
    · have hki : (k : Int) < (n : Int) := by omega
      have hk0 : (0 : Int) ≤ (k : Int) := by omega
      have hkb : k < bs.length := by omega
      obtain ⟨b, off, rfl, hbl, hc⟩ := HF.out.bts.byte (by omega)
      have hck : wr.cell? ⟨b, off + k, none⟩ = some (.int .u8 (bs[k].toNat : Nat)) := by rw [hc k hlt]; simp [gl.b, List.getD, hkb]
      obtain ⟨cur1, hps⟩ := HF.out.ps
      have hst : wr.cell? ⟨p, 0, none⟩ = some (.int .i64 (es.feed s (bs.take k)).1.state) := (hps.c 0).trans hps.is.st
      have HS := Lib.hid (fun W => steps_any (es.feed s (bs.take k)).1.state W HF.out.good.st)
      have HBY := Lib.hid (byte_any p B (es.feed s (bs.take k)).1 cur1 _ _ bs[k] wr hps HF.out.acts (by have := HF.out.len; omega) hpw (by rw [← hB]; exact HF.out.kept.size) HF.out.tabs HF.out.good)
      have HN := Lib.hid (fun V' w' => HF.out.next (w' := w') (V' := V') hkb (HOP.out (by omega)) HT.out)
      have hst4 := HF.out.good.st
      generalize hbk : bs[k] = c at *
      generalize (es.feed s (bs.take k)).1.state = st at *
      clear hc hps HF
      have q0 : stepOf 0 = 32 := rfl
      have q1 : stepOf 1 = 28 := rfl
      have q2 : stepOf 2 = 29 := rfl
      have q3 : stepOf 3 = 30 := rfl
      have q4 : stepOf 4 = 31 := rfl
      obtain rfl | rfl | rfl | rfl | rfl : st = 0 ∨ st = 1 ∨ st = 2 ∨ st = 3 ∨ st = 4 := by omega
      all_goals
        go_wp2_with fail
        refine (HS.out wr).mono ?_
        rintro e w1 ⟨rfl, rfl⟩
        go_wp2_with fail
        refine HBY.out.mono ?_
        rintro e w2 ⟨V', rfl, r1, r2, r3⟩
        have HX := Lib.hid (HN.out V' w2 r1 r2 r3)
        clear r1 r2 r3
        go_wp2_with fail
        go_roundg (n - (k + 1))
        case measure => omega
        case rel => exact ⟨k + 1, by go_num, by omega, Nat.le_refl _, HX⟩
    · obtain rfl : k = n := by omega
      go_wp2_with fail
      go_ret
      have hF := HF.out
      have e : bs.take k = bs := by rw [← hlen, List.take_length]
      have h1 := hF.acts; have h2 := hF.ps; have h3 := hF.good
      rw [e] at h1 h2 h3
      exact ⟨_, rfl, h1, h2, h3, hF.kept⟩
end Go.Proofs.YtijfpfkmfibjjaaDoor
