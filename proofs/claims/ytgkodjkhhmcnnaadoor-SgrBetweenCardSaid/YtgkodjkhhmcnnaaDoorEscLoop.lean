/- steps, Idle, Feed. A byte keeps a parser's bounds. A byte. Feed. -/
import Derived.Test.YtgkodjkhhmcnnaaDoorEscSteps
namespace Go.Proofs.YtgkodjkhhmcnnaaDoor
open Go.RowKit

theorem idle_any (p : Nat) (s : es.St) (cur : Array Value) (w : World) (h : PsAt w p s cur) :
    Calls Tryd.prog 9 #[.pointer (some ⟨p, 0, none⟩)] w fun e w' => e = .returned (.bool (es.idle s)) ∧ w = w' := by
  have c0 : w.cell? ⟨p, 0, none⟩ = some (.int .i64 s.state) := (h.c 0).trans h.is.st
  have HW := Lib.hid (waits_any p 1 s.wait cur 33 w h.rd)
  clear h
  by_cases h0 : s.state = 0
  · have b1 : ((s.state : Int) == 0) = true := by simp [h0]
    go_enter Tryd.func9, Tryd.ntmps9
    go_wp2_with fail
    refine HW.out.mono ?_
    rintro e w1 ⟨rfl, rfl⟩
    go_wp2_with fail
    go_ret
    refine ⟨ret_bool ?_, rfl⟩
    unfold es.idle
    by_cases h1 : s.wait.length = 0 <;> simp [h0, h1]
    all_goals omega
  · have b1 : ((s.state : Int) == 0) = false := by simp; omega
    have e : es.idle s = false := by unfold es.idle; simp [h0]
    rw [e]
    go_enter Tryd.func9, Tryd.ntmps9
    go_wp2_with fail
    go_ret
    exact ⟨rfl, rfl⟩
/-- what a state does with a byte -/
def stepOf (n : Nat) : FuncId := if n = 1 then 30 else if n = 2 then 31 else if n = 3 then 32 else if n = 4 then 33 else 34
theorem steps_any (n : Nat) (w : World) (hn : n ≤ 4) : Calls Tryd.prog 19 #[.int .i64 n] w fun e w' => e = .returned (.func (.func (stepOf n)) #[] #[]) ∧ w = w' := by
  obtain rfl | rfl | rfl | rfl | rfl : n = 0 ∨ n = 1 ∨ n = 2 ∨ n = 3 ∨ n = 4 := by omega
  all_goals
    go_enter Tryd.func19, Tryd.ntmps19
    go_wp2_with fail
    go_ret
    exact ⟨rfl, rfl⟩
end Go.Proofs.YtgkodjkhhmcnnaaDoor
namespace Go.Proofs.YtgkodjkhhmcnnaaDoor
open Go.RowKit

/-- what holds of each state, beside what memory says -/
structure es.Good (s : es.St) : Prop where
  st : s.state ≤ 4
  inter : s.inter.length ≤ 2
  parl : s.params.length ≤ 17
  nums : es.Nums s
theorem es.Good.zero : es.Good {} := ⟨by simp, by simp, by simp, fun k hk => by simp at hk⟩
theorem es.Good.one : es.Good { state := 1 } := ⟨by simp, by simp, by simp, fun k hk => by simp at hk⟩
theorem es.Good.command {s : es.St} (h : es.Good s) (b : UInt8) : es.Good (es.command s b).1 := by
  unfold es.command
  split
  · exact es.Good.zero
  split
  · exact es.Good.one
  split <;> exact h
theorem es.Good.say (s : es.St) (a : es.Act) : es.Good (es.say s a).1 := es.Good.zero
theorem es.Good.addInter {s : es.St} (h : es.Good s) (b : UInt8) : es.Good (es.addInter s b) := by
  unfold es.addInter
  split
  · exact ⟨h.st, h.inter, h.parl, h.nums⟩
  · exact ⟨h.st, by have := h.inter; simp; omega, h.parl, h.nums⟩
theorem es.Good.next {s : es.St} (h : es.Good s) : es.Good (es.nextNumber s) := by
  have hn := h.nums.next
  have hl := h.parl
  unfold es.nextNumber at hn ⊢
  split
  · rename_i hc
    rw [if_pos hc] at hn
    exact ⟨h.st, h.inter, by simp; omega, hn⟩
  · rename_i hc
    rw [if_neg hc] at hn
    exact ⟨h.st, h.inter, by simpa using hl, hn⟩
theorem es.Good.setLast {s : es.St} (h : es.Good s) (b : UInt8) (hb : 48 ≤ b.toNat) : es.Good (es.setLast s b) := by
  refine ⟨h.st, h.inter, by unfold es.setLast; simpa using h.parl, ?_⟩
  intro k hk
  unfold es.setLast at hk ⊢
  simp only [List.length_set] at hk
  by_cases e : s.params.length - 1 = k
  · subst e
    simp only [List.getD, List.getElem?_set_self hk, Option.getD_some]
    unfold es.digit
    omega
  · simp only [List.getD, List.getElem?_set_ne e]
    exact h.nums k hk
theorem es.Good.addNumber {s : es.St} (h : es.Good s) (b : UInt8) (hb : 48 ≤ b.toNat) : es.Good (es.addNumber s b) := by
  unfold es.addNumber
  have h1 : es.Good (if s.params.length = 0 then es.nextNumber s else s) := by
    split
    · exact h.next
    · exact h
  split
  · exact h1.next
  · exact h1.setLast b hb
theorem es.Good.addParam {s : es.St} (h : es.Good s) (b : UInt8) (hb : 48 ≤ b.toNat) : es.Good (es.addParam s b) := by
  unfold es.addParam
  split
  · exact ⟨h.st, h.inter, h.parl, h.nums⟩
  split
  · exact h.addNumber b hb
  split <;> exact ⟨h.st, h.inter, h.parl, h.nums⟩
theorem es.Good.inEscape {s : es.St} (h : es.Good s) (b : UInt8) : es.Good (es.inEscape s b).1 := by
  unfold es.inEscape
  split
  · exact h.command b
  split
  · exact h.addInter b
  split
  · exact es.Good.zero
  split
  · exact ⟨by simp, h.inter, h.parl, h.nums⟩
  split
  · exact ⟨by simp, h.inter, h.parl, h.nums⟩
  · exact es.Good.zero
theorem es.Good.byte {s : es.St} (h : es.Good s) (b : UInt8) : es.Good (es.byte s b).1 := by
  unfold es.byte
  split
  · exact h.inEscape b
  split
  · unfold es.inControl
    split
    · exact h.command b
    split
    · exact h.addInter b
    split
    · exact h.addParam b (by omega)
    split
    · exact es.Good.zero
    · exact es.Good.zero
  split
  · unfold es.inString
    split
    · exact es.Good.zero
    split
    · exact ⟨by simp, h.inter, h.parl, h.nums⟩
    split
    · exact es.Good.zero
    split
    · unfold es.addText
      split <;> exact ⟨h.st, h.inter, h.parl, h.nums⟩
    · exact h
  split
  · unfold es.inClosing
    split
    · exact es.Good.zero
    · exact es.Good.one.inEscape b
  · unfold es.inGround
    split
    · exact ⟨h.st, h.inter, h.parl, h.nums⟩
    · exact es.Good.command (s := { s with wait := [] }) ⟨h.st, h.inter, h.parl, h.nums⟩ b
end Go.Proofs.YtgkodjkhhmcnnaaDoor
namespace Go.Proofs.YtgkodjkhhmcnnaaDoor
open Go.RowKit

theorem byte_any (p B : Nat) (s : es.St) (cur : Array Value) (V : Value) (l : List es.Act) (b : UInt8) (w : World) (h : PsAt w p s cur) (ha : ActsAt w B V l) (hl : l.length ≤ 1099511627000) (hpB : p < B) (hBw : B ≤ w.heap.size) (ht : UTabs w) (hg : es.Good s) :
    Calls Tryd.prog (stepOf s.state) #[.pointer (some ⟨p, 0, none⟩), V, .int .u8 b.toNat] w fun e w' => ∃ V', e = .returned V' ∧ ActsAt w' B V' (l ++ (es.byte s b).2) ∧ (∃ cur', PsAt w' p (es.byte s b).1 cur') ∧ Kept w w' (Fr p B) := by
  have hl' : l.length ≤ 1099511627776 := by omega
  unfold es.byte stepOf
  by_cases h1 : s.state = 1
  · rw [if_pos h1, if_pos h1]; exact inEscape_any p B s cur V l b w h ha hl' hpB hBw hg.inter
  rw [if_neg h1, if_neg h1]
  by_cases h2 : s.state = 2
  · rw [if_pos h2, if_pos h2]; exact inControl_any p B s cur V l b w h ha hl' hpB hBw hg.inter hg.nums
  rw [if_neg h2, if_neg h2]
  by_cases h3 : s.state = 3
  · rw [if_pos h3, if_pos h3]; exact inString_any p B s cur V l b w h ha hl' hpB hBw
  rw [if_neg h3, if_neg h3]
  by_cases h4 : s.state = 4
  · rw [if_pos h4, if_pos h4]; exact inClosing_any p B s cur V l b w h ha hl' hpB hBw
  rw [if_neg h4, if_neg h4]
  refine inGround_any p B s cur V l b w h ha hl hpB hBw ht ?_
  have := gl.read_len (s.wait ++ [b]).length (s.wait ++ [b]) (Nat.le_refl _)
  have hf := h.is.few
  simp only [List.length_append, List.length_cons, List.length_nil] at this
  unfold gl.read
  simp only [List.length_append, List.length_cons, List.length_nil]
  omega
theorem es.command_len (s : es.St) (b : UInt8) : (es.command s b).2.length ≤ 1 := by
  unfold es.command
  split
  · simp
  split
  · simp
  split <;> simp
theorem es.say_len (s : es.St) (a : es.Act) : (es.say s a).2.length ≤ 1 := by
  unfold es.say
  split <;> simp
theorem es.inEscape_len (s : es.St) (b : UInt8) : (es.inEscape s b).2.length ≤ 1 := by
  unfold es.inEscape
  split
  · exact es.command_len s b
  split
  · simp
  split
  · simp
  split
  · simp
  split
  · simp
  · exact es.say_len _ _
theorem es.byte_len (s : es.St) (b : UInt8) (hw : s.wait.length ≤ 3) : (es.byte s b).2.length ≤ 4 := by
  unfold es.byte
  split
  · have := es.inEscape_len s b; omega
  split
  · unfold es.inControl
    split
    · have := es.command_len s b; omega
    split
    · simp
    split
    · simp
    split
    · have := es.say_len s (es.csi s b); omega
    · simp
  split
  · unfold es.inString
    split
    · have := es.say_len s (es.str s); omega
    split
    · simp
    split
    · simp
    split <;> simp
  split
  · unfold es.inClosing
    split
    · have := es.say_len s (es.str s); omega
    · have := es.inEscape_len { state := 1 } b; omega
  · unfold es.inGround
    split
    · have := gl.read_len (s.wait ++ [b]).length (s.wait ++ [b]) (Nat.le_refl _)
      simp only [List.length_append, List.length_cons, List.length_nil, List.length_map] at this ⊢
      unfold gl.read
      simp only [List.length_append, List.length_cons, List.length_nil]
      omega
    · have := es.command_len { s with wait := [] } b
      simp only [List.length_append, List.length_replicate]
      omega
end Go.Proofs.YtgkodjkhhmcnnaaDoor
namespace Go.Proofs.YtgkodjkhhmcnnaaDoor
open Go.RowKit

theorem UTabs.kept {w w' : World} (h : UTabs w) {S : Nat → Prop} (hk : Kept w w' S) (h1 : ¬ S 3) (h2 : ¬ S 4) : UTabs w' :=
  ⟨fun c hc => hk.cell (h.1 c hc) h1, fun i hi => ⟨hk.cell (h.2 i hi).1 h2, hk.cell (h.2 i hi).2 h2⟩⟩
theorem PsAt.tabs {w : World} {p : Nat} {s : es.St} {cur : Array Value} (h : PsAt w p s cur) (ht : UTabs w) : p ≠ 3 ∧ p ≠ 4 := by
  have c0 : w.cell? ⟨p, 0, none⟩ = some (.int .i64 s.state) := (h.c 0).trans h.is.st
  refine ⟨fun e => ?_, fun e => ?_⟩
  · have := ht.1 0 (by decide)
    rw [← e, c0] at this
    simp at this
  · have := (show w.cell? ⟨4, 0, none⟩ = some (.int .u8 (Lib.accLo 0)) from (ht.2 0 (by decide)).1)
    rw [← e, c0] at this
    simp at this
theorem es.feed_snoc (s : es.St) (l : List UInt8) (c : UInt8) : es.feed s (l ++ [c]) = ((es.byte (es.feed s l).1 c).1, (es.feed s l).2 ++ (es.byte (es.feed s l).1 c).2) := by
  rw [es.feed_append]
  simp [es.feed]
/-- what holds behind k bytes -/
structure FeedIn (w : World) (p B : Nat) (s : es.St) (o : Option Addr) (n cap : Nat) (bs : List UInt8) (k : Nat) (V : Value) (wr : World) : Prop where
  ps : ∃ cur, PsAt wr p (es.feed s (bs.take k)).1 cur
  good : es.Good (es.feed s (bs.take k)).1
  acts : ActsAt wr B V (es.feed s (bs.take k)).2
  kept : Kept w wr (Fr p B)
  bts : Bts wr o n cap bs
  tabs : UTabs wr
  len : (es.feed s (bs.take k)).2.length ≤ 4 * k
theorem FeedIn.next {w wr w' : World} {p B : Nat} {s : es.St} {o : Option Addr} {n cap : Nat} {bs : List UInt8} {k : Nat} {V V' : Value} (h : FeedIn w p B s o n cap bs k V wr) (hk : k < bs.length) (hop : ∀ d, o = some d → d.block ≠ p ∧ d.block < B) (ht : 3 < B ∧ 4 < B)
    (r1 : ActsAt w' B V' ((es.feed s (bs.take k)).2 ++ (es.byte (es.feed s (bs.take k)).1 bs[k]).2)) (r2 : ∃ cur', PsAt w' p (es.byte (es.feed s (bs.take k)).1 bs[k]).1 cur') (r3 : Kept wr w' (Fr p B)) : FeedIn w p B s o n cap bs (k + 1) V' w' := by
  obtain ⟨cur, hps⟩ := h.ps
  have hpt := hps.tabs h.tabs
  have e : bs.take (k + 1) = bs.take k ++ [bs[k]] := by rw [List.take_add_one, List.getElem?_eq_getElem hk]; rfl
  have hbl := es.byte_len (es.feed s (bs.take k)).1 bs[k] hps.is.few
  have hl := h.len
  constructor
  · rw [e, es.feed_snoc]; exact r2
  · rw [e, es.feed_snoc]; exact h.good.byte _
  · rw [e, es.feed_snoc]; exact r1
  · exact h.kept.fr_trans r3
  · refine h.bts.same (fun g hg off ho => r3.block g hg (fun e' => ?_)) r3.size
    have := hop _ ho
    rcases e' with e' | e'
    · exact this.1 e'
    · have := this.2; simp at this; omega
  · refine h.tabs.kept r3 (fun e' => ?_) (fun e' => ?_)
    · rcases e' with e' | e'
      · exact hpt.1 e'.symm
      · omega
    · rcases e' with e' | e'
      · exact hpt.2 e'.symm
      · omega
  · rw [e, es.feed_snoc, List.length_append]; omega
set_option maxRecDepth 100000 in
set_option maxHeartbeats 1600000 in
theorem feedP_any (p : Nat) (s : es.St) (cur : Array Value) (o : Option Addr) (n cap : Nat) (bs : List UInt8) (w : World) (h : PsAt w p s cur) (hg : es.Good s) (hx : Bts w o n cap bs) (hop : n ≠ 0 → ∀ d, o = some d → d.block ≠ p ∧ d.block < w.heap.size) (ht : UTabs w) (hn : n ≤ 137438953472) :
    Calls Tryd.prog 6 #[.pointer (some ⟨p, 0, none⟩), .slice o n cap] w fun e w' => ∃ V, e = .returned V ∧ ActsAt w' w.heap.size V (es.feed s bs).2 ∧ (∃ cur', PsAt w' p (es.feed s bs).1 cur') ∧ es.Good (es.feed s bs).1 ∧ Kept w w' (Fr p w.heap.size) := by
  have hlen := hx.size
  have hpw := h.lt
  have HT := Lib.hid ht.lt
  have HI : Hid (FeedIn w p w.heap.size s o n cap bs 0 (.slice none 0 0) w) := Lib.hid ⟨⟨_, h⟩, hg, ActsAt.nil _ _, Kept.refl _ _, hx, ht, Nat.le_refl _⟩
  have HOP := Lib.hid hop
  clear h hg hx ht hop
  generalize hB : w.heap.size = B at *
  go_enter Tryd.func6, Tryd.ntmps6
  go_wp2_with fail
  go_loopg [5, 10] n (fun gg s5 s10 wr => ∃ k : Nat, s10 = .int .i64 k ∧ k ≤ n ∧ n - k ≤ gg ∧ Hid (FeedIn w p B s o n cap bs k s5 wr))
  case atStart => exact ⟨0, rfl, Nat.zero_le _, by omega, HI⟩
  case round =>
    obtain ⟨k, rfl, hkn, hgg, HF⟩ := hrel
    clear HI
    by_cases hlt : k < n
    · have hki : (k : Int) < (n : Int) := by omega
      have hk0 : (0 : Int) ≤ (k : Int) := by omega
      have hkb : k < bs.length := by omega
      obtain ⟨b, off, rfl, hbl, hc⟩ := HF.out.bts.byte (by omega)
      have hck : wr.cell? ⟨b, off + k, none⟩ = some (.int .u8 (bs[k].toNat : Nat)) := by rw [hc k hlt]; simp [gl.b, List.getD, hkb]
      obtain ⟨cur1, hps⟩ := HF.out.ps
      have hst : wr.cell? ⟨p, 0, none⟩ = some (.int .i64 (es.feed s (bs.take k)).1.state) := (hps.c 0).trans hps.is.st
      have HS := Lib.hid (fun W => steps_any (es.feed s (bs.take k)).1.state W HF.out.good.st)
      have HBY := Lib.hid (byte_any p B (es.feed s (bs.take k)).1 cur1 _ _ bs[k] wr hps HF.out.acts (by have := HF.out.len; omega) hpw (by rw [← hB]; exact HF.out.kept.size) HF.out.tabs HF.out.good)
      have HN := Lib.hid (fun V' w' => HF.out.next (w' := w') (V' := V') hkb (HOP.out (by omega)) HT.out)
      have hst4 := HF.out.good.st
      generalize hbk : bs[k] = c at *
      generalize (es.feed s (bs.take k)).1.state = st at *
      clear hc hps HF
      have q0 : stepOf 0 = 34 := rfl
      have q1 : stepOf 1 = 30 := rfl
      have q2 : stepOf 2 = 31 := rfl
      have q3 : stepOf 3 = 32 := rfl
      have q4 : stepOf 4 = 33 := rfl
      obtain rfl | rfl | rfl | rfl | rfl : st = 0 ∨ st = 1 ∨ st = 2 ∨ st = 3 ∨ st = 4 := by omega
      all_goals
        go_wp2_with fail
        refine (HS.out wr).mono ?_
        rintro e w1 ⟨rfl, rfl⟩
        go_wp2_with fail
        refine HBY.out.mono ?_
        rintro e w2 ⟨V', rfl, r1, r2, r3⟩
        have HX := Lib.hid (HN.out V' w2 r1 r2 r3)
        clear r1 r2 r3
        go_wp2_with fail
        go_roundg (n - (k + 1))
        case measure => omega
        case rel => exact ⟨k + 1, by go_num, by omega, Nat.le_refl _, HX⟩
    · obtain rfl : k = n := by omega
      go_wp2_with fail
      go_ret
      have hF := HF.out
      have e : bs.take k = bs := by rw [← hlen, List.take_length]
      have h1 := hF.acts; have h2 := hF.ps; have h3 := hF.good
      rw [e] at h1 h2 h3
      exact ⟨_, rfl, h1, h2, h3, hF.kept⟩
end Go.Proofs.YtgkodjkhhmcnnaaDoor
