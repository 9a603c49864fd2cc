/- Text, and strings, fed; no Go. The walk of EscText. -/
import Derived.Test.YtijfpfkmfibjjaaDoorEscMath
import Derived.Test.YtijfpfkmfibjjaaDoorGlReadM
import Derived.Test.YtijfpfkmfibjjaaDoorEscRow
import Derived.Test.YtijfpfkmfibjjaaDoorGlSlh
import Derived.Test.YtijfpfkmfibjjaaDoorGlRefRunes
import Derived.Deep.DeepCutAuto
namespace Go.Proofs.YtijfpfkmfibjjaaDoor.es
open Go.Proofs.YtijfpfkmfibjjaaDoor

def plain (l : List UInt8) : List UInt8 := l.filter isText
theorem plain_text (l : List UInt8) : ∀ b ∈ plain l, isText b = true := fun _ hb => (List.mem_filter.1 hb).2
theorem plain_len (l : List UInt8) : (plain l).length ≤ l.length := List.length_filter_le _ _
theorem plain_succ (l : List UInt8) (k : Nat) (hk : k < l.length) : plain (l.take (k + 1)) = if isText l[k] then plain (l.take k) ++ [l[k]] else plain (l.take k) := by
  unfold plain
  rw [List.take_add_one, List.getElem?_eq_getElem hk, List.filter_append]
  cases h : isText l[k] <;> simp [h]
theorem feed_text : ∀ (l q : List UInt8), (∀ b ∈ l, isText b = true) → gl.read q = ([], q) → feed { wait := q } l = ({ wait := (gl.read (q ++ l)).2 }, (gl.read (q ++ l)).1.map print)
  | [], q, _, h => by rw [List.append_nil, h]; rfl
  | b :: l, q, hl, h => by
    have hb : byte { wait := q } b = ({ wait := (gl.read (q ++ [b])).2 }, (gl.read (q ++ [b])).1.map print) := by
      unfold byte
      rw [if_neg (by simp), if_neg (by simp), if_neg (by simp), if_neg (by simp)]
      unfold inGround
      rw [if_pos (hl b (by simp))]
    have hq := gl.read_stop (gl.read_rest _ (q ++ [b]) (Nat.le_refl _))
    have ih := feed_text l (gl.read (q ++ [b])).2 (fun c hc => hl c (by simp [hc])) hq
    have ha := gl.read_append _ (q ++ [b]) l (Nat.le_refl _)
    rw [List.append_assoc, List.singleton_append] at ha
    simp only [feed, hb, ih, ha, List.map_append]
theorem feed_text24 (l : List UInt8) (hl : ∀ b ∈ l, isText b = true) : feed {} (l ++ [24]) = ({}, (gl.runes l).map print) := by
  have h := feed_text l [] hl rfl
  rw [List.nil_append] at h
  have hb : ∀ q, byte { wait := q } 24 = ({}, List.replicate q.length (print 65533)) := by
    intro q
    unfold byte
    rw [if_neg (by simp), if_neg (by simp), if_neg (by simp), if_neg (by simp)]
    unfold inGround
    rw [if_neg (by decide)]
    show (_, _ ++ []) = _
    rw [List.append_nil]
    rfl
  rw [feed_append, show feed ({} : St) l = _ from h]
  simp [feed, hb, gl.runes]
theorem feed_txt (f : Nat) : ∀ (l t : List UInt8), (∀ b ∈ l, isText b = true) → t.length ≤ 256 → feed { state := 3, final := f, text := t } l = ({ state := 3, final := f, text := (t ++ l).take 256 }, [])
  | [], t, _, ht => by rw [List.append_nil, List.take_of_length_le ht]; rfl
  | b :: l, t, hl, ht => by
    have hb := hl b (by simp)
    simp only [isText, decide_eq_true_eq] at hb
    have h1 : byte { state := 3, final := f, text := t } b = (addText { state := 3, final := f, text := t } b, []) := by
      unfold byte
      rw [if_neg (by simp), if_neg (by simp), if_pos rfl]
      unfold inString
      rw [if_neg (by omega), if_neg (by omega), if_neg (by omega), if_pos hb.1]
    have hl' : ∀ c ∈ l, isText c = true := fun c hc => hl c (by simp [hc])
    by_cases h : t.length < 256
    · have ha : addText { state := 3, final := f, text := t } b = { state := 3, final := f, text := t ++ [b] } := by unfold addText; rw [if_pos h]
      have ih := feed_txt f l (t ++ [b]) hl' (by simp; omega)
      simp only [feed, h1, ha, ih, List.append_assoc, List.singleton_append, List.nil_append]
    · have ha : addText { state := 3, final := f, text := t } b = { state := 3, final := f, text := t } := by unfold addText; rw [if_neg h]
      have ih := feed_txt f l t hl' ht
      have e : t.length = 256 := by omega
      rw [List.take_append_of_le_length (by omega)] at ih
      simp only [feed, h1, ha, ih, List.nil_append]
      rw [List.take_append_of_le_length (by omega)]
theorem feed_str (sg : UInt8) (hs : beginsString sg = true) (l : List UInt8) (hl : ∀ b ∈ l, isText b = true) : feed {} ([27, sg] ++ l ++ [27, 92]) = ({}, [{ kind := 5, final := sg.toNat, text := l.take 256 }]) := by
  have h27 : byte {} 27 = ({ state := 1 }, []) := rfl
  have hsg : byte { state := 1 } sg = ({ state := 3, final := sg.toNat }, []) := by
    have hs' := hs
    simp only [beginsString, decide_eq_true_eq] at hs'
    unfold byte
    rw [if_pos rfl]
    unfold inEscape
    rw [if_neg (by simp [isText]; omega), if_neg (by omega), if_neg (by omega), if_neg (by simp; omega), if_pos ⟨rfl, hs⟩]
  have h1 : feed {} [27, sg] = ({ state := 3, final := sg.toNat }, []) := by simp [feed, h27, hsg]
  have h2 := feed_txt sg.toNat l [] hl (by simp)
  rw [List.nil_append] at h2
  have h3 : feed { state := 3, final := sg.toNat, text := l.take 256 } [27, 92] = ({}, [{ kind := 5, final := sg.toNat, text := l.take 256 }]) := rfl
  rw [feed_append, feed_append, h1, h2]
  simp only [h3]
  simp
/-- the signs of strings -/
def sign5 (m : Nat) : UInt8 := [93, 80, 88, 94, 95].getD m 93
theorem sign5_ok (m : Nat) (h : m < 5) : beginsString (sign5 m) = true := by
  obtain rfl | rfl | rfl | rfl | rfl : m = 0 ∨ m = 1 ∨ m = 2 ∨ m = 3 ∨ m = 4 := by omega
  all_goals decide
end Go.Proofs.YtijfpfkmfibjjaaDoor.es
namespace Go.Proofs.YtijfpfkmfibjjaaDoor
open Go.RowKit

/-- where the first loop stands -/
structure TI (w wr : World) (V : Value) (l : List UInt8) : Prop where
  row : RowB wr w.heap.size V l
  bel : Below w.heap.size w wr
/-- a row's bytes as a text -/
theorem conv_row {w : World} {o : Option Addr} {n c : Nat} {l : List UInt8} (h : Bts w o n c l) (m : Nat) (hm : m ≤ n) : (convert 34 9 (.slice o m c)).run Tryd.prog w = .ok (.string ⟨(l.take m).toArray⟩) w := by
  have hl := h.size
  have hlt : (l.take m).length = m := by rw [List.length_take]; omega
  have key : ∀ a, (∀ j, j < m → w.cell? (a.add j) = some (.int .u8 ((l.take m).getD j 0).toNat)) → (convert 34 9 (.slice (some a) m c)).run Tryd.prog w = .ok (.string ⟨(l.take m).toArray⟩) w := fun a ha => by
    have := run_convert_bytes_back (P := Tryd.prog) w 34 9 5 a c (l.take m) Tryd.underlying34 Tryd.underlying5 Tryd.underlying9 (fun j hj => by
      rw [ha j (by omega)]
      simp only [List.getD, List.getElem?_eq_getElem hj, Option.getD_some])
    rwa [hlt] at this
  by_cases h0 : m = 0
  · subst h0
    cases o with
    | none => exact run_convert_bytes_nil w 34 5 Tryd.underlying34 Tryd.underlying5 0 c 9 Tryd.underlying9
    | some a => exact key a (fun j hj => by omega)
  · obtain ⟨b, off, rfl, hb, hc⟩ := h.byte (by omega)
    refine key _ (fun j hj => ?_)
    rw [show (⟨b, off, none⟩ : Addr).add j = ⟨b, off + j, none⟩ by unfold Addr.add; split <;> simp_all, hc j (by omega)]
    simp [gl.b, List.getD, hj]
set_option maxRecDepth 100000 in
set_option maxHeartbeats 6400000 in
theorem text_any (o : Option Addr) (n cap : Nat) (l : List UInt8) (which : Int) (w : World) (ht : UTabs w ∧ PTab w) (hx : Bts w o n cap l) (_hi : I64 which) (hn : n ≤ 1048576) :
    Calls Tryd.prog 7 #[.slice o n cap, .int .i64 which] w fun e w' => e = .returned (.bool true) ∧ Below w.heap.size w w' := by
  obtain ⟨i0, hi, hz0, hz1, hz2⟩ := info_parts infoB
  have HA := Lib.hid (alive_any w ht.1 ht.2)
  have hmx : cap ≤ 9223372036854775807 := hx.max
  have hle := hx.le
  have hsz := hx.size
  have HX := Lib.hid hx; have HT := Lib.hid ht.1
  clear hx ht _hi
  go_enter Tryd.func7, Tryd.ntmps7
  go_wp2_with fail
  refine HA.out.mono ?_
  rintro e w1 ⟨rfl, hb1⟩
  have H0 : Hid (TI w (w1.alloc (.cells #[] 5)) (.slice (some ⟨w1.heap.size, 0, none⟩) 0 0) []) := Lib.hid
    ⟨⟨rfl, .inr ⟨w1.heap.size, 0, #[], rfl, hb1.size, heap_alloc_new _ _, Nat.le_refl _, by unfold maxLen; omega, rfl, rfl⟩⟩, hb1.alloc hb1.size _⟩
  clear HA hb1
  go_wp2_with fail
  go_loopg [5, 20] n (fun gg s5 s20 wr => ∃ (k : Nat) (V : Value), V = s5 ∧ s20 = .int .i64 k ∧ k ≤ n ∧ n - k ≤ gg ∧ Hid (TI w wr V (es.plain (l.take k))))
  case atStart => exact ⟨0, _, rfl, rfl, Nat.zero_le _, by omega, H0⟩
  case round =>
    clear H0
    obtain ⟨k, V, rfl, rfl, hk, hgg, HS⟩ := hrel
    have hs1 : w.heap.size ≤ wr.heap.size := HS.out.bel.size
    have hpl : (es.plain (l.take k)).length ≤ k := by have := es.plain_len (l.take k); rw [List.length_take] at this; omega
    by_cases hlt : k < n
    · obtain ⟨b, off, rfl, hbl, hc⟩ := Bts.byte (HX.out.below HS.out.bel) (by omega)
      have hkl : k < l.length := by omega
      have hck : wr.cell? ⟨b, off + k, none⟩ = some (.int .u8 (l[k].toNat : Nat)) := by rw [hc k hlt]; simp [gl.b, List.getD, hkl]
      have hsucc := es.plain_succ l k hkl
      generalize l[k] = c at *
      have HSU := Lib.hid hsucc
      clear hsucc hc
      have hc256 := c.toNat_lt
      by_cases h32 : 32 ≤ c.toNat
      · have h32i : (32 : Int) ≤ ((c.toNat : Nat) : Int) := by omega
        by_cases h127 : c.toNat = 127
        · have e1 : (((c.toNat : Nat) : Int) == 127) = true := by simp [h127]
          have e2 : (((c.toNat : Nat) : Int) != 127) = false := by simp [h127]
          have HN : Hid (es.plain (l.take (k + 1)) = es.plain (l.take k)) := Lib.hid (by rw [HSU.out, if_neg (by simp [es.isText, h127])])
          clear h127 HSU h32
          go_wp2_with fail
          go_roundg (n - (k + 1))
          case measure => omega
          case rel => exact ⟨k + 1, _, rfl, by go_num, by omega, Nat.le_refl _, by rw [HN.out]; exact HS⟩
        · have e1 : (((c.toNat : Nat) : Int) == 127) = false := by simp; omega
          have e2 : (((c.toNat : Nat) : Int) != 127) = true := by simp; omega
          have HN : Hid (es.plain (l.take (k + 1)) = es.plain (l.take k) ++ [c]) := Lib.hid (by rw [HSU.out, if_pos (by simp [es.isText, h127, h32])])
          clear h127 HSU h32
          generalize es.plain (l.take k) = P at *
          have HRA := Lib.hid (HS.out.row.below (below_one wr (.cells #[.int .u8 c.toNat] 5)))
          go_wp2_with (at_builtin; refine wpList_append_nums (K := .u8) rfl _ _ 34 rfl w.heap.size 5 i0 (Value.int .u8 0) 1 Tryd.underlying34 hi hz0 hz1 hz2 (by decide) rfl V P.length (u8s P) rfl HRA.out (some ⟨wr.heap.size, 0, none⟩) 1 1 [(c.toNat : Int)] rfl (nums_one _ _ _) (by omega) (by simp; omega) (fun v' w' r1 r2 r3 => ?_); have HR1 : Hid (TI w w' v' (P ++ [c])) := Lib.hid ⟨rowB_append (m := [c]) (by simpa [u8s] using r1), HS.out.bel.trans (((Below.refl w.heap.size wr).alloc hs1 (.cells #[.int .u8 c.toNat] 5)).trans ((Below.refl w.heap.size _).grown r2 (by simp; omega) (fun g hg => (HRA.out.lt g hg).1)))⟩; clear r1 r2 r3; clear HRA)
          go_roundg (n - (k + 1))
          case measure => omega
          case rel => exact ⟨k + 1, _, rfl, by go_num, by omega, Nat.le_refl _, by rw [HN.out]; exact HR1⟩
      · have h32i : ¬ (32 : Int) ≤ ((c.toNat : Nat) : Int) := by omega
        have HN : Hid (es.plain (l.take (k + 1)) = es.plain (l.take k)) := Lib.hid (by rw [HSU.out, if_neg (by simp [es.isText]; omega)])
        clear HSU h32
        go_wp2_with fail
        go_roundg (n - (k + 1))
        case measure => omega
        case rel => exact ⟨k + 1, _, rfl, by go_num, by omega, Nat.le_refl _, by rw [HN.out]; exact HS⟩
    · obtain rfl : k = n := by omega
      have hPt := es.plain_text (l.take k)
      have hplk : (es.plain (l.take k)).length ≤ 1048576 := by omega
      generalize es.plain (l.take k) = P at *
      obtain ⟨po, pc, rfl, hPO⟩ := Own.of (K := .u8) HS.out.row
      have hPB : Bts wr po P.length pc P := hPO.nums
      have hop := OP.start (Below.refl wr.heap.size wr) (HT.out.step HS.out.bel)
      have HPB := Lib.hid hPB; have HOP0 := Lib.hid hop; have HPT := Lib.hid hPt
      have HTW := Lib.hid (HT.out.step HS.out.bel); have HWR := Lib.hid HS.out.bel
      have HR0 : Hid (RP wr ((wr.alloc (.cells Tryd.zeroCells33 33)).alloc (.cells #[] 5)) wr.heap.size {} (.slice (some ⟨wr.heap.size + 1, 0, none⟩) 0 0) []) := Lib.hid
        ⟨⟨rfl, .inr ⟨wr.heap.size + 1, 0, #[], rfl, by omega, by have := heap_alloc_new (wr.alloc (.cells Tryd.zeroCells33 33)) (.cells #[] 5); simpa using this, Nat.le_refl _, by unfold maxLen; omega, rfl, rfl⟩⟩, fun e => by simp [Value.ownBlock] at e, hop.step (below_one _ _)⟩
      have HB0 : Hid (Bts ((wr.alloc (.cells Tryd.zeroCells33 33)).alloc (.cells #[] 5)) po P.length pc P) := Lib.hid (hPB.below HR0.out.op.bel)
      clear hPB hop hPt hPO HS HX hpl HOP0
      generalize hPn : P.length = pn at *
      have HPN := Lib.hid hPn
      clear hPn
      go_wp2_with (at_builtin; refine wpList_rp rfl _ _ rfl wr _ wr.heap.size {} (.slice (some ⟨wr.heap.size + 1, 0, none⟩) 0 0) [] rfl HR0.out HTW.out po pn pc P rfl HB0.out (by simp; omega) ?_)
      intro v2 w2 r2
      have HR2 : Hid (RP wr w2 wr.heap.size {} v2 P) := Lib.hid (by simpa using r2)
      have HRA := Lib.hid (HR2.out.step (below_one w2 (.cells #[.int .u8 24] 5)))
      have HBA : Hid (Bts (w2.alloc (.cells #[.int .u8 24] 5)) (some ⟨w2.heap.size, 0, none⟩) 1 1 [24]) := Lib.hid (nums_one _ _ _)
      clear r2 HR0 HB0 HR2
      go_wp2_with (at_builtin; refine wpList_rp rfl _ _ rfl wr _ wr.heap.size {} v2 P rfl HRA.out HTW.out (some ⟨w2.heap.size, 0, none⟩) 1 1 [24] rfl HBA.out (by rw [HPN.out]; omega) ?_)
      intro v3 w3 r3
      have HR3 : Hid (RP wr w3 wr.heap.size {} v3 (P ++ [24])) := Lib.hid (by simpa using r3)
      obtain ⟨o3, c3, hv3, hF3⟩ := HR3.out.feed (pn + 1) (by rw [List.length_append, HPN.out]; rfl) (by omega)
      subst hv3
      rw [es.feed_text24 P HPT.out, List.length_map] at hF3
      have HF := Lib.hid hF3
      clear r3 hF3 HR3 HRA HBA
      go_wp2_with fail
      refine HF.out.mono ?_
      rintro e w4 ⟨ro4, rc4, rfl, hI4, hop4⟩
      have HI4 := Lib.hid hI4; have HOP := Lib.hid hop4
      have HRU := Lib.hid (refRunes_any po pn pc P w4 (HPB.out.below hop4.bel) (by omega))
      clear hI4 hop4 HF
      go_wp2_with fail
      refine HRU.out.mono ?_
      rintro e w5 ⟨so, sm, sc, rfl, hO5, hb5⟩
      have hsm := hO5.len
      rw [hsm] at HI4
      have hI5 := HI4.out.below hb5
      have HOP5 := Lib.hid (HOP.out.step hb5)
      have hm1 : sc ≤ 9223372036854775807 := hO5.nums.max
      have hm2 : sm ≤ sc := hO5.nums.le
      have hm3 : rc4 ≤ 9223372036854775807 := hI5.max
      have hm4 : sm ≤ rc4 := hI5.le
      have HI5 := Lib.hid hI5; have HN5 := Lib.hid hO5.nums
      rw [hsm]
      clear hO5 hb5 HRU HI4 HOP hI5
      generalize gl.runes P = R at *
      go_wp2_with fail
      have hwh := i64_and1023 which
      obtain ⟨m0, hm0⟩ : ∃ m0 : Nat, which % 1024 = (m0 : Int) := ⟨(which % 1024).toNat, by omega⟩
      rw [hm0] at hwh
      have hrem : Int.tmod (m0 : Int) 5 = ((m0 % 5 : Nat) : Int) := by rw [Int.tmod_eq_emod_of_nonneg (by omega)]; rfl
      have hm5 : m0 % 5 < 5 := Nat.mod_lt _ (by omega)
      clear hm0
      generalize m0 % 5 = m at *
      generalize wr = wb at *
      go_loopg [50] sm (fun gg s50 wx => ∃ j q : Nat, s50 = .int .i64 j ∧ j ≤ sm ∧ sm - j ≤ gg ∧ Hid (wx = w5.drewN q))
      case atStart => exact ⟨0, 0, rfl, Nat.zero_le _, by omega, Lib.hid rfl⟩
      case round =>
        obtain ⟨j, q, rfl, hj, hgg2, HW⟩ := hrel
        by_cases hlt2 : j < sm
        · obtain ⟨b6, p6, q6, rfl, hb6, h7, _⟩ := HI5.out.at_ j hlt2
          obtain ⟨b7, off7, rfl, hb7, hc7⟩ := HN5.out.cell hlt2
          have hjR : j < R.length := by omega
          have hac : (R.map es.print).getD j es.act0 = es.print (R.getD j 0) := by simp [List.getD, hjR]
          rw [hac] at h7
          obtain ⟨a0, a1, _, _, _, _, _⟩ := cells7 h7
          generalize R.getD j 0 = r at *
          have a0' : (w5.drewN q).cell? ⟨b6, j * 7, none⟩ = some (.int .i64 1) := a0
          have a1' : (w5.drewN q).cell? ⟨b6, j * 7 + 1, none⟩ = some (.int .i32 r) := a1
          have a2' : (w5.drewN q).cell? ⟨b7, off7 + j, none⟩ = some (.int .i32 r) := hc7
          rw [← HW.out] at a0' a1' a2'
          have hji : (j : Int) < (sm : Int) := by omega
          clear h7 a0 a1 hc7 hac
          go_wp2_with fail
          go_quiet (fail)
          go_wp2_with fail
          go_roundg (sm - (j + 1))
          case measure => omega
          case rel => exact ⟨j + 1, q + nq, by go_num, by omega, Nat.le_refl _, Lib.hid (by rw [HW.out, World.drewN_drewN])⟩
        · obtain rfl : j = sm := by omega
          have HOP6 : Hid (OP wb wr wb.heap.size {}) := Lib.hid (by rw [HW.out]; exact HOP5.out.step (below_drewN (Below.refl _ _) q))
          clear HOP5 HI5 HN5 HW
          have hm5i : (m : Int) < 5 := by omega
          have hsz5 : (ByteArray.mk #[93, 80, 88, 94, 95]).size = 5 := rfl
          have hsg : es.beginsString ((ByteArray.mk #[93, 80, 88, 94, 95])[m]'(by rw [hsz5]; exact hm5)) = true := by
            clear hrem hm5i
            obtain rfl | rfl | rfl | rfl | rfl : m = 0 ∨ m = 1 ∨ m = 2 ∨ m = 3 ∨ m = 4 := by omega
            all_goals rfl
          go_upto_region 22 with fail

          generalize (ByteArray.mk #[93, 80, 88, 94, 95])[m]'(by rw [hsz5]; exact hm5) = sg at *
          have HFS := Lib.hid (es.feed_str sg hsg P HPT.out)
          have HR0 : Hid (RP wb (wr.alloc (.cells #[.int .u8 27, .int .u8 sg.toNat] 5)) wb.heap.size {} (.slice (some ⟨wr.heap.size, 0, none⟩) 2 2) [27, sg]) := Lib.hid
            ⟨⟨rfl, .inr ⟨wr.heap.size, 2, #[.int .u8 27, .int .u8 sg.toNat], rfl, HOP6.out.bel.size, heap_alloc_new _ _, Nat.le_refl _, by unfold maxLen; omega, rfl, rfl⟩⟩, fun e => by have := HOP6.out.ps.lt; simp [Value.ownBlock] at e; omega, HOP6.out.step (below_one _ _)⟩
          have HB0 : Hid (Bts (wr.alloc (.cells #[.int .u8 27, .int .u8 sg.toNat] 5)) po pn pc P) := Lib.hid (HPB.out.below HR0.out.op.bel)
          clear hsg HOP6
          go_wp2_with (at_builtin; refine wpList_rp rfl _ _ rfl wb _ wb.heap.size {} (.slice (some ⟨wr.heap.size, 0, none⟩) 2 2) [27, sg] rfl HR0.out HTW.out po pn pc P rfl HB0.out (by simp; omega) ?_)
          intro v7 w7 r7
          have HR7 : Hid (RP wb w7 wb.heap.size {} v7 ([27, sg] ++ P)) := Lib.hid (by simpa using r7)
          have HRA := Lib.hid (HR7.out.step (below_one w7 (.cells #[.int .u8 27, .int .u8 92] 5)))
          have HBA : Hid (Bts (w7.alloc (.cells #[.int .u8 27, .int .u8 92] 5)) (some ⟨w7.heap.size, 0, none⟩) 2 2 [27, 92]) := Lib.hid (Nums.new (K := .u8) w7 5 [27, 92] (by simp))
          clear r7 HR0 HB0 HR7
          go_wp2_with (at_builtin; refine wpList_rp rfl _ _ rfl wb _ wb.heap.size {} v7 ([27, sg] ++ P) rfl HRA.out HTW.out (some ⟨w7.heap.size, 0, none⟩) 2 2 [27, 92] rfl HBA.out (by simp only [List.length_append, List.length_cons, List.length_nil]; rw [HPN.out]; omega) ?_)
          intro v8 w8 r8
          have HR8 : Hid (RP wb w8 wb.heap.size {} v8 ([27, sg] ++ P ++ [27, 92])) := Lib.hid (by simpa using r8)
          obtain ⟨o8, c8, hv8, hF8⟩ := HR8.out.feed (pn + 4) (by simp only [List.length_append, List.length_cons, List.length_nil]; rw [HPN.out]; omega) (by omega)
          subst hv8
          rw [HFS.out] at hF8
          have HF := Lib.hid hF8
          clear r8 hF8 HR8 HRA HBA
          go_wp2_with fail
          refine HF.out.mono ?_
          rintro e w9 ⟨ro9, rc9, rfl, hI9, hop9⟩
          have HOP9 := Lib.hid hop9
          obtain ⟨b9, rfl⟩ := hI9.some (by simp)
          obtain ⟨p9, q9, l9, f9, _⟩ := hI9.ask b9 rfl 0 (by simp)
          have a1 : w9.cell? ⟨b9, 0, none⟩ = some (.int .i64 5) := f9 0 (by omega)
          have a2 : w9.cell? ⟨b9, 2, none⟩ = some (.int .u8 sg.toNat) := f9 2 (by omega)
          have a3 : w9.cell? ⟨b9, 6, none⟩ = some (.string ⟨(P.take 256).toArray⟩) := f9 6 (by omega)
          have hpb := HPB.out.below hop9.bel
          have rm := fun W ts t k k' x y => run_mn (P := Tryd.prog) (w := W) ts t k k' x y
          have hmn : mn (pn : Int) 256 = ((min pn 256 : Nat) : Int) := mn_nat pn 256
          have hsl := (slice_hi_b hpb (min pn 256) (by omega) (mn (pn : Int) 256) hmn).1
          have htk : P.take (min pn 256) = P.take 256 := by
            rw [← HPN.out, List.take_eq_take_iff]; omega
          have hcv := conv_row hpb (min pn 256) (by omega)
          have hcvd := conv_row (w := w9.drew) (o := po) (n := pn) (c := pc) (l := P) ⟨hpb.len, hpb.le, hpb.max, hpb.at_⟩ (min pn 256) (by omega)
          rw [htk] at hcv hcvd
          have hps := HOP9.out.ps.idle
          have HIDL := Lib.hid (fun X (hb : Below w9.heap.size w9 X) => (HOP9.out.step hb).ps.idle)
          have HB9 := Lib.hid (HWR.out.trans (hop9.bel.mono HWR.out.size))
          have hid0 : es.idle {} = true := rfl
          rw [hid0] at HIDL
          clear hI9 hop9 HF f9 hpb htk hps hmn
          generalize P.take 256 = T at *
          go_wp2_with fail
          go_region_with (go_at_call 14; refine (HIDL.out _ (by first | exact Below.refl _ _ | exact (Below.refl _ _).drew)).mono ?_; rintro e w10 ⟨rfl, rfl⟩)
          all_goals
            go_wp2_with fail
            go_ret
            exact ⟨rfl, by first | exact HB9.out | exact HB9.out.drew⟩
end Go.Proofs.YtijfpfkmfibjjaaDoor
