/- A sequence that was made is read as one Csi of its numbers; on lists. The document's Decimal and Between, of what a sequence may bear. []byte(text), and a byte behind it. -/
import Derived.Test.YtgkodjkhhmcnnaaDoorEscBytes
import Derived.Test.YtgkodjkhhmcnnaaDoorEscRow
import Derived.ArgAppend
import Derived.Laws.IdiomStrings
namespace Go.Proofs.YtgkodjkhhmcnnaaDoor.es
open Go.Proofs.YtgkodjkhhmcnnaaDoor

def clampN (n : Int) : Int := if n < 0 then -1 else min n 9999
/-- in a control sequence, with these numbers -/
def ctlS (priv : Nat) (ps : List Int) : St := { state := 2, priv := priv, params := ps }
theorem ctl_byte (priv : Nat) (ps : List Int) (b : UInt8) (h1 : 48 ≤ b.toNat) (h2 : b.toNat ≤ 59) (h3 : b.toNat ≠ 58) : byte (ctlS priv ps) b = (addNumber (ctlS priv ps) b, []) := by
  unfold byte
  rw [if_neg (by simp [ctlS]), if_pos (show (ctlS priv ps).state = 2 from rfl)]
  unfold inControl
  rw [if_neg (by simp [isText]; omega), if_neg (by omega), if_pos (by omega)]
  unfold addParam
  rw [if_neg (by simp [ctlS]; omega), if_pos h2]
theorem ctl_digit (priv : Nat) (P : List Int) (x : Int) (b : UInt8) (h1 : 48 ≤ b.toNat) (h2 : b.toNat ≤ 57) : byte (ctlS priv (P ++ [x])) b = (ctlS priv (P ++ [digit x b]), []) := by
  rw [ctl_byte _ _ _ h1 (by omega) (by omega)]
  unfold addNumber
  rw [if_neg (by omega), if_neg (by simp [ctlS])]
  unfold setLast
  simp [ctlS, List.getD]
theorem ctl_first (priv : Nat) (b : UInt8) (h1 : 48 ≤ b.toNat) (h2 : b.toNat ≤ 57) : byte (ctlS priv []) b = byte (ctlS priv [-1]) b := by
  rw [ctl_byte _ _ _ h1 (by omega) (by omega), ctl_byte _ _ _ h1 (by omega) (by omega)]
  unfold addNumber
  rw [if_neg (show ¬ b.toNat = 59 by omega), if_neg (show ¬ b.toNat = 59 by omega), if_pos (show (ctlS priv []).params.length = 0 from rfl), if_neg (show ¬ (ctlS priv [-1]).params.length = 0 by simp [ctlS])]
  rfl
theorem dig_nat (d : Nat) (h : d < 10) : (UInt8.ofNat (48 + d)).toNat = 48 + d := by rw [UInt8.toNat_ofNat']; omega
theorem feed_dec (priv : Nat) (P : List Int) : ∀ (f u : Nat), u ≤ f → u ≤ 9999 → feed (ctlS priv (P ++ [-1])) (Lib.decDigits u) = (ctlS priv (P ++ [(u : Int)]), [])
  | 0, u, h, _ => by
    obtain rfl : u = 0 := by omega
    rw [Lib.decDigits, dif_pos (by omega)]
    simp only [feed, ctl_digit priv P (-1) (UInt8.ofNat (48 + 0)) (by decide) (by decide)]
    rfl
  | f + 1, u, h, h9 => by
    rw [Lib.decDigits]
    split
    · rename_i hu
      have hn := dig_nat u hu
      simp only [feed, ctl_digit priv P (-1) (UInt8.ofNat (48 + u)) (by omega) (by omega)]
      have : digit (-1) (UInt8.ofNat (48 + u)) = (u : Int) := by unfold digit; rw [hn]; omega
      rw [this]
      rfl
    · rename_i hu
      have hm : u % 10 < 10 := Nat.mod_lt _ (by omega)
      have hn := dig_nat (u % 10) hm
      rw [feed_append, feed_dec priv P f (u / 10) (by omega) (by omega)]
      simp only [feed, ctl_digit priv P ((u / 10 : Nat) : Int) (UInt8.ofNat (48 + u % 10)) (by omega) (by omega)]
      have : digit ((u / 10 : Nat) : Int) (UInt8.ofNat (48 + u % 10)) = (u : Int) := by unfold digit; rw [hn]; omega
      rw [this]
      rfl
theorem dec_cons (u : Nat) : ∃ b l, Lib.decDigits u = b :: l ∧ 48 ≤ b.toNat ∧ b.toNat ≤ 57 := by
  induction u using Nat.strongRecOn with
  | _ u ih =>
    rw [Lib.decDigits]
    split
    · rename_i hu
      exact ⟨_, [], rfl, by rw [dig_nat u hu]; omega, by rw [dig_nat u hu]; omega⟩
    · obtain ⟨b, l, h1, h2, h3⟩ := ih (u / 10) (by omega)
      exact ⟨b, l ++ [UInt8.ofNat (48 + u % 10)], by rw [h1]; rfl, h2, h3⟩
theorem feed_dec0 (priv : Nat) (u : Nat) (h : u ≤ 9999) : feed (ctlS priv []) (Lib.decDigits u) = (ctlS priv [(u : Int)], []) := by
  have h1 := feed_dec priv [] u u (Nat.le_refl _) h
  obtain ⟨b, l, e, hb1, hb2⟩ := dec_cons u
  rw [e] at h1 ⊢
  simp only [feed, List.nil_append] at h1 ⊢
  rw [ctl_first priv b hb1 hb2]
  exact h1
theorem numT_eq (n : Int) (h : 0 ≤ n) : numT n = Lib.decDigits (min n 9999).toNat := by unfold numT Lib.itoa; rw [if_pos h, if_neg (by omega)]
theorem toNat_min (x : Int) (h : 0 ≤ x) : (((min x 9999).toNat : Nat) : Int) = clampN x := by
  unfold clampN
  rw [if_neg (by omega), Int.toNat_of_nonneg (by omega)]
theorem feed_num (priv : Nat) (P : List Int) (x : Int) : feed (ctlS priv (P ++ [-1])) (numT x) = (ctlS priv (P ++ [clampN x]), []) := by
  by_cases hn : 0 ≤ x
  · rw [numT_eq x hn, feed_dec priv P _ _ (Nat.le_refl _) (by omega), toNat_min x hn]
  · have h1 : numT x = [] := by unfold numT; rw [if_neg hn]
    have h2 : clampN x = -1 := by unfold clampN; rw [if_pos (by omega)]
    rw [h1, h2]
    rfl
theorem ctl_semi (priv : Nat) (ps : List Int) (h : ps.length < 17) (h0 : ps ≠ []) : byte (ctlS priv ps) 59 = (ctlS priv (ps ++ [-1]), []) := by
  rw [ctl_byte _ _ _ (by decide) (by decide) (by decide)]
  unfold addNumber
  rw [if_pos (by decide), if_neg (by simpa [ctlS] using h0)]
  unfold nextNumber
  rw [if_pos (by simpa [ctlS] using h)]
  rfl
theorem ctl_semi0 (priv : Nat) : byte (ctlS priv []) 59 = (ctlS priv [-1, -1], []) := by
  rw [ctl_byte _ _ _ (by decide) (by decide) (by decide)]
  rfl
/-- the numbers that stand behind k pieces -/
def stand (ps : List Int) (k : Nat) : List Int := if k = 0 ∨ k = 1 ∧ ps.getD 0 0 < 0 then [] else (ps.take k).map clampN
theorem feed_nums (priv : Nat) (ps : List Int) : ∀ k, k ≤ ps.length → k ≤ 16 → feed (ctlS priv []) (nums ps k) = (ctlS priv (stand ps k), [])
  | 0, _, _ => rfl
  | k + 1, hk, h16 => by
    have ih := feed_nums priv ps k (by omega) (by omega)
    have hkl : k < ps.length := by omega
    have htake : ps.take (k + 1) = ps.take k ++ [ps.getD k 0] := by rw [List.take_add_one, List.getElem?_eq_getElem hkl]; simp [List.getD, hkl]
    rw [nums_succ, feed_append, ih]
    simp only [List.nil_append]
    by_cases hk0 : k = 0
    · subst hk0
      have hs0 : stand ps 0 = [] := by simp [stand]
      rw [hs0]
      unfold piece
      rw [if_pos rfl, List.nil_append]
      by_cases hn : 0 ≤ ps.getD 0 0
      · rw [numT_eq _ hn, feed_dec0 priv _ (by omega), toNat_min _ hn]
        have : stand ps (0 + 1) = [clampN (ps.getD 0 0)] := by unfold stand; rw [if_neg (by omega), htake]; rfl
        rw [this]
      · have h1 : numT (ps.getD 0 0) = [] := by unfold numT; rw [if_neg hn]
        have : stand ps (0 + 1) = [] := by unfold stand; rw [if_pos (.inr ⟨rfl, by omega⟩)]
        rw [h1, this]
        rfl
    · have hsem : feed (ctlS priv (stand ps k)) [59] = (ctlS priv ((ps.take k).map clampN ++ [-1]), []) := by
        by_cases h1 : k = 1 ∧ ps.getD 0 0 < 0
        · have hs : stand ps k = [] := by unfold stand; rw [if_pos (.inr h1)]
          obtain ⟨rfl, h2⟩ := h1
          have ht : (ps.take 1).map clampN = [-1] := by
            have e1 : ps.take 1 = [ps.getD 0 0] := by
              rw [List.take_add_one, List.getElem?_eq_getElem (by omega : 0 < ps.length)]
              simp [List.getD, show 0 < ps.length by omega]
            have e2 : clampN (ps.getD 0 0) = -1 := by unfold clampN; rw [if_pos h2]
            rw [e1]
            show [clampN (ps.getD 0 0)] = [-1]
            rw [e2]
          rw [hs, ht]
          simp only [feed, ctl_semi0]
          rfl
        · have hs : stand ps k = (ps.take k).map clampN := by unfold stand; rw [if_neg (fun h => h.elim hk0 h1)]
          rw [hs]
          have hne : (ps.take k).map clampN ≠ [] := by
            intro e
            have := congrArg List.length e
            rw [List.length_map, List.length_take, List.length_nil] at this
            omega
          simp only [feed, ctl_semi priv _ (by simp; omega) hne]
          rfl
      have hst : stand ps (k + 1) = (ps.take k).map clampN ++ [clampN (ps.getD k 0)] := by unfold stand; rw [if_neg (by omega), htake]; simp
      unfold piece
      rw [if_neg hk0, feed_append, hsem, hst]
      simp only [List.nil_append]
      rw [feed_num]
theorem feed_csiB (priv : Nat) (ps : List Int) (f : UInt8) (hp : priv = 0 ∨ 60 ≤ priv ∧ priv ≤ 63) (h1 : 64 ≤ f.toNat) (h2 : f.toNat ≤ 126) (hx : ¬ (ps.length = 1 ∧ ps.getD 0 0 < 0)) :
    feed {} (csiB priv ps f) = ({}, [{ kind := 4, priv := priv, final := f.toNat, params := (ps.take 16).map clampN }]) := by
  have hopen : feed {} [27, 91] = (ctlS 0 [], []) := rfl
  have hpriv : feed (ctlS 0 []) (privB priv) = (ctlS priv [], []) := by
    unfold privB
    by_cases h0 : priv = 0
    · subst h0; rfl
    · rw [if_neg h0]
      have hb : (UInt8.ofNat priv).toNat = priv := by rw [UInt8.toNat_ofNat']; omega
      have : byte (ctlS 0 []) (UInt8.ofNat priv) = (ctlS priv [], []) := by
        unfold byte
        rw [if_neg (by simp [ctlS]), if_pos (show (ctlS 0 []).state = 2 from rfl)]
        unfold inControl
        rw [if_neg (by simp [isText]; omega), if_neg (by omega), if_pos (by omega)]
        unfold addParam
        rw [if_neg (by simp [ctlS]; omega), if_neg (by omega), if_pos (by simp [ctlS]), hb]
        rfl
      simp only [feed, this]
      rfl
  have hst : stand ps (min ps.length 16) = (ps.take 16).map clampN := by
    have ht : ps.take (min ps.length 16) = ps.take 16 := by rw [List.take_eq_take_iff]; omega
    unfold stand
    rw [ht]
    split
    · rename_i hc
      have : ps.length = 0 := by omega
      obtain rfl := List.length_eq_zero_iff.1 this
      rfl
    · rfl
  have hn := feed_nums priv ps (min ps.length 16) (by omega) (by omega)
  rw [hst] at hn
  have hlen : ((ps.take 16).map clampN).length ≤ 16 := by simp; omega
  have hf : feed (ctlS priv ((ps.take 16).map clampN)) [f] = ({}, [{ kind := 4, priv := priv, final := f.toNat, params := (ps.take 16).map clampN }]) := by
    have : byte (ctlS priv ((ps.take 16).map clampN)) f = ({}, [{ kind := 4, priv := priv, final := f.toNat, params := (ps.take 16).map clampN }]) := by
      unfold byte
      rw [if_neg (by simp [ctlS]), if_pos (show (ctlS priv ((ps.take 16).map clampN)).state = 2 from rfl)]
      unfold inControl
      rw [if_neg (by simp [isText]; omega), if_neg (by omega), if_neg (by omega), if_pos (by omega)]
      unfold say csi
      rw [if_neg (by simp [ctlS])]
      simp only [ctlS]
      rw [List.take_of_length_le hlen]
    simp only [feed, this]
    rfl
  unfold csiB
  rw [feed_append, feed_append, feed_append, hopen]
  simp only [hpriv, hn, hf, List.nil_append]
end Go.Proofs.YtgkodjkhhmcnnaaDoor.es
namespace Go.Proofs.YtgkodjkhhmcnnaaDoor
open Go.RowKit

/-- what is left of a number -/
def tailD (m : Nat) : List UInt8 := if m = 0 then [] else Lib.decDigits m
theorem tailD_step (m : Nat) (h : m ≠ 0) : tailD m = tailD (m / 10) ++ [UInt8.ofNat (48 + m % 10)] := by
  unfold tailD
  rw [if_neg h, Lib.decDigits]
  split
  · rename_i h10
    rw [if_pos (by omega), show m % 10 = m by omega]
    rfl
  · rename_i h10
    rw [if_neg (by omega)]
set_option maxRecDepth 100000 in
set_option maxHeartbeats 1600000 in
theorem decimal_any (n : Nat) (hn : n ≤ 9999) (w : World) :
    Calls Tryd.prog 44 #[.int .i64 n] w fun e w' => e = .returned (.string ⟨(Lib.decDigits n).toArray⟩) ∧ Below w.heap.size w w' := by
  by_cases h0 : n = 0
  · subst h0
    go_enter Tryd.func44, Tryd.ntmps44
    go_wp2_with fail
    go_ret
    exact ⟨by rw [Lib.decDigits, dif_pos (by omega)]; rfl, Below.refl _ _⟩
  · have e0 : ((n : Int) == 0) = false := by simp; omega
    have e1 : ¬ (n : Int) < 0 := by omega
    have HD : Hid (tailD n = Lib.decDigits n) := Lib.hid (by unfold tailD; rw [if_neg h0])
    clear h0
    go_enter Tryd.func44, Tryd.ntmps44
    go_wp2_with fail
    go_loopg [0, 4] n (fun gg s0 s4 wr => ∃ (m : Nat) (out : List UInt8), s0 = .int .i64 m ∧ s4 = .string ⟨out.toArray⟩ ∧ m ≤ gg ∧ m ≤ n ∧ out.length + m ≤ n ∧ Hid (tailD m ++ out = tailD n) ∧ Hid (Below w.heap.size w wr))
    case atStart => exact ⟨n, [], rfl, rfl, Nat.le_refl _, Nat.le_refl _, by simp, Lib.hid (by simp), Lib.hid (Below.refl _ _)⟩
    case round =>
      obtain ⟨m, out, rfl, rfl, hgg, hmn, hol, HT, HB⟩ := hrel
      by_cases hm : m = 0
      · subst hm
        have HE : Hid (out = tailD n) := Lib.hid (by have := HT.out; simpa [tailD] using this)
        go_wp2_with fail
        go_ret
        exact ⟨by rw [HE.out, HD.out]; rfl, HB.out⟩
      · have b0 : ((m : Int) == 0) = false := by simp; omega
        have b1 : ((m : Int) != 0) = true := by simp; omega
        have hmod : Int.tmod (m : Int) 10 = ((m % 10 : Nat) : Int) := by rw [Int.tmod_eq_emod_of_nonneg (by omega)]; rfl
        have hdiv : Int.tdiv (m : Int) 10 = ((m / 10 : Nat) : Int) := by rw [Int.tdiv_eq_ediv_of_nonneg (by omega)]; rfl
        have hlt : m / 10 < m := Nat.div_lt_self (by omega) (by omega)
        have hd : m % 10 < 10 := Nat.mod_lt _ (by omega)
        have HS := Lib.hid (tailD_step m hm)
        generalize m % 10 = d at *
        generalize m / 10 = q at *
        have hdi : ¬ (d : Int) < 0 := by omega
        have hc := es.dig_nat d hd
        generalize UInt8.ofNat (48 + d) = c at *
        have kc := str_one0 wr c
        rw [show ((c.toNat : Nat) : Int) = 48 + (d : Int) by omega] at kc
        have kb : ¬ 9223372036854775807 < 1 + out.length := by omega
        have kb' : out.length < 9223372036854775807 := by omega
        have hI1 : (ByteArray.mk #[c] ++ ByteArray.mk out.toArray) = ByteArray.mk (c :: out).toArray := ByteArray.mk_append_mk [c] out
        have HI1 := Lib.hid hI1
        have HB2 := Lib.hid (HB.out.alloc HB.out.size (.cells #[.int .u8 (48 + (d : Int))] 5))
        have HT2 : Hid (tailD q ++ (c :: out) = tailD n) := Lib.hid (by rw [← HT.out, HS.out]; simp)
        clear hI1 hc
        go_wp2_with fail
        go_roundg q
        case measure => omega
        case rel => exact ⟨q, c :: out, rfl, by rw [← HI1.out], Nat.le_refl _, by omega, by simp only [List.length_cons]; omega, HT2, HB2⟩
theorem between_any (x : Int) (hx : 0 ≤ x) (w : World) : Calls Tryd.prog 45 #[.int .i64 x, .int .i64 0, .int .i64 9999] w fun e w' => e = .returned (.int .i64 (((min x 9999).toNat : Nat) : Int)) ∧ w = w' := by
  by_cases h : 9999 < x
  · have e : (((min x 9999).toNat : Nat) : Int) = 9999 := by omega
    have hx' : ¬ x < 0 := by omega
    rw [e]
    clear e
    go_enter Tryd.func45, Tryd.ntmps45
    go_wp2_with fail
    go_ret
    exact ⟨rfl, rfl⟩
  · have e : (((min x 9999).toNat : Nat) : Int) = x := by omega
    have hx' : ¬ x < 0 := by omega
    rw [e]
    clear e
    go_enter Tryd.func45, Tryd.ntmps45
    go_wp2_with fail
    go_ret
    exact ⟨rfl, rfl⟩
end Go.Proofs.YtgkodjkhhmcnnaaDoor
namespace Go.Proofs.YtgkodjkhhmcnnaaDoor
open Go.RowKit

/-- the row that []byte(text) lays -/
abbrev convRow (L : List UInt8) (G : Nat) : Obj := .cells (bytesRow ⟨L.toArray⟩ G) 5 ((bytesRow ⟨L.toArray⟩ G).size, (bytesRow ⟨L.toArray⟩ G).size + 1)
theorem bytesRow_size (L : List UInt8) (G : Nat) (h : L.length ≤ G) : (bytesRow ⟨L.toArray⟩ G).size = G := by
  unfold bytesRow
  simp [ByteArray.size]
  omega
theorem conv_text (w : World) (L : List UInt8) (hL : L.length ≤ 1000000) : ∃ W G, (convert 9 34 (.string ⟨L.toArray⟩)).run Tryd.prog w = .ok (.slice (some ⟨w.heap.size, 0, none⟩) L.length G) W ∧ W.heap[w.heap.size]? = some (convRow L G) ∧ Below w.heap.size w W ∧ L.length ≤ G ∧ G ≤ maxLen := by
  have hsz : (ByteArray.mk L.toArray).size = L.length := by simp [ByteArray.size]
  have h := run_bytes_of_string (P := Tryd.prog) w 9 34 5 ⟨L.toArray⟩ Tryd.underlying9 Tryd.underlying34 Tryd.underlying5
  rw [hsz] at h
  refine ⟨_, _, h, heap_alloc_new w.drew _, ?_, grownCap_ge w _ _ _, grownCap_le_maxLen w _ _ _ (by unfold maxLen; omega)⟩
  exact ⟨rfl, rfl, rfl, by simp, fun k hk => Below.heap_alloc w.drew _ k hk⟩
theorem run_append_conv (W : World) (g G : Nat) (L : List UInt8) (x : UInt8) (hrow : W.heap[g]? = some (convRow L G)) (hLG : L.length ≤ G) (hG : G ≤ maxLen) (hL : L.length ≤ 1000000) :
    ∃ ro rc w', (Builtin.append_ #[34, 34] 34 #[.slice (some ⟨g, 0, none⟩) L.length G, .slice (some ⟨W.heap.size, 0, none⟩) 1 1]).run Tryd.prog (W.alloc (.cells #[.int .u8 x.toNat] 5)) = .ok (.slice ro (L.length + 1) rc) w' ∧ Bts w' ro (L.length + 1) rc (L ++ [x]) ∧ Below g W w' := by
  obtain ⟨i0, hi, hz0, hz1, hz2⟩ := info_parts infoB
  have hg : g < W.heap.size := (Array.getElem?_eq_some_iff.1 hrow).1
  have hrow' : (W.alloc (.cells #[.int .u8 x.toNat] 5)).heap[g]? = some (convRow L G) := (Below.heap_alloc W _ g hg).trans hrow
  have hsz := bytesRow_size L G hLG
  have hcell : ∀ j, j < L.length → (W.alloc (.cells #[.int .u8 x.toNat] 5)).cell? ⟨g, j, none⟩ = some (.int .u8 (gl.b L j)) := fun j hj => by
    have h1 := bytesRow_at ⟨L.toArray⟩ G j (by simpa using hj)
    simp only [World.cell?, hrow']
    rw [h1]
    simp [gl.b, List.getD, hj]
  have hnews : ∀ j u, [Value.int .u8 x.toNat][j]? = some u → (W.alloc (.cells #[.int .u8 x.toNat] 5)).cell? ((⟨W.heap.size, 0, none⟩ : Addr).add j) = some u := cells_one_new W _ _
  have hB0 : Below g W (W.alloc (.cells #[.int .u8 x.toNat] 5)) := (Below.refl g W).alloc (by omega) _
  have hu : ∀ j, j < L.length + 1 → (u8s (L ++ [x])).getD j 0 = if j < L.length then (gl.b L j : Int) else (x.toNat : Int) := fun j hj => by
    unfold u8s gl.b
    by_cases h : j < L.length
    · rw [if_pos h]; simp [List.getD, h, List.getElem?_append_left]
    · obtain rfl : j = L.length := by omega
      rw [if_neg h]; simp [List.getD]
  by_cases hr : L.length + 1 ≤ G
  · have hs1 : ∀ j, j < [Value.int .u8 x.toNat].length → ((W.alloc (.cells #[.int .u8 x.toNat] 5)).cell? ⟨g, 0 + L.length * i0.size + j, none⟩).isSome = true := fun j hj => by
      obtain rfl : j = 0 := by simpa using hj
      simp only [World.cell?, hrow', hz1]
      simp [hsz]
      omega
    have hf1 : ∀ j, j < [Value.int .u8 x.toNat].length → (W.alloc (.cells #[.int .u8 x.toNat] 5)).frozen? ⟨g, 0 + L.length * i0.size + j, none⟩ = false := fun j hj => by
      obtain rfl : j = 0 := by simpa using hj
      unfold World.frozen?
      rw [hrow', hz1]
      simp [hsz]
      omega
    have hrun := run_append_room_cells (P := Tryd.prog) (W.alloc (.cells #[.int .u8 x.toNat] 5)) 34 34 5 i0 Tryd.underlying34 hi g 0 L.length G ⟨W.heap.size, 0, none⟩ 1 1 [Value.int .u8 x.toNat] (by rw [hz1]; rfl) hnews (by simp [Value.oneCell']) hr hs1 hf1
    rw [hz1] at hrun hs1
    refine ⟨_, _, _, hrun, ?_, ?_⟩
    · refine ⟨by simp [u8s], hr, hG, .inr ⟨g, 0, rfl, ?_, fun k hk => ?_⟩⟩
      · simp only [World.setCells, World.size_setCell]
        simp
        omega
      · rw [hu k hk, Nat.zero_add]
        by_cases h : k < L.length
        · rw [if_pos h, World.cell?_setCells_out _ _ _ _ _ (fun _ _ => .inl (by simp; omega))]
          simpa using hcell k h
        · obtain rfl : k = L.length := by omega
          rw [if_neg h]
          have := World.cell?_setCells_in g [Value.int .u8 x.toNat] (0 + L.length * 1) (W.alloc (.cells #[.int .u8 x.toNat] 5)) hs1 0 (by simp)
          simpa using this
    · refine ⟨hB0.os, hB0.tape, hB0.output, ?_, fun k hk => ?_⟩
      · simp only [World.setCells, World.size_setCell]; exact hB0.size
      · simp only [World.setCells]
        exact (Below.heap_setCell _ _ _ k (by simp; omega)).trans (hB0.block k hk)
  · obtain ⟨v', w', hrun, r1, r2⟩ := run_append_arg_grows (P := Tryd.prog) (W.alloc (.cells #[.int .u8 x.toNat] 5)) 34 34 5 i0 _ 1 1 Tryd.underlying34 hi hz0 hz1 hz2 rfl (by decide) ⟨g, 0, none⟩ L.length G (cs .u8 (u8s L)) (by simp [cs, u8s])
      (fun j u hj => by
        have hjl : j < L.length := by have := (List.getElem?_eq_some_iff.1 hj).1; simpa [cs, u8s] using this
        rw [show (⟨g, 0, none⟩ : Addr).add j = ⟨g, j, none⟩ by unfold Addr.add; split <;> simp_all, hcell j hjl, ← hj]
        simp [cs, u8s, gl.b, List.getD, hjl])
      ⟨W.heap.size, 0, none⟩ 1 1 [Value.int .u8 x.toNat] rfl hnews (by omega) (by unfold maxLen; omega) (by omega)
    obtain ⟨ro, rc, rfl, hO⟩ := Own.of (K := .u8) (xs := u8s (L ++ [x])) (by simpa [cs, u8s] using r1)
    exact ⟨ro, rc, w', hrun, hO.nums, hB0.grown r2 (by simp; omega) (fun k hk => by cases hk)⟩
end Go.Proofs.YtgkodjkhhmcnnaaDoor
