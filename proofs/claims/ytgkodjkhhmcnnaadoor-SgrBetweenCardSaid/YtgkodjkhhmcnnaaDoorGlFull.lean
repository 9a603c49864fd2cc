/- FullRune: do bytes begin with a whole rune, or with none? -/
import Derived.Test.YtgkodjkhhmcnnaaDoorGlMem
import Derived.Shelf.Unicode.DecodeSlow
namespace Go.Proofs.YtgkodjkhhmcnnaaDoor
open Go.RowKit Go.Lib

/-- bytes as numbers -/
def u8s (l : List UInt8) : List Int := l.map fun x => (x.toNat : Int)
theorem u8s_len (l : List UInt8) : (u8s l).length = l.length := by simp [u8s]
theorem u8s_get (l : List UInt8) (k : Nat) : (u8s l).getD k 0 = (gl.b l k : Int) := by
  unfold u8s gl.b
  simp only [List.getD, List.getElem?_map]
  cases l[k]? <;> rfl
theorem u8s_drop (l : List UInt8) (k : Nat) : (u8s l).drop k = u8s (l.drop k) := by simp [u8s]
theorem u8s_take (l : List UInt8) (k : Nat) : (u8s l).take k = u8s (l.take k) := by simp [u8s]
theorem u8s_append (l r : List UInt8) : u8s (l ++ r) = u8s l ++ u8s r := by simp [u8s]
/-- bytes in the cells of a slice -/
abbrev Bts (w : World) (o : Option Addr) (n cap : Nat) (l : List UInt8) : Prop := Nums .u8 w o n cap (u8s l)
theorem Bts.size {w : World} {o : Option Addr} {n cap : Nat} {l : List UInt8} (h : Bts w o n cap l) : l.length = n := by rw [← u8s_len]; exact h.len
theorem Bts.byte {w : World} {o : Option Addr} {n cap : Nat} {l : List UInt8} (h : Bts w o n cap l) (h0 : 0 < n) : ∃ b off, o = some ⟨b, off, none⟩ ∧ b < w.heap.size ∧ ∀ k, k < n → w.cell? ⟨b, off + k, none⟩ = some (.int .u8 (gl.b l k)) := by
  rcases h.at_ with h' | ⟨b, off, h1, h2, h3⟩
  · omega
  · exact ⟨b, off, h1, h2, fun k hk => by rw [h3 k hk, u8s_get]⟩
/-- the two tables -/
def UTabs (w : World) : Prop := Utf8Tabs 3 4 w
theorem UTabs.lt {w : World} (h : UTabs w) : 3 < w.heap.size ∧ 4 < w.heap.size :=
  ⟨World.block_lt_of_cell? w ⟨3, 0, none⟩ (h.1 0 (by decide)), World.block_lt_of_cell? w ⟨4, 0, none⟩ (h.2 0 (by decide)).1⟩
theorem UTabs.below {w w' : World} (h : UTabs w) {B : Nat} (hk : Below B w w') (h1 : 3 < B) (h2 : 4 < B) : UTabs w' :=
  ⟨fun c hc => (hk.cell (p := ⟨3, c, none⟩) h1).trans (h.1 c hc), fun i hi => ⟨(hk.cell (p := ⟨4, 2 * i, none⟩) h2).trans (h.2 i hi).1, (hk.cell (p := ⟨4, 2 * i + 1, none⟩) h2).trans (h.2 i hi).2⟩⟩
theorem UTabs.step {w w' : World} (h : UTabs w) (hk : Below w.heap.size w w') : UTabs w' := h.below hk h.lt.1 h.lt.2

/-- full, of the first three bytes and of how many there are -/
def fullN (n x0 x1 x2 : Nat) : Bool :=
  if n = 0 then false
  else if firstT x0 % 8 ≤ n then true
  else if 1 < n ∧ (x1 < accLo (firstT x0 / 16) ∨ accHi (firstT x0 / 16) < x1) then true
  else if 2 < n ∧ (x2 < 128 ∨ 191 < x2) then true
  else false
theorem full_eq (l : List UInt8) : gl.full l = fullN l.length (gl.b l 0) (gl.b l 1) (gl.b l 2) := rfl

set_option maxRecDepth 100000 in
set_option maxHeartbeats 1600000 in
theorem fullRune_any (o : Option Addr) (n cap : Nat) (l : List UInt8) (w : World) (hx : Bts w o n cap l) (ht : UTabs w) :
    Calls Tryd.prog 86 #[.slice o n cap] w fun e w' => e = .returned (.bool (gl.full l)) ∧ Below w.heap.size w w' := by
  have hn := hx.size
  have hF := full_eq l
  rw [hn] at hF
  rw [hF]
  clear hF
  by_cases h0 : n = 0
  · subst h0
    clear hn hx ht
    go_enter Tryd.func86, Tryd.ntmps86
    go_wp2
    go_ret
    exact ⟨rfl, Below.refl _ _⟩
  · obtain ⟨b, off, rfl, hb, hk⟩ := hx.byte (by omega)
    have k0 : w.cell? ⟨b, off, none⟩ = some (.int .u8 (gl.b l 0)) := hk 0 (by omega)
    have q1 : 1 < n → w.cell? ⟨b, off + 1, none⟩ = some (.int .u8 (gl.b l 1)) := fun h => hk 1 h
    have q2 : 2 < n → w.cell? ⟨b, off + 2, none⟩ = some (.int .u8 (gl.b l 2)) := fun h => hk 2 h
    have l0 := gl.b_lt l 0; have l1 := gl.b_lt l 1; have l2 := gl.b_lt l 2
    have hc0 := ht.1 (gl.b l 0) l0
    have ha := ht.2
    clear hk hx ht hn
    generalize gl.b l 0 = x0 at *
    generalize gl.b l 1 = x1 at *
    generalize gl.b l 2 = x2 at *
    have hz0 : (0 : Int) < (n : Int) := by omega
    have hz1 : ((n : Int) == 0) = false := by simp; omega
    have HF : Hid (fullN n x0 x1 x2 = if firstT x0 % 8 ≤ n then true else if 1 < n ∧ (x1 < accLo (firstT x0 / 16) ∨ accHi (firstT x0 / 16) < x1) then true else if 2 < n ∧ (x2 < 128 ∨ 191 < x2) then true else false) := Lib.hid (by unfold fullN; rw [if_neg h0])
    generalize fullN n x0 x1 x2 = R at *
    rcases firstT_cases x0 with hX | hX | hX | hX | hX | hX | hX | hX | hX
    · rw [hX] at hc0 HF
      have hR : R = true := by rw [HF.out]; rw [if_pos (by omega)]
      subst hR
      clear HF ha q1 q2
      go_enter Tryd.func86, Tryd.ntmps86
      go_wp2
      go_ret
      exact ⟨rfl, Below.refl _ _⟩
    · rw [hX] at hc0 HF
      have hR : R = true := by rw [HF.out]; rw [if_pos (by omega)]
      subst hR
      clear HF ha q1 q2
      go_enter Tryd.func86, Tryd.ntmps86
      go_wp2
      all_goals (first | (exfalso; omega) | skip)
      go_ret
      exact ⟨rfl, Below.refl _ _⟩
    · rw [hX] at hc0 HF
      have ha0 := (ha 0 (by omega)).1
      have ha1 := (ha 0 (by omega)).2
      simp only [accLo, accHi, Nat.reduceMul, Nat.reduceAdd, Nat.reduceEqDiff, if_true, if_false, Nat.reduceMod, Nat.reduceDiv] at ha0 ha1 HF
      clear ha hX
      by_cases hs : 2 ≤ n
      · have hR : R = true := by rw [HF.out]; rw [if_pos hs]
        have hsz : (2 : Int) ≤ (n : Int) := by omega
        subst hR
        clear HF q1 q2
        go_enter Tryd.func86, Tryd.ntmps86
        go_wp2
        all_goals (first | (exfalso; omega) | skip)
        go_ret
        exact ⟨rfl, Below.refl _ _⟩
      · obtain rfl : n = 1 := by omega
        clear q1 q2 hz0 hz1 h0 hs
        go_enter Tryd.func86, Tryd.ntmps86
        go_wp2_with fail
        go_quiet (fail)
        all_goals go_wp2_with fail
        all_goals (go_ret; refine ⟨ret_bool ?_, by first | exact below_drewN ((Below.refl _ _).alloc (Nat.le_refl _) _) _ | exact (Below.refl _ _).alloc (Nat.le_refl _) _⟩; rw [HF.out]; simp; try omega)
    · rw [hX] at hc0 HF
      have ha0 := (ha 1 (by omega)).1
      have ha1 := (ha 1 (by omega)).2
      simp only [accLo, accHi, Nat.reduceMul, Nat.reduceAdd, Nat.reduceEqDiff, if_true, if_false, Nat.reduceMod, Nat.reduceDiv] at ha0 ha1 HF
      clear ha hX
      by_cases hs : 3 ≤ n
      · have hR : R = true := by rw [HF.out]; rw [if_pos hs]
        have hsz : (3 : Int) ≤ (n : Int) := by omega
        subst hR
        clear HF q1 q2
        go_enter Tryd.func86, Tryd.ntmps86
        go_wp2
        all_goals (first | (exfalso; omega) | skip)
        go_ret
        exact ⟨rfl, Below.refl _ _⟩
      by_cases hn1 : n = 1
      · obtain rfl : n = 1 := hn1
        clear q1 q2 hz0 hz1 h0 hs
        go_enter Tryd.func86, Tryd.ntmps86
        go_wp2_with fail
        go_quiet (fail)
        all_goals go_wp2_with fail
        all_goals (go_ret; refine ⟨ret_bool ?_, by first | exact below_drewN ((Below.refl _ _).alloc (Nat.le_refl _) _) _ | exact (Below.refl _ _).alloc (Nat.le_refl _) _⟩; rw [HF.out]; simp; try omega)
      · obtain rfl : n = 2 := by omega
        have k1 := q1 (by omega)
        clear q1 q2 hz0 hz1 h0 hs
        rcases (by omega : ((x1 : Int) < 160) ∨ ((160 : Int) ≤ (x1 : Int) ∧ (191 : Int) < (x1 : Int)) ∨ ((160 : Int) ≤ (x1 : Int) ∧ (x1 : Int) ≤ 191)) with u1 | ⟨u1, u2⟩ | ⟨u1, u2⟩
        · go_enter Tryd.func86, Tryd.ntmps86
          go_wp2_with fail
          go_quiet (fail)
          all_goals go_wp2_with fail
          all_goals (go_ret; refine ⟨ret_bool ?_, by first | exact below_drewN ((Below.refl _ _).alloc (Nat.le_refl _) _) _ | exact (Below.refl _ _).alloc (Nat.le_refl _) _⟩; rw [HF.out]; simp; try omega)
        · go_enter Tryd.func86, Tryd.ntmps86
          go_wp2_with fail
          go_quiet (fail)
          all_goals go_wp2_with fail
          all_goals (go_ret; refine ⟨ret_bool ?_, by first | exact below_drewN ((Below.refl _ _).alloc (Nat.le_refl _) _) _ | exact (Below.refl _ _).alloc (Nat.le_refl _) _⟩; rw [HF.out]; simp; try omega)
        · go_enter Tryd.func86, Tryd.ntmps86
          go_wp2_with fail
          go_quiet (fail)
          all_goals go_wp2_with fail
          all_goals (go_ret; refine ⟨ret_bool ?_, by first | exact below_drewN ((Below.refl _ _).alloc (Nat.le_refl _) _) _ | exact (Below.refl _ _).alloc (Nat.le_refl _) _⟩; rw [HF.out]; simp; try omega)
    · rw [hX] at hc0 HF
      have ha0 := (ha 0 (by omega)).1
      have ha1 := (ha 0 (by omega)).2
      simp only [accLo, accHi, Nat.reduceMul, Nat.reduceAdd, Nat.reduceEqDiff, if_true, if_false, Nat.reduceMod, Nat.reduceDiv] at ha0 ha1 HF
      clear ha hX
      by_cases hs : 3 ≤ n
      · have hR : R = true := by rw [HF.out]; rw [if_pos hs]
        have hsz : (3 : Int) ≤ (n : Int) := by omega
        subst hR
        clear HF q1 q2
        go_enter Tryd.func86, Tryd.ntmps86
        go_wp2
        all_goals (first | (exfalso; omega) | skip)
        go_ret
        exact ⟨rfl, Below.refl _ _⟩
      by_cases hn1 : n = 1
      · obtain rfl : n = 1 := hn1
        clear q1 q2 hz0 hz1 h0 hs
        go_enter Tryd.func86, Tryd.ntmps86
        go_wp2_with fail
        go_quiet (fail)
        all_goals go_wp2_with fail
        all_goals (go_ret; refine ⟨ret_bool ?_, by first | exact below_drewN ((Below.refl _ _).alloc (Nat.le_refl _) _) _ | exact (Below.refl _ _).alloc (Nat.le_refl _) _⟩; rw [HF.out]; simp; try omega)
      · obtain rfl : n = 2 := by omega
        have k1 := q1 (by omega)
        clear q1 q2 hz0 hz1 h0 hs
        rcases (by omega : ((x1 : Int) < 128) ∨ ((128 : Int) ≤ (x1 : Int) ∧ (191 : Int) < (x1 : Int)) ∨ ((128 : Int) ≤ (x1 : Int) ∧ (x1 : Int) ≤ 191)) with u1 | ⟨u1, u2⟩ | ⟨u1, u2⟩
        · go_enter Tryd.func86, Tryd.ntmps86
          go_wp2_with fail
          go_quiet (fail)
          all_goals go_wp2_with fail
          all_goals (go_ret; refine ⟨ret_bool ?_, by first | exact below_drewN ((Below.refl _ _).alloc (Nat.le_refl _) _) _ | exact (Below.refl _ _).alloc (Nat.le_refl _) _⟩; rw [HF.out]; simp; try omega)
        · go_enter Tryd.func86, Tryd.ntmps86
          go_wp2_with fail
          go_quiet (fail)
          all_goals go_wp2_with fail
          all_goals (go_ret; refine ⟨ret_bool ?_, by first | exact below_drewN ((Below.refl _ _).alloc (Nat.le_refl _) _) _ | exact (Below.refl _ _).alloc (Nat.le_refl _) _⟩; rw [HF.out]; simp; try omega)
        · go_enter Tryd.func86, Tryd.ntmps86
          go_wp2_with fail
          go_quiet (fail)
          all_goals go_wp2_with fail
          all_goals (go_ret; refine ⟨ret_bool ?_, by first | exact below_drewN ((Below.refl _ _).alloc (Nat.le_refl _) _) _ | exact (Below.refl _ _).alloc (Nat.le_refl _) _⟩; rw [HF.out]; simp; try omega)
    · rw [hX] at hc0 HF
      have ha0 := (ha 2 (by omega)).1
      have ha1 := (ha 2 (by omega)).2
      simp only [accLo, accHi, Nat.reduceMul, Nat.reduceAdd, Nat.reduceEqDiff, if_true, if_false, Nat.reduceMod, Nat.reduceDiv] at ha0 ha1 HF
      clear ha hX
      by_cases hs : 3 ≤ n
      · have hR : R = true := by rw [HF.out]; rw [if_pos hs]
        have hsz : (3 : Int) ≤ (n : Int) := by omega
        subst hR
        clear HF q1 q2
        go_enter Tryd.func86, Tryd.ntmps86
        go_wp2
        all_goals (first | (exfalso; omega) | skip)
        go_ret
        exact ⟨rfl, Below.refl _ _⟩
      by_cases hn1 : n = 1
      · obtain rfl : n = 1 := hn1
        clear q1 q2 hz0 hz1 h0 hs
        go_enter Tryd.func86, Tryd.ntmps86
        go_wp2_with fail
        go_quiet (fail)
        all_goals go_wp2_with fail
        all_goals (go_ret; refine ⟨ret_bool ?_, by first | exact below_drewN ((Below.refl _ _).alloc (Nat.le_refl _) _) _ | exact (Below.refl _ _).alloc (Nat.le_refl _) _⟩; rw [HF.out]; simp; try omega)
      · obtain rfl : n = 2 := by omega
        have k1 := q1 (by omega)
        clear q1 q2 hz0 hz1 h0 hs
        rcases (by omega : ((x1 : Int) < 128) ∨ ((128 : Int) ≤ (x1 : Int) ∧ (159 : Int) < (x1 : Int)) ∨ ((128 : Int) ≤ (x1 : Int) ∧ (x1 : Int) ≤ 159)) with u1 | ⟨u1, u2⟩ | ⟨u1, u2⟩
        · go_enter Tryd.func86, Tryd.ntmps86
          go_wp2_with fail
          go_quiet (fail)
          all_goals go_wp2_with fail
          all_goals (go_ret; refine ⟨ret_bool ?_, by first | exact below_drewN ((Below.refl _ _).alloc (Nat.le_refl _) _) _ | exact (Below.refl _ _).alloc (Nat.le_refl _) _⟩; rw [HF.out]; simp; try omega)
        · go_enter Tryd.func86, Tryd.ntmps86
          go_wp2_with fail
          go_quiet (fail)
          all_goals go_wp2_with fail
          all_goals (go_ret; refine ⟨ret_bool ?_, by first | exact below_drewN ((Below.refl _ _).alloc (Nat.le_refl _) _) _ | exact (Below.refl _ _).alloc (Nat.le_refl _) _⟩; rw [HF.out]; simp; try omega)
        · go_enter Tryd.func86, Tryd.ntmps86
          go_wp2_with fail
          go_quiet (fail)
          all_goals go_wp2_with fail
          all_goals (go_ret; refine ⟨ret_bool ?_, by first | exact below_drewN ((Below.refl _ _).alloc (Nat.le_refl _) _) _ | exact (Below.refl _ _).alloc (Nat.le_refl _) _⟩; rw [HF.out]; simp; try omega)
    · rw [hX] at hc0 HF
      have ha0 := (ha 3 (by omega)).1
      have ha1 := (ha 3 (by omega)).2
      simp only [accLo, accHi, Nat.reduceMul, Nat.reduceAdd, Nat.reduceEqDiff, if_true, if_false, Nat.reduceMod, Nat.reduceDiv] at ha0 ha1 HF
      clear ha hX
      by_cases hs : 4 ≤ n
      · have hR : R = true := by rw [HF.out]; rw [if_pos hs]
        have hsz : (4 : Int) ≤ (n : Int) := by omega
        subst hR
        clear HF q1 q2
        go_enter Tryd.func86, Tryd.ntmps86
        go_wp2
        all_goals (first | (exfalso; omega) | skip)
        go_ret
        exact ⟨rfl, Below.refl _ _⟩
      by_cases hn1 : n = 1
      · obtain rfl : n = 1 := hn1
        clear q1 q2 hz0 hz1 h0 hs
        go_enter Tryd.func86, Tryd.ntmps86
        go_wp2_with fail
        go_quiet (fail)
        all_goals go_wp2_with fail
        all_goals (go_ret; refine ⟨ret_bool ?_, by first | exact below_drewN ((Below.refl _ _).alloc (Nat.le_refl _) _) _ | exact (Below.refl _ _).alloc (Nat.le_refl _) _⟩; rw [HF.out]; simp; try omega)
      by_cases hn2 : n = 2
      · obtain rfl : n = 2 := hn2
        have k1 := q1 (by omega)
        clear q1 q2 hz0 hz1 h0 hs
        rcases (by omega : ((x1 : Int) < 144) ∨ ((144 : Int) ≤ (x1 : Int) ∧ (191 : Int) < (x1 : Int)) ∨ ((144 : Int) ≤ (x1 : Int) ∧ (x1 : Int) ≤ 191)) with u1 | ⟨u1, u2⟩ | ⟨u1, u2⟩
        · go_enter Tryd.func86, Tryd.ntmps86
          go_wp2_with fail
          go_quiet (fail)
          all_goals go_wp2_with fail
          all_goals (go_ret; refine ⟨ret_bool ?_, by first | exact below_drewN ((Below.refl _ _).alloc (Nat.le_refl _) _) _ | exact (Below.refl _ _).alloc (Nat.le_refl _) _⟩; rw [HF.out]; simp; try omega)
        · go_enter Tryd.func86, Tryd.ntmps86
          go_wp2_with fail
          go_quiet (fail)
          all_goals go_wp2_with fail
          all_goals (go_ret; refine ⟨ret_bool ?_, by first | exact below_drewN ((Below.refl _ _).alloc (Nat.le_refl _) _) _ | exact (Below.refl _ _).alloc (Nat.le_refl _) _⟩; rw [HF.out]; simp; try omega)
        · go_enter Tryd.func86, Tryd.ntmps86
          go_wp2_with fail
          go_quiet (fail)
          all_goals go_wp2_with fail
          all_goals (go_ret; refine ⟨ret_bool ?_, by first | exact below_drewN ((Below.refl _ _).alloc (Nat.le_refl _) _) _ | exact (Below.refl _ _).alloc (Nat.le_refl _) _⟩; rw [HF.out]; simp; try omega)
      · obtain rfl : n = 3 := by omega
        have k1 := q1 (by omega)
        have k2 := q2 (by omega)
        clear q1 q2 hz0 hz1 h0 hs
        rcases (by omega : ((x1 : Int) < 144) ∨ ((144 : Int) ≤ (x1 : Int) ∧ (191 : Int) < (x1 : Int)) ∨ ((144 : Int) ≤ (x1 : Int) ∧ (x1 : Int) ≤ 191)) with u1 | ⟨u1, u2⟩ | ⟨u1, u2⟩
        · go_enter Tryd.func86, Tryd.ntmps86
          go_wp2_with fail
          go_quiet (fail)
          all_goals go_wp2_with fail
          all_goals (go_ret; refine ⟨ret_bool ?_, by first | exact below_drewN ((Below.refl _ _).alloc (Nat.le_refl _) _) _ | exact (Below.refl _ _).alloc (Nat.le_refl _) _⟩; rw [HF.out]; simp; try omega)
        · go_enter Tryd.func86, Tryd.ntmps86
          go_wp2_with fail
          go_quiet (fail)
          all_goals go_wp2_with fail
          all_goals (go_ret; refine ⟨ret_bool ?_, by first | exact below_drewN ((Below.refl _ _).alloc (Nat.le_refl _) _) _ | exact (Below.refl _ _).alloc (Nat.le_refl _) _⟩; rw [HF.out]; simp; try omega)
        · rcases (by omega : ((x2 : Int) < 128) ∨ ((128 : Int) ≤ (x2 : Int) ∧ (191 : Int) < (x2 : Int)) ∨ ((128 : Int) ≤ (x2 : Int) ∧ (x2 : Int) ≤ 191)) with v1 | ⟨v1, v2⟩ | ⟨v1, v2⟩
          · go_enter Tryd.func86, Tryd.ntmps86
            go_wp2_with fail
            go_quiet (fail)
            all_goals go_wp2_with fail
            all_goals (go_ret; refine ⟨ret_bool ?_, by first | exact below_drewN ((Below.refl _ _).alloc (Nat.le_refl _) _) _ | exact (Below.refl _ _).alloc (Nat.le_refl _) _⟩; rw [HF.out]; simp; try omega)
          · go_enter Tryd.func86, Tryd.ntmps86
            go_wp2_with fail
            go_quiet (fail)
            all_goals go_wp2_with fail
            all_goals (go_ret; refine ⟨ret_bool ?_, by first | exact below_drewN ((Below.refl _ _).alloc (Nat.le_refl _) _) _ | exact (Below.refl _ _).alloc (Nat.le_refl _) _⟩; rw [HF.out]; simp; try omega)
          · go_enter Tryd.func86, Tryd.ntmps86
            go_wp2_with fail
            go_quiet (fail)
            all_goals go_wp2_with fail
            all_goals (go_ret; refine ⟨ret_bool ?_, by first | exact below_drewN ((Below.refl _ _).alloc (Nat.le_refl _) _) _ | exact (Below.refl _ _).alloc (Nat.le_refl _) _⟩; rw [HF.out]; simp; try omega)
    · rw [hX] at hc0 HF
      have ha0 := (ha 0 (by omega)).1
      have ha1 := (ha 0 (by omega)).2
      simp only [accLo, accHi, Nat.reduceMul, Nat.reduceAdd, Nat.reduceEqDiff, if_true, if_false, Nat.reduceMod, Nat.reduceDiv] at ha0 ha1 HF
      clear ha hX
      by_cases hs : 4 ≤ n
      · have hR : R = true := by rw [HF.out]; rw [if_pos hs]
        have hsz : (4 : Int) ≤ (n : Int) := by omega
        subst hR
        clear HF q1 q2
        go_enter Tryd.func86, Tryd.ntmps86
        go_wp2
        all_goals (first | (exfalso; omega) | skip)
        go_ret
        exact ⟨rfl, Below.refl _ _⟩
      by_cases hn1 : n = 1
      · obtain rfl : n = 1 := hn1
        clear q1 q2 hz0 hz1 h0 hs
        go_enter Tryd.func86, Tryd.ntmps86
        go_wp2_with fail
        go_quiet (fail)
        all_goals go_wp2_with fail
        all_goals (go_ret; refine ⟨ret_bool ?_, by first | exact below_drewN ((Below.refl _ _).alloc (Nat.le_refl _) _) _ | exact (Below.refl _ _).alloc (Nat.le_refl _) _⟩; rw [HF.out]; simp; try omega)
      by_cases hn2 : n = 2
      · obtain rfl : n = 2 := hn2
        have k1 := q1 (by omega)
        clear q1 q2 hz0 hz1 h0 hs
        rcases (by omega : ((x1 : Int) < 128) ∨ ((128 : Int) ≤ (x1 : Int) ∧ (191 : Int) < (x1 : Int)) ∨ ((128 : Int) ≤ (x1 : Int) ∧ (x1 : Int) ≤ 191)) with u1 | ⟨u1, u2⟩ | ⟨u1, u2⟩
        · go_enter Tryd.func86, Tryd.ntmps86
          go_wp2_with fail
          go_quiet (fail)
          all_goals go_wp2_with fail
          all_goals (go_ret; refine ⟨ret_bool ?_, by first | exact below_drewN ((Below.refl _ _).alloc (Nat.le_refl _) _) _ | exact (Below.refl _ _).alloc (Nat.le_refl _) _⟩; rw [HF.out]; simp; try omega)
        · go_enter Tryd.func86, Tryd.ntmps86
          go_wp2_with fail
          go_quiet (fail)
          all_goals go_wp2_with fail
          all_goals (go_ret; refine ⟨ret_bool ?_, by first | exact below_drewN ((Below.refl _ _).alloc (Nat.le_refl _) _) _ | exact (Below.refl _ _).alloc (Nat.le_refl _) _⟩; rw [HF.out]; simp; try omega)
        · go_enter Tryd.func86, Tryd.ntmps86
          go_wp2_with fail
          go_quiet (fail)
          all_goals go_wp2_with fail
          all_goals (go_ret; refine ⟨ret_bool ?_, by first | exact below_drewN ((Below.refl _ _).alloc (Nat.le_refl _) _) _ | exact (Below.refl _ _).alloc (Nat.le_refl _) _⟩; rw [HF.out]; simp; try omega)
      · obtain rfl : n = 3 := by omega
        have k1 := q1 (by omega)
        have k2 := q2 (by omega)
        clear q1 q2 hz0 hz1 h0 hs
        rcases (by omega : ((x1 : Int) < 128) ∨ ((128 : Int) ≤ (x1 : Int) ∧ (191 : Int) < (x1 : Int)) ∨ ((128 : Int) ≤ (x1 : Int) ∧ (x1 : Int) ≤ 191)) with u1 | ⟨u1, u2⟩ | ⟨u1, u2⟩
        · go_enter Tryd.func86, Tryd.ntmps86
          go_wp2_with fail
          go_quiet (fail)
          all_goals go_wp2_with fail
          all_goals (go_ret; refine ⟨ret_bool ?_, by first | exact below_drewN ((Below.refl _ _).alloc (Nat.le_refl _) _) _ | exact (Below.refl _ _).alloc (Nat.le_refl _) _⟩; rw [HF.out]; simp; try omega)
        · go_enter Tryd.func86, Tryd.ntmps86
          go_wp2_with fail
          go_quiet (fail)
          all_goals go_wp2_with fail
          all_goals (go_ret; refine ⟨ret_bool ?_, by first | exact below_drewN ((Below.refl _ _).alloc (Nat.le_refl _) _) _ | exact (Below.refl _ _).alloc (Nat.le_refl _) _⟩; rw [HF.out]; simp; try omega)
        · rcases (by omega : ((x2 : Int) < 128) ∨ ((128 : Int) ≤ (x2 : Int) ∧ (191 : Int) < (x2 : Int)) ∨ ((128 : Int) ≤ (x2 : Int) ∧ (x2 : Int) ≤ 191)) with v1 | ⟨v1, v2⟩ | ⟨v1, v2⟩
          · go_enter Tryd.func86, Tryd.ntmps86
            go_wp2_with fail
            go_quiet (fail)
            all_goals go_wp2_with fail
            all_goals (go_ret; refine ⟨ret_bool ?_, by first | exact below_drewN ((Below.refl _ _).alloc (Nat.le_refl _) _) _ | exact (Below.refl _ _).alloc (Nat.le_refl _) _⟩; rw [HF.out]; simp; try omega)
          · go_enter Tryd.func86, Tryd.ntmps86
            go_wp2_with fail
            go_quiet (fail)
            all_goals go_wp2_with fail
            all_goals (go_ret; refine ⟨ret_bool ?_, by first | exact below_drewN ((Below.refl _ _).alloc (Nat.le_refl _) _) _ | exact (Below.refl _ _).alloc (Nat.le_refl _) _⟩; rw [HF.out]; simp; try omega)
          · go_enter Tryd.func86, Tryd.ntmps86
            go_wp2_with fail
            go_quiet (fail)
            all_goals go_wp2_with fail
            all_goals (go_ret; refine ⟨ret_bool ?_, by first | exact below_drewN ((Below.refl _ _).alloc (Nat.le_refl _) _) _ | exact (Below.refl _ _).alloc (Nat.le_refl _) _⟩; rw [HF.out]; simp; try omega)
    · rw [hX] at hc0 HF
      have ha0 := (ha 4 (by omega)).1
      have ha1 := (ha 4 (by omega)).2
      simp only [accLo, accHi, Nat.reduceMul, Nat.reduceAdd, Nat.reduceEqDiff, if_true, if_false, Nat.reduceMod, Nat.reduceDiv] at ha0 ha1 HF
      clear ha hX
      by_cases hs : 4 ≤ n
      · have hR : R = true := by rw [HF.out]; rw [if_pos hs]
        have hsz : (4 : Int) ≤ (n : Int) := by omega
        subst hR
        clear HF q1 q2
        go_enter Tryd.func86, Tryd.ntmps86
        go_wp2
        all_goals (first | (exfalso; omega) | skip)
        go_ret
        exact ⟨rfl, Below.refl _ _⟩
      by_cases hn1 : n = 1
      · obtain rfl : n = 1 := hn1
        clear q1 q2 hz0 hz1 h0 hs
        go_enter Tryd.func86, Tryd.ntmps86
        go_wp2_with fail
        go_quiet (fail)
        all_goals go_wp2_with fail
        all_goals (go_ret; refine ⟨ret_bool ?_, by first | exact below_drewN ((Below.refl _ _).alloc (Nat.le_refl _) _) _ | exact (Below.refl _ _).alloc (Nat.le_refl _) _⟩; rw [HF.out]; simp; try omega)
      by_cases hn2 : n = 2
      · obtain rfl : n = 2 := hn2
        have k1 := q1 (by omega)
        clear q1 q2 hz0 hz1 h0 hs
        rcases (by omega : ((x1 : Int) < 128) ∨ ((128 : Int) ≤ (x1 : Int) ∧ (143 : Int) < (x1 : Int)) ∨ ((128 : Int) ≤ (x1 : Int) ∧ (x1 : Int) ≤ 143)) with u1 | ⟨u1, u2⟩ | ⟨u1, u2⟩
        · go_enter Tryd.func86, Tryd.ntmps86
          go_wp2_with fail
          go_quiet (fail)
          all_goals go_wp2_with fail
          all_goals (go_ret; refine ⟨ret_bool ?_, by first | exact below_drewN ((Below.refl _ _).alloc (Nat.le_refl _) _) _ | exact (Below.refl _ _).alloc (Nat.le_refl _) _⟩; rw [HF.out]; simp; try omega)
        · go_enter Tryd.func86, Tryd.ntmps86
          go_wp2_with fail
          go_quiet (fail)
          all_goals go_wp2_with fail
          all_goals (go_ret; refine ⟨ret_bool ?_, by first | exact below_drewN ((Below.refl _ _).alloc (Nat.le_refl _) _) _ | exact (Below.refl _ _).alloc (Nat.le_refl _) _⟩; rw [HF.out]; simp; try omega)
        · go_enter Tryd.func86, Tryd.ntmps86
          go_wp2_with fail
          go_quiet (fail)
          all_goals go_wp2_with fail
          all_goals (go_ret; refine ⟨ret_bool ?_, by first | exact below_drewN ((Below.refl _ _).alloc (Nat.le_refl _) _) _ | exact (Below.refl _ _).alloc (Nat.le_refl _) _⟩; rw [HF.out]; simp; try omega)
      · obtain rfl : n = 3 := by omega
        have k1 := q1 (by omega)
        have k2 := q2 (by omega)
        clear q1 q2 hz0 hz1 h0 hs
        rcases (by omega : ((x1 : Int) < 128) ∨ ((128 : Int) ≤ (x1 : Int) ∧ (143 : Int) < (x1 : Int)) ∨ ((128 : Int) ≤ (x1 : Int) ∧ (x1 : Int) ≤ 143)) with u1 | ⟨u1, u2⟩ | ⟨u1, u2⟩
        · go_enter Tryd.func86, Tryd.ntmps86
          go_wp2_with fail
          go_quiet (fail)
          all_goals go_wp2_with fail
          all_goals (go_ret; refine ⟨ret_bool ?_, by first | exact below_drewN ((Below.refl _ _).alloc (Nat.le_refl _) _) _ | exact (Below.refl _ _).alloc (Nat.le_refl _) _⟩; rw [HF.out]; simp; try omega)
        · go_enter Tryd.func86, Tryd.ntmps86
          go_wp2_with fail
          go_quiet (fail)
          all_goals go_wp2_with fail
          all_goals (go_ret; refine ⟨ret_bool ?_, by first | exact below_drewN ((Below.refl _ _).alloc (Nat.le_refl _) _) _ | exact (Below.refl _ _).alloc (Nat.le_refl _) _⟩; rw [HF.out]; simp; try omega)
        · rcases (by omega : ((x2 : Int) < 128) ∨ ((128 : Int) ≤ (x2 : Int) ∧ (191 : Int) < (x2 : Int)) ∨ ((128 : Int) ≤ (x2 : Int) ∧ (x2 : Int) ≤ 191)) with v1 | ⟨v1, v2⟩ | ⟨v1, v2⟩
          · go_enter Tryd.func86, Tryd.ntmps86
            go_wp2_with fail
            go_quiet (fail)
            all_goals go_wp2_with fail
            all_goals (go_ret; refine ⟨ret_bool ?_, by first | exact below_drewN ((Below.refl _ _).alloc (Nat.le_refl _) _) _ | exact (Below.refl _ _).alloc (Nat.le_refl _) _⟩; rw [HF.out]; simp; try omega)
          · go_enter Tryd.func86, Tryd.ntmps86
            go_wp2_with fail
            go_quiet (fail)
            all_goals go_wp2_with fail
            all_goals (go_ret; refine ⟨ret_bool ?_, by first | exact below_drewN ((Below.refl _ _).alloc (Nat.le_refl _) _) _ | exact (Below.refl _ _).alloc (Nat.le_refl _) _⟩; rw [HF.out]; simp; try omega)
          · go_enter Tryd.func86, Tryd.ntmps86
            go_wp2_with fail
            go_quiet (fail)
            all_goals go_wp2_with fail
            all_goals (go_ret; refine ⟨ret_bool ?_, by first | exact below_drewN ((Below.refl _ _).alloc (Nat.le_refl _) _) _ | exact (Below.refl _ _).alloc (Nat.le_refl _) _⟩; rw [HF.out]; simp; try omega)
end Go.Proofs.YtgkodjkhhmcnnaaDoor
