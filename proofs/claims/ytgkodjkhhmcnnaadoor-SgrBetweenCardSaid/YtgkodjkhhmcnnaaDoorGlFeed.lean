/- A Reader, and Feed. -/
import Derived.Test.YtgkodjkhhmcnnaaDoorGlConcat
import Derived.Laws.CopyOwn
import Derived.Laws.IdiomCopy
namespace Go.Proofs.YtgkodjkhhmcnnaaDoor
open Go.RowKit

/-- a Reader in a block, from a place on: l waits; what the block holds: cur -/
structure RdAt (w : World) (p off : Nat) (l : List UInt8) (cur : Array Value) (t : TypeId) : Prop where
  at_ : w.heap[p]? = some (.cells cur t (0, 0))
  fits : off + 4 ≤ cur.size
  few : l.length ≤ 3
  bytes : ∃ q : List UInt8, q.length = 3 ∧ q.take l.length = l ∧ ∀ k, k < 3 → cur[off + k]? = some (.int .u8 (gl.b q k))
  num : cur[off + 3]? = some (.int .i64 (l.length : Nat))
theorem cell_of_heap {w : World} {p k : Nat} {cur : Array Value} {t : TypeId} (h : w.heap[p]? = some (.cells cur t (0, 0))) : w.cell? ⟨p, k, none⟩ = cur[k]? := by simp [World.cell?, h]
theorem RdAt.lt {w : World} {p off : Nat} {l : List UInt8} {cur : Array Value} {t : TypeId} (h : RdAt w p off l cur t) : p < w.heap.size := (Array.getElem?_eq_some_iff.1 h.at_).1
theorem RdAt.n {w : World} {p off : Nat} {l : List UInt8} {cur : Array Value} {t : TypeId} (h : RdAt w p off l cur t) : w.cell? ⟨p, off + 3, none⟩ = some (.int .i64 (l.length : Nat)) := (cell_of_heap h.at_).trans h.num
theorem RdAt.fr {w : World} {p off : Nat} {l : List UInt8} {cur : Array Value} {t : TypeId} (h : RdAt w p off l cur t) (k : Nat) : w.frozen? ⟨p, k, none⟩ = false := by simp [World.frozen?, h.at_]
theorem RdAt.bts {w : World} {p off : Nat} {l : List UInt8} {cur : Array Value} {t : TypeId} (h : RdAt w p off l cur t) : Bts w (some ⟨p, off, none⟩) l.length 3 l := by
  refine ⟨u8s_len l, h.few, by unfold maxLen; omega, .inr ⟨p, off, rfl, h.lt, fun k hk => ?_⟩⟩
  obtain ⟨q, hq, hl, hc⟩ := h.bytes
  have := h.few
  rw [cell_of_heap h.at_, hc k (by omega), u8s_get]
  congr 2
  have : gl.b l k = gl.b q k := by
    rw [← hl]
    unfold gl.b
    simp [List.getD, hk]
  rw [this]
theorem RdAt.kept {w w' : World} {p off : Nat} {l : List UInt8} {cur : Array Value} {t : TypeId} (h : RdAt w p off l cur t) {S : Nat → Prop} (hk : Kept w w' S) (hS : ¬ S p) : RdAt w' p off l cur t :=
  ⟨hk.same h.at_ hS, h.fits, h.few, h.bytes, h.num⟩
theorem RdAt.below {w w' : World} {p off : Nat} {l : List UInt8} {cur : Array Value} {t : TypeId} (h : RdAt w p off l cur t) {B : Nat} (hk : Below B w w') (hp : p < B) : RdAt w' p off l cur t :=
  ⟨(hk.block p hp).trans h.at_, h.fits, h.few, h.bytes, h.num⟩

theorem getD_len (l : List UInt8) (k : Nat) (h : k < l.length) : (cs .u8 (u8s l))[k]? = some (.int .u8 (gl.b l k)) := by
  unfold cs u8s gl.b
  simp [List.getD, h]
/-- bytes copied over a Reader's -/
theorem RdAt.copied {w : World} {p off : Nat} {l : List UInt8} {cur : Array Value} {t : TypeId} (h : RdAt w p off l cur t) {o2 : Option Addr} {n2 c2 : Nat} {r : List UInt8} (hb : Bts w o2 n2 c2 r) (hn : n2 ≤ 3) :
    ∃ cur3, (∀ ty, (Builtin.copy_ #[34, 34] ty #[.slice (some ⟨p, off, none⟩) 3 3, .slice o2 n2 c2]).run Tryd.prog w = .ok (.int .i64 n2) (w.setRow p cur3)) ∧ cur3.size = cur.size ∧ (∀ k, k < off ∨ off + n2 ≤ k → cur3[k]? = cur[k]?) ∧ (∀ k, k < n2 → cur3[off + k]? = some (.int .u8 (gl.b r k))) := by
  obtain ⟨i0, hi, hz0, hz1, hz2⟩ := info_parts infoB
  have hs : (Tryd.prog.info? 5).map (·.size) = some 1 := by rw [hi]; simp [hz1]
  have hsz := hb.size
  have hf := h.fits
  by_cases h0 : n2 = 0
  · subst h0
    refine ⟨cur, fun ty => ?_, rfl, fun _ _ => rfl, fun k hk => by omega⟩
    rw [setRow_self w p cur t (0, 0) h.at_]
    exact run_copy_none w _ _ ty 5 _ _ 3 3 0 c2 Tryd.underlying34 hs (by simp)
  · obtain ⟨b, off2, rfl, hb2, hk⟩ := hb.byte (by omega)
    have hlen : (cs .u8 (u8s r)).length = n2 := by simp [u8s, hsz]
    have hr := fun ty => run_copy_row (P := Tryd.prog) w 34 34 ty 5 p off 3 3 ⟨b, off2, none⟩ n2 c2 cur t (cs .u8 (u8s r)) Tryd.underlying34 hs h.at_ (by rw [hlen]; show n2 = min n2 3; omega)
      (fun j v hj => by
        have hj' : j < r.length := by
          have := (List.getElem?_eq_some_iff.1 hj).1
          simpa [u8s] using this
        rw [getD_len r j hj'] at hj
        cases hj
        rw [show (⟨b, off2, none⟩ : Addr).add j = ⟨b, off2 + j, none⟩ by simp [Addr.add]]
        exact hk j (by omega)) (by rw [hlen]; omega) (fun v hv => by simp [cs] at hv; obtain ⟨y, _, rfl⟩ := hv; rfl)
    rw [hlen] at hr
    refine ⟨_, fun ty => hr ty, ?_, ?_, ?_⟩
    · simp [hlen]; omega
    · intro k hk
      have hl : (cur.toList.take off ++ cs .u8 (u8s r)).length = off + n2 := by simp [hlen]; omega
      rcases hk with hk | hk
      · simp only [List.getElem?_toArray]
        rw [List.append_assoc, List.getElem?_append_left (by simp; omega), List.getElem?_take, if_pos hk]
        simp
      · simp only [List.getElem?_toArray]
        rw [List.getElem?_append_right (by rw [hl]; exact hk), hl, List.getElem?_drop, show off + n2 + (k - (off + n2)) = k by omega]
        simp
    · intro k hk
      have hl : (cur.toList.take off).length = off := by simp; omega
      simp only [List.getElem?_toArray]
      rw [List.append_assoc, List.getElem?_append_right (by rw [hl]; omega), hl, List.getElem?_append_left (by rw [hlen]; omega), show off + k - off = k by omega]
      exact getD_len r k (by omega)
/-- .. and how many they are -/
theorem RdAt.stored {w : World} {p off : Nat} {l r : List UInt8} {cur cur3 : Array Value} {t : TypeId} (h : RdAt w p off l cur t) {n2 : Nat} (hr : r.length = n2) (hn : n2 ≤ 3) (h3 : cur3.size = cur.size) (ho : ∀ k, k < off ∨ off + n2 ≤ k → cur3[k]? = cur[k]?) (hb : ∀ k, k < n2 → cur3[off + k]? = some (.int .u8 (gl.b r k))) :
    RdAt ((w.setRow p cur3).setCell ⟨p, off + 3, none⟩ (.int .i64 n2)) p off r (cur3.setIfInBounds (off + 3) (.int .i64 n2)) t := by
  have hf := h.fits
  refine ⟨heap_setCell_same _ p (off + 3) cur3 t _ (setRow_heap w p cur cur3 t (0, 0) h.at_), by simp; omega, by omega, ?_, ?_⟩
  · obtain ⟨q, hq, hl, hc⟩ := h.bytes
    refine ⟨r ++ q.drop n2, by simp [hr, hq]; omega, by rw [hr, ← hr, List.take_left], fun k hk => ?_⟩
    rw [Array.getElem?_setIfInBounds, if_neg (by omega)]
    by_cases hk2 : k < n2
    · rw [hb k hk2]
      unfold gl.b
      simp [List.getD, List.getElem?_append_left (show k < r.length by omega)]
    · rw [ho _ (.inr (by omega)), hc k hk]
      unfold gl.b
      simp only [List.getD]
      rw [List.getElem?_append_right (by omega), List.getElem?_drop, hr, show n2 + (k - n2) = k by omega]
  · rw [Array.getElem?_setIfInBounds, if_pos rfl, if_pos (by omega), hr]
set_option maxRecDepth 100000 in
set_option maxHeartbeats 1600000 in
theorem feed_any (p off : Nat) (l bs : List UInt8) (cur : Array Value) (t : TypeId) (o : Option Addr) (n cap : Nat) (w : World) (hr : RdAt w p off l cur t) (hx : Bts w o n cap bs) (ht : UTabs w) (hn : n ≤ 1099511627776) :
    Calls Tryd.prog 65 #[.pointer (some ⟨p, off, none⟩), .slice o n cap] w fun e w' => ∃ ro m rc cur', e = .returned (.slice ro m rc) ∧ Own w' w.heap.size 21 .i32 ro m rc (gl.read (l ++ bs)).1 ∧ RdAt w' p off (gl.read (l ++ bs)).2 cur' t ∧ cur'.size = cur.size ∧ (∀ k, k < off ∨ off + 4 ≤ k → cur'[k]? = cur[k]?) ∧ Kept w w' (· = p) := by
  have c3 := hr.n
  have f3 := hr.fr (off + 3)
  have hfew := hr.few
  have hfi : (l.length : Int) ≤ 3 := by omega
  have HR := Lib.hid hr; have HX := Lib.hid hx; have HT := Lib.hid ht
  clear hr hx ht
  go_enter Tryd.func65, Tryd.ntmps65
  go_wp2_with fail
  have HC : Hid (Calls Tryd.prog 77 #[.slice (some ⟨w.heap.size, 0, none⟩) 2 2] (w.alloc (.cells #[.slice (some ⟨p, off, none⟩) l.length 3, .slice o n cap] 34)).drew fun e w' => ∃ o1 c1, e = .returned (.slice o1 (l.length + n) c1) ∧ Bts w' o1 (l.length + n) c1 (l ++ bs) ∧ Off o1 (l.length + n) w'.heap.size ∧ (∀ a, o1 = some a → w.heap.size ≤ a.block) ∧ Below w.heap.size w w') := by
    refine Lib.hid ?_
    have hb := (Below.refl w.heap.size w).alloc (Nat.le_refl _) (.cells #[.slice (some ⟨p, off, none⟩) l.length 3, .slice o n cap] 34)
    have hc : ∀ k, (w.alloc (.cells #[.slice (some ⟨p, off, none⟩) l.length 3, .slice o n cap] 34)).drew.cell? ⟨w.heap.size, k, none⟩ = (#[.slice (some ⟨p, off, none⟩) l.length 3, .slice o n cap] : Array Value)[k]? := fun k => cell_of_heap (t := 34) (by show (w.heap.push _)[w.heap.size]? = _; simp)
    refine (concat_any (some ⟨p, off, none⟩) o l.length 3 n cap w.heap.size (u8s l) (u8s bs) _ (HR.out.bts.below hb.drew) (HX.out.below hb.drew) (by omega) (hc 0) (hc 1)).mono ?_
    rintro e w' ⟨o1, c1, rfl, hown, hb'⟩
    have h := hown.nums
    rw [← u8s_append] at h
    exact ⟨o1, c1, rfl, h, hown.off, fun a ha => Nat.le_trans hb.size (hown.lt a ha).1, hb.drew.trans (hb'.mono hb.size)⟩
  have HRD : Hid (∀ X o1 c1, Below w.heap.size w X → Bts X o1 (l.length + n) c1 (l ++ bs) → Calls Tryd.prog 76 #[.slice o1 (l.length + n) c1] X fun e w' => ∃ ro m rc o2 n2 c2, e = .returned (.tuple #[.slice ro m rc, .slice o2 n2 c2]) ∧ ReadTo X w' (l ++ bs) o1 ro m rc o2 n2 c2) := by
    refine Lib.hid fun X o1 c1 hX hb => read_any o1 (l.length + n) c1 (l ++ bs) X hb (HT.out.step hX) ?_
    have := hb.size
    omega
  go_region_with (first
    | (go_at_call 77; refine HC.out.mono ?_; rintro e w1 ⟨o1, c1, rfl, hb1, ho1, hn1, hbl1⟩)
    | (go_at_call 76; refine (HRD.out _ _ _ ?h3 ?h4).mono ?_; (case h3 => assumption); (case h4 => assumption); rintro e w2 ⟨ro, m, rc, o2, n2, c2, rfl, hrd⟩))
  all_goals
    have hbel : Below w.heap.size w w2 := hbl1.trans (hrd.bel.mono hbl1.size)
    have HR2 : Hid (RdAt w2 p off l cur t) := Lib.hid (HR.out.below hbel HR.out.lt)
    have HO2 : Hid (Own w2 w.heap.size 21 .i32 ro m rc (gl.read (l ++ bs)).1) := Lib.hid (hrd.own.base hbl1.size)
    have HB2 : Hid (Bts w2 o2 n2 c2 (gl.read (l ++ bs)).2) := Lib.hid hrd.bts
    have HBL := Lib.hid hbel
    have hrl := gl.rest_len (l ++ bs)
    have hn2 := hrd.bts.size
    rw [hn2] at hrl
    have hn2i : (n2 : Int) ≤ 3 := by omega
    have f3' := HR2.out.fr (off + 3)
    have c3' := HR2.out.n
    generalize hG : gl.read (l ++ bs) = G at *
    have HG := Lib.hid hG; clear hG
    have HN2 := Lib.hid hn2
    obtain ⟨cur3, hrun, hs3, ho3, hb3⟩ := HR2.out.copied HB2.out hrl
    have HST : Hid (RdAt ((w2.setRow p cur3).setCell ⟨p, off + 3, none⟩ (.int .i64 n2)) p off G.2 (cur3.setIfInBounds (off + 3) (.int .i64 n2)) t) := Lib.hid (HR2.out.stored hn2 hrl hs3 ho3 hb3)
    have HO3 : Hid ((cur3.setIfInBounds (off + 3) (.int .i64 n2)).size = cur.size ∧ ∀ k, k < off ∨ off + 4 ≤ k → (cur3.setIfInBounds (off + 3) (.int .i64 n2))[k]? = cur[k]?) := by
      refine Lib.hid ⟨by simp [hs3], fun k hk => ?_⟩
      rw [Array.getElem?_setIfInBounds, if_neg (by omega), ho3 k (by omega)]
    have c4 : (w2.setRow p cur3).cell? ⟨p, off + 3, none⟩ = some (.int .i64 (l.length : Nat)) := by rw [cell_setRow_same w2 p _ cur cur3 t (0, 0) HR2.out.at_, ho3 _ (.inr (by omega))]; exact HR2.out.num
    have f4 : (w2.setRow p cur3).frozen? ⟨p, off + 3, none⟩ = false := by simp [World.frozen?, setRow_heap w2 p cur cur3 t (0, 0) HR2.out.at_]
    have hk0 : Kept w2 (w2.setRow p cur3) (· = p) := ⟨rfl, rfl, rfl, by simp, fun k _ hk => setRow_other w2 p k cur3 hk⟩
    have HK : Hid (Kept w2 ((w2.setRow p cur3).setCell ⟨p, off + 3, none⟩ (.int .i64 n2)) (· = p)) := Lib.hid (hk0.setCell (p := ⟨p, off + 3, none⟩) (fun _ => rfl) _)
    clear hbel hrd hb1 ho1 hn1 hbl1 HC HRD c3 f3 hn2 hs3 ho3 hb3 c3' f3' hk0
    go_wp2_with fail
    go_ret
    rw [HG.out]
    exact ⟨ro, m, rc, _, rfl, HO2.out.kept HK.out (fun a ha e => by have := (HO2.out.lt a ha).1; have := HR.out.lt; omega), HST.out, HO3.out.1, HO3.out.2, (Kept.of_below HBL.out (· = p)).trans HK.out (fun _ _ h => h)⟩
end Go.Proofs.YtgkodjkhhmcnnaaDoor
