/- Acts in the cells of a slice; Same, of the same acts. -/
import Derived.Test.YtgkodjkhhmcnnaaDoorEscLoop
import Derived.Test.YtgkodjkhhmcnnaaDoorGlLit
namespace Go.Proofs.YtgkodjkhhmcnnaaDoor
open Go.RowKit

abbrev es.act0 : es.Act := { kind := 0 }
/-- acts in the cells of a slice, whoever's they are -/
structure ActsIn (w : World) (o : Option Addr) (n cap : Nat) (l : List es.Act) : Prop where
  len : l.length = n
  le : n ≤ cap
  max : cap ≤ maxLen
  at_ : ∀ k, k < n → ∃ b po pc, o = some ⟨b, 0, none⟩ ∧ b < w.heap.size ∧ (∀ f, f < 7 → w.cell? ⟨b, k * 7 + f, none⟩ = (actC (l.getD k es.act0) po pc)[f]?) ∧ Nums .i64 w po (l.getD k es.act0).params.length pc (l.getD k es.act0).params
theorem ActsIn.below {w w' : World} {o : Option Addr} {n cap : Nat} {l : List es.Act} (h : ActsIn w o n cap l) (hb : Below w.heap.size w w') : ActsIn w' o n cap l :=
  ⟨h.len, h.le, h.max, fun k hk => by
    obtain ⟨b, po, pc, h1, h2, h3, h4⟩ := h.at_ k hk
    exact ⟨b, po, pc, h1, Nat.lt_of_lt_of_le h2 hb.size, fun f hf => (hb.cell (p := ⟨b, k * 7 + f, none⟩) h2).trans (h3 f hf), h4.below hb⟩⟩
theorem rowC_get : ∀ (L : List (es.Act × Option Addr × Nat)) (k f : Nat) (q : es.Act × Option Addr × Nat), L[k]? = some q → f < 7 → (rowC L)[k * 7 + f]? = (actC q.1 q.2.1 q.2.2)[f]?
  | [], k, f, q, h, _ => by simp at h
  | p :: L, 0, f, q, h, hf => by
    obtain rfl : p = q := by simpa using h
    show ((actC p.1 p.2.1 p.2.2) ++ rowC L)[0 * 7 + f]? = _
    rw [Nat.zero_mul, Nat.zero_add, List.getElem?_append_left (by simp [actC]; omega)]
  | p :: L, k + 1, f, q, h, hf => by
    show ((actC p.1 p.2.1 p.2.2) ++ rowC L)[(k + 1) * 7 + f]? = _
    have hl : (actC p.1 p.2.1 p.2.2).length = 7 := by simp [actC]
    rw [List.getElem?_append_right (by omega), hl, show (k + 1) * 7 + f - 7 = k * 7 + f by omega]
    exact rowC_get L k f q (by simpa using h) hf
theorem ActsAt.in_ {w : World} {B : Nat} {V : Value} {l : List es.Act} (h : ActsAt w B V l) : ∃ o cap, V = .slice o l.length cap ∧ ActsIn w o l.length cap l ∧ (∀ a, o = some a → B ≤ a.block ∧ a.block < w.heap.size) := by
  obtain ⟨L, h1, h2, h3⟩ := h
  have hL : L.length = l.length := by rw [← h1, List.length_map]
  rcases h2.2 with ⟨rfl, h0⟩ | ⟨g, cap, cur, rfl, hB, hg, hc, hm, _⟩
  · obtain rfl : l = [] := List.length_eq_zero_iff.1 (by omega)
    exact ⟨none, 0, rfl, ⟨rfl, Nat.le_refl _, Nat.zero_le _, fun k hk => by simp at hk⟩, fun a ha => by cases ha⟩
  · have hlt : g < w.heap.size := (Array.getElem?_eq_some_iff.1 hg).1
    refine ⟨some ⟨g, 0, none⟩, cap, by rw [hL], ⟨rfl, by omega, hm, fun k hk => ?_⟩, fun a ha => by cases ha; exact ⟨hB, hlt⟩⟩
    have hkL : k < L.length := by omega
    obtain ⟨q, hq⟩ : ∃ q, L[k]? = some q := ⟨_, List.getElem?_eq_getElem hkL⟩
    have hqm : q ∈ L := List.mem_of_getElem? hq
    have he : l.getD k es.act0 = q.1 := by rw [← h1]; simp [List.getD, hq]
    rw [he]
    refine ⟨g, q.2.1, q.2.2, rfl, hlt, fun f hf => ?_, (h3 q hqm).nums⟩
    rw [h2.cellAt (k * 7 + f) (by omega), rowC_get L k f q hq hf]
/-- an act's seven cells -/
theorem cells7 {w : World} {b k : Nat} {a : es.Act} {po : Option Addr} {pc : Nat} (h : ∀ f, f < 7 → w.cell? ⟨b, k * 7 + f, none⟩ = (actC a po pc)[f]?) :
    w.cell? ⟨b, k * 7, none⟩ = some (.int .i64 a.kind) ∧ w.cell? ⟨b, k * 7 + 1, none⟩ = some (.int .i32 a.r) ∧ w.cell? ⟨b, k * 7 + 2, none⟩ = some (.int .u8 a.final) ∧ w.cell? ⟨b, k * 7 + 3, none⟩ = some (.int .u8 a.priv) ∧ w.cell? ⟨b, k * 7 + 4, none⟩ = some (.string ⟨a.inter.toArray⟩) ∧ w.cell? ⟨b, k * 7 + 5, none⟩ = some (.slice po a.params.length pc) ∧ w.cell? ⟨b, k * 7 + 6, none⟩ = some (.string ⟨a.text.toArray⟩) :=
  ⟨h 0 (by omega), h 1 (by omega), h 2 (by omega), h 3 (by omega), h 4 (by omega), h 5 (by omega), h 6 (by omega)⟩
end Go.Proofs.YtgkodjkhhmcnnaaDoor
