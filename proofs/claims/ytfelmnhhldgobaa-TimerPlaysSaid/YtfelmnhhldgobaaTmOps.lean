/- The queue's Push, Pop, Len; container/heap's Push, Pop, Remove, Init over a clock. -/
import Derived.Test.YtfelmnhhldgobaaTmDown
namespace Go.Proofs.Ytfelmnhhldgobaa
open Go.RowKit
/-- a clock in block c, its queue in a row of its own -/
structure CK (w : World) (c : Nat) (now last : Int) (V : Value) (l : List tm.T) : Prop where
  ck : w.heap[c]? = some (.cells #[.int .i64 now, .int .i64 last, V] 65 (0, 0))
  row : TRow w (c + 1) V l
def OwnC (c : Nat) (V : Value) (y : Nat) : Prop := y = c ∨ V.ownBlock = some y
section
variable {w w' : World} {c : Nat} {now last : Int} {V : Value} {l : List tm.T}
theorem CK.lt (h : CK w c now last V l) : c < w.heap.size := heap_lt h.ck
theorem CK.own_lt (h : CK w c now last V l) {y : Nat} (hy : OwnC c V y) : c ≤ y ∧ y < w.heap.size := by
  rcases hy with rfl | hy
  · exact ⟨Nat.le_refl _, h.lt⟩
  · have := h.row.lt y hy
    exact ⟨by omega, this.2⟩
theorem CK.keep (h : CK w c now last V l) (hk : ∀ y, OwnC c V y → w'.heap[y]? = w.heap[y]?) : CK w' c now last V l :=
  ⟨(hk c (.inl rfl)).trans h.ck, own_keep h.row fun g _ _ _ hg _ => hk g (.inr hg)⟩
theorem CK.below (h : CK w c now last V l) (hb : Below w.heap.size w w') : CK w' c now last V l := h.keep fun y hy => hb.block y (h.own_lt hy).2
theorem CK.cell (h : CK w c now last V l) : w.cell? ⟨c, 0, none⟩ = some (.int .i64 now) ∧ w.cell? ⟨c, 1, none⟩ = some (.int .i64 last) ∧ w.cell? ⟨c, 2, none⟩ = some V := ⟨(cell_of_heap h.ck).trans rfl, (cell_of_heap h.ck).trans rfl, (cell_of_heap h.ck).trans rfl⟩
theorem CK.slice (h : CK w c now last V l) : ∃ o cap, V = .slice o l.length cap := own_slice h.row
theorem CK.hq (h : CK w c now last V l) (hl : 0 < l.length) : ∃ g cap, V = .slice (some ⟨g, 0, none⟩) l.length cap ∧ c < g ∧ HQ w c g l.length cap now last l := by
  obtain ⟨o, cap, rfl⟩ := h.slice
  obtain ⟨g, rfl, hB, -, hq⟩ := QIn.of_row h.row hl
  exact ⟨g, cap, rfl, hB, h.ck, hq, by omega⟩
end
theorem HQ.to_ck {w : World} {c g n cap : Nat} {now last : Int} {l : List tm.T} (h : HQ w c g n cap now last l) (hc : c < g) : CK w c now last (.slice (some ⟨g, 0, none⟩) n cap) l := ⟨h.ck, h.q.row hc⟩
/-- what a call does with a clock -/
def CKR (c : Nat) (V : Value) (w w' : World) (now last : Int) (l : List tm.T) : Prop := ∃ V', CK w' c now last V' l ∧ Fr (OwnC c V) w w' ∧ ∀ y, OwnC c V' y → OwnC c V y ∨ w.heap.size ≤ y
/-- a timer more, as one step of a region that draws -/
theorem step_append_t {w : World} {ops : Array Oper} {o : Oper} {a : Act} {K : Act → World → Prop} {Q : Exit → Act → World → Prop} {E : Prop} (hgd : o.guard = none) (s x : Operand)
    (ho : o.op = Op.call { callee := Callee.builtin Builtin.append, args := #[s, x], argTypes := #[63, 63] }) (B : Nat) (v : Value) (l : List tm.T) (hs : a.eval s = v) (hown : TRow w B v l)
    (g : Nat) (e : tm.T) (hx : a.eval x = .slice (some ⟨g, 0, none⟩) 1 1) (hg : w.heap[g]? = some (.cells (tC e).toArray 70 (0, 0)))
    (hlen : l.length ≤ 1000) (hbase : B ≤ w.heap.size)
    (hK : ∀ v' w', TRow w' B v' (l ++ [e]) → w.grownBy w' v.ownBlock → (v'.ownBlock = v.ownBlock ∨ v'.ownBlock = some w.heap.size) → K (a.put o.dst v') w') :
    if Region.wanted o (yielded ops a.tmps) = true then Oper.wp Try.prog o a w K Q else E := by
  have hw : Region.wanted o (yielded ops a.tmps) = true := by simp [Region.wanted, hgd]
  rw [if_pos hw]
  obtain ⟨i0, hi, hz0, hz1, hz2⟩ := info_parts infoT
  obtain ⟨v', w', hrun, r1, r2, -, r4⟩ := run_append_own_at (P := Try.prog) w B 63 o.type 70 i0 _ 4 32 Try.underlying63 hi hz0 hz1 hz2 rfl (by omega) v l.length (tsC l) hown
    ⟨g, 0, none⟩ 1 1 (tC e) rfl (fun j u hu => by rw [addr_b0, cell_of_heap hg]; simpa using hu) (fun u hu => tsC_one [e] u (by simpa [tsC] using hu)) (by unfold maxLen; omega) (by omega) hbase
  unfold Oper.wp
  simp [execOp, ho, resolve, invoke, builtin, hs, hx, hrun, Result.andThen]
  refine hK _ _ ?_ r2 r4
  show w'.ownsRow B _ 4 v' (l ++ [e]).length (tsC (l ++ [e]))
  rw [List.length_append, tsC_app]
  simpa [tsC] using r1
theorem push_stored {w Wk w8 : World} {c : Nat} {now last : Int} {V v' : Value} {l l' : List tm.T} (h : CK w c now last V l) (hk : Below w.heap.size w Wk) (hr : TRow w8 (c + 1) v' l') (hg : Wk.grownBy w8 V.ownBlock) (hv : v'.ownBlock = V.ownBlock ∨ v'.ownBlock = some Wk.heap.size) :
    w8.heap[c]? = some (.cells #[.int .i64 now, .int .i64 last, V] 65 (0, 0)) ∧ CKR c V w (w8.setCell ⟨c, 2, none⟩ v') now last l' := by
  have hf : Fr (fun k => V.ownBlock = some k) Wk w8 := Fr.of_grown hg
  have hc0 : V.ownBlock ≠ some c := fun e => by have := (h.row.lt c e).1; omega
  have hck : w8.heap[c]? = some (.cells #[.int .i64 now, .int .i64 last, V] 65 (0, 0)) := ((hf.block c (Nat.lt_of_lt_of_le h.lt hk.size) hc0).trans (hk.block c h.lt)).trans h.ck
  refine ⟨hck, v', ⟨heap_setCell_same w8 c 2 _ _ _ hck, own_keep hr fun g _ hB _ _ _ => Below.heap_setCell _ _ _ g (by simp only; omega)⟩, ?_, ?_⟩
  · refine Fr.setCell ?_ _ _ (.inr (.inl rfl))
    exact (Fr.of_below hk _).trans hf (fun k _ x => .inr x)
  · rintro y (rfl | hy)
    · exact .inl (.inl rfl)
    · rcases hv with e | e
      · exact .inl (.inr (e.symm.trans hy))
      · right
        rw [e] at hy
        obtain rfl := Option.some.inj hy
        exact hk.size
theorem assert_t (t : tm.T) (w : World) : (Instr.typeAssert (.iface 70 (tV t)) 20 70 false).run Try.prog w = .ok (tV t) w := by kernel_rfl
set_option maxRecDepth 100000 in
set_option maxHeartbeats 1600000 in
theorem qpush_any (c : Nat) (now last : Int) (V : Value) (l : List tm.T) (t : tm.T) (w : World) (h : CK w c now last V l) (hl : l.length ≤ 1000) : Calls Try.prog 82 #[.pointer (some ⟨c, 2, none⟩), .iface 70 (tV t)] w fun e w' => e = .returned (.tuple #[]) ∧ CKR c V w w' now last (l ++ [t]) := by
  obtain ⟨-, -, c2⟩ := h.cell
  have hlt := h.lt
  have hfz : w.frozen? ⟨c, 2, none⟩ = false := thaw h.ck
  obtain ⟨o, cap, rfl⟩ := h.slice
  have HP : Hid (∀ k : Nat, TRow ((w.drewN k).alloc (tO t)) (c + 1) (.slice o l.length cap) l ∧ ((w.drewN k).alloc (tO t)).heap[w.heap.size]? = some (.cells (tC t).toArray 70 (0, 0)) ∧ c + 1 ≤ ((w.drewN k).alloc (tO t)).heap.size ∧ Below w.heap.size w ((w.drewN k).alloc (tO t))) := Lib.hid (fun k => by
    have hb : Below w.heap.size w ((w.drewN k).alloc (tO t)) := (below_dN (Below.refl w.heap.size w) k).alloc (Nat.le_refl _) _
    exact ⟨row_below h.row hb, heap_alloc_new (w.drewN k) _, Nat.le_trans hlt hb.size, hb⟩)
  have HH := Lib.hid h
  have hta := assert_t t
  clear h
  go_enter Try.func82, Try.ntmps82
  go_upto_region 0 with fail
  go_region_law (refine step_append_t rfl (.tmp 7) (.tmp 10) rfl (c + 1) (.slice o l.length cap) l rfl (HP.out _).1 w.heap.size t rfl (HP.out _).2.1 hl (HP.out _).2.2.1 ?_; intro v' w8 r1 r2 r4; obtain ⟨ov, cv, rfl⟩ : ∃ o c, v' = .slice o (l.length + 1) c := (by obtain ⟨o', c', e⟩ := own_slice r1; exact ⟨o', c', by rw [e, List.length_append, List.length_singleton]⟩); have hps := push_stored HH.out (HP.out _).2.2.2 r1 r2 r4; have H8 := Lib.hid hps.2; have c28 : w8.cell? ⟨c, 2, none⟩ = some (.slice o l.length cap) := (cell_of_heap hps.1).trans rfl; have f28 : w8.frozen? ⟨c, 2, none⟩ = false := thaw hps.1; have l8 := heap_lt hps.1; clear hps r1 r2 r4)
  all_goals go_wp2_with fail
  all_goals go_end0
  all_goals exact ⟨rfl, H8.out⟩
end Go.Proofs.Ytfelmnhhldgobaa
