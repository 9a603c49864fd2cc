/- The reader and its tokens in memory; fail, add, tell, remark. -/
import Derived.Test.YthmiaamjbokljaaGreatDoorTkLens
namespace Go.Proofs.YthmiaamjbokljaaGreatDoor
open Go.RowKit
theorem cell_of_heap {w : World} {p k : Nat} {cur : Array Value} {t : TypeId} (h : w.heap[p]? = some (.cells cur t (0, 0))) : w.cell? ⟨p, k, none⟩ = cur[k]? := by simp [World.cell?, h]
theorem heap_set_other (w : World) (a : Addr) (u : Value) {k : Nat} (h : k ≠ a.block) {o : Obj} (hk : w.heap[k]? = some o) : (w.setCell a u).heap[k]? = some o := (Below.heap_setCell w a u k h).trans hk
theorem below_one (W : World) (o : Obj) : Below W.heap.size W (W.alloc o) := (Below.refl _ _).alloc (Nat.le_refl _) o
theorem addr_b0 (b i : Nat) : (⟨b, 0, none⟩ : Addr).add i = ⟨b, i, none⟩ := by
  unfold Addr.add
  split <;> simp_all
theorem below_dN {B : Nat} {a w : World} (h : Below B a w) (n : Nat) : Below B a (w.drewN n) := ⟨h.os, h.tape, h.output, h.size, h.block⟩
theorem infoTok : (Tryz.prog.info? 82).map (fun i => (i.zero, i.size, i.bytes)) = some (some (Value.agg #[.int .i64 0, .string ByteArray.empty, .int .i64 0, .int .i64 0]), 4, 40) := by kernel_rfl
/-- a token's cells -/
def tok1 (t : tk.Tok) : List Value := [.int .i64 t.kind, str t.text, .int .i64 t.int, .int .i64 t.at_]
def tokC (l : List tk.Tok) : List Value := l.flatMap tok1
theorem tokC_snoc (l : List tk.Tok) (t : tk.Tok) : tokC (l ++ [t]) = tokC l ++ tok1 t := by simp [tokC]
/-- a token more, as one step of a region that draws -/
theorem step_append_tok {w : World} {ops : Array Oper} {o : Oper} {a : Act} {K : Act → World → Prop} {Q : Exit → Act → World → Prop} {E : Prop} (hgd : o.guard = none) (s x : Operand)
    (ho : o.op = Op.call { callee := Callee.builtin Builtin.append, args := #[s, x], argTypes := #[59, 59] }) (B : Nat) (v : Value) (l : List tk.Tok) (hs : a.eval s = v) (hown : w.ownsRow B 82 4 v l.length (tokC l))
    (g : Nat) (t : tk.Tok) (hx : a.eval x = .slice (some ⟨g, 0, none⟩) 1 1) (hg : w.heap[g]? = some (.cells (tok1 t).toArray 82 (0, 0)))
    (hlen : l.length ≤ 1099511627776) (hbase : B ≤ w.heap.size)
    (hK : ∀ v' w', w'.ownsRow B 82 4 v' (l.length + 1) (tokC (l ++ [t])) → Below B w w' → K (a.put o.dst v') w') :
    if Region.wanted o (yielded ops a.tmps) = true then Oper.wp Tryz.prog o a w K Q else E := by
  have hw : Region.wanted o (yielded ops a.tmps) = true := by simp [Region.wanted, hgd]
  rw [if_pos hw]
  obtain ⟨i0, hi, hz0, hz1, hz2⟩ := info_parts infoTok
  obtain ⟨v', w', hrun, r1, r2, _⟩ := run_append_own (P := Tryz.prog) w B 59 o.type 82 i0 _ 4 40 Tryz.underlying59 hi hz0 hz1 hz2 rfl (by omega) v l.length (tokC l) hown
    ⟨g, 0, none⟩ 1 1 (tok1 t) (by simp [tok1]) (fun j u hu => by rw [addr_b0, cell_of_heap hg]; simpa using hu) (fun u hu => by
      simp [tok1] at hu
      rcases hu with rfl | rfl | rfl | rfl <;> rfl) (by unfold maxLen; omega) (by omega) hbase
  have hq := hK v' w' (by rw [tokC_snoc]; exact r1) ((Below.refl B w).grown r2 hbase (fun k hk => (hown.lt k hk).1))
  unfold Oper.wp
  simp [execOp, ho, resolve, invoke, builtin, hs, hx, hrun, Result.andThen]
  exact hq
theorem row_below {w w' : World} {B : Nat} {e : TypeId} {size : Nat} {v : Value} {n : Nat} {xs : List Value} (h : w.ownsRow B e size v n xs) (hb : Below w.heap.size w w') : w'.ownsRow B e size v n xs := by
  refine ⟨h.1, ?_⟩
  rcases h.2 with h' | ⟨g, cap, cur, rfl, hg, hgg, rest⟩
  · exact .inl h'
  · exact .inr ⟨g, cap, cur, rfl, hg, (hb.block g (Array.getElem?_eq_some_iff.1 hgg).1).trans hgg, rest⟩
theorem own_slice {w : World} {base : Nat} {e : TypeId} {size : Nat} {v : Value} {n : Nat} {xs : List Value} (h : w.ownsRow base e size v n xs) : ∃ ao cap, v = .slice ao n cap := by
  rcases h.2 with ⟨rfl, rfl⟩ | ⟨g, cap, cur, rfl, _⟩
  · exact ⟨_, _, rfl⟩
  · exact ⟨_, _, rfl⟩
/-- the reader in block p, its tokens in a row of its own behind -/
structure RdAt (w : World) (p : Nat) (s : List UInt8) (r : tk.St) (V : Value) : Prop where
  blk : w.heap[p]? = some (.cells #[str s, .int .i64 r.at_, V, .int .i64 r.code, .int .i64 r.place] 79 (0, 0))
  row : w.ownsRow (p + 1) 82 4 V r.toks.length (tokC r.toks)
theorem RdAt.lt {w : World} {p : Nat} {s : List UInt8} {r : tk.St} {V : Value} (h : RdAt w p s r V) : p < w.heap.size := (Array.getElem?_eq_some_iff.1 h.blk).1
theorem RdAt.below {w w' : World} {p : Nat} {s : List UInt8} {r : tk.St} {V : Value} (h : RdAt w p s r V) (hb : Below w.heap.size w w') : RdAt w' p s r V :=
  ⟨(hb.block _ h.lt).trans h.blk, row_below h.row hb⟩
structure RdC (w : World) (p : Nat) (s : List UInt8) (r : tk.St) (V : Value) : Prop where
  c0 : w.cell? ⟨p, 0, none⟩ = some (str s)
  c1 : w.cell? ⟨p, 1, none⟩ = some (.int .i64 r.at_)
  c2 : w.cell? ⟨p, 2, none⟩ = some V
  c3 : w.cell? ⟨p, 3, none⟩ = some (.int .i64 r.code)
  c4 : w.cell? ⟨p, 4, none⟩ = some (.int .i64 r.place)
  f1 : w.frozen? ⟨p, 1, none⟩ = false
  f2 : w.frozen? ⟨p, 2, none⟩ = false
  f3 : w.frozen? ⟨p, 3, none⟩ = false
  f4 : w.frozen? ⟨p, 4, none⟩ = false
  lt : p < w.heap.size
theorem RdAt.cells {w : World} {p : Nat} {s : List UInt8} {r : tk.St} {V : Value} (h : RdAt w p s r V) : RdC w p s r V := by
  have hr := h.blk
  refine ⟨(cell_of_heap hr).trans rfl, (cell_of_heap hr).trans rfl, (cell_of_heap hr).trans rfl, (cell_of_heap hr).trans rfl, (cell_of_heap hr).trans rfl, ?_, ?_, ?_, ?_, h.lt⟩ <;> simp [World.frozen?, hr]
theorem RdAt.at_ {w : World} {p : Nat} {s : List UInt8} {r : tk.St} {V : Value} (h : RdAt w p s r V) (n : Nat) (x : Int) (hx : x = (n : Int)) : RdAt (w.setCell ⟨p, 1, none⟩ (.int .i64 x)) p s { r with at_ := n } V := by
  subst hx
  exact ⟨heap_setCell_same w p 1 _ _ _ h.blk, ownsRow_setCell_below h.row (Nat.lt_succ_self p) _⟩
theorem RdAt.fault {w : World} {p : Nat} {s : List UInt8} {r : tk.St} {V : Value} (h : RdAt w p s r V) (c : Nat) (x : Int) : RdAt ((w.setCell ⟨p, 3, none⟩ (.int .i64 c)).setCell ⟨p, 4, none⟩ (.int .i64 x)) p s (tk.fail r c x) V := by
  have h1 := heap_setCell_same w p 3 _ _ (.int .i64 c) h.blk
  exact ⟨heap_setCell_same _ p 4 _ _ (.int .i64 x) h1, ownsRow_setCell_below (ownsRow_setCell_below h.row (Nat.lt_succ_self p) _) (Nat.lt_succ_self p) _⟩
set_option maxRecDepth 100000 in
set_option maxHeartbeats 1600000 in
theorem fail_any (p : Nat) (s : List UInt8) (r : tk.St) (V : Value) (c : Nat) (x : Int) (w : World) (h : RdAt w p s r V) :
    Calls Tryz.prog 65 #[.pointer (some ⟨p, 0, none⟩), .int .i64 c, .int .i64 x] w fun e w' => e = .returned (.tuple #[]) ∧ RdAt w' p s (tk.fail r c x) V ∧ Below p w w' := by
  obtain ⟨c0, c1, c2, c3, c4, f1, f2, f3, f4, u⟩ := h.cells
  have H := Lib.hid (And.intro (h.fault c x) (((Below.refl p w).setCell (show p ≤ (⟨p, 3, none⟩ : Addr).block from Nat.le_refl _) (.int .i64 c)).setCell (show p ≤ (⟨p, 4, none⟩ : Addr).block from Nat.le_refl _) (.int .i64 x)))
  clear h
  go_enter Tryz.func65, Tryz.ntmps65
  go_wp2_with fail
  go_end0
  exact ⟨rfl, H.out.1, H.out.2⟩
theorem RdAt.put {w : World} {p : Nat} {s : List UInt8} {r : tk.St} {V v' : Value} {l : List tk.Tok} {n : Nat} (hn : n = l.length) (h : w.heap[p]? = some (.cells #[str s, .int .i64 r.at_, V, .int .i64 r.code, .int .i64 r.place] 79 (0, 0))) (hrow : w.ownsRow (p + 1) 82 4 v' n (tokC l)) :
    RdAt (w.setCell ⟨p, 2, none⟩ v') p s { r with toks := l } v' :=
  ⟨heap_setCell_same w p 2 _ _ _ h, hn ▸ ownsRow_setCell_below hrow (Nat.lt_succ_self p) _⟩
set_option maxRecDepth 100000 in
set_option maxHeartbeats 1600000 in
theorem add_any (p : Nat) (s : List UInt8) (r : tk.St) (V : Value) (t : tk.Tok) (a0 : Int) (n : Nat) (w : World) (h : RdAt w p s r V) (hat : r.at_ + n ≤ 1099511627776) (hlen : r.toks.length ≤ 1048576) :
    Calls Tryz.prog 81 #[.pointer (some ⟨p, 0, none⟩), .agg #[.int .i64 t.kind, str t.text, .int .i64 t.int, .int .i64 a0], .int .i64 n] w fun e w' => e = .returned (.tuple #[]) ∧ (∃ V', RdAt w' p s (tk.add r t n) V') ∧ Below p w w' := by
  obtain ⟨c0, c1, c2, c3, c4, f1, f2, f3, f4, u⟩ := h.cells
  have HP : Hid (∀ k : Nat, (((w.alloc (.cells #[.int .i64 t.kind, str t.text, .int .i64 t.int, .int .i64 r.at_] 82)).drewN k).alloc (.cells #[.int .i64 t.kind, str t.text, .int .i64 t.int, .int .i64 r.at_] 82)).ownsRow (p + 1) 82 4 V r.toks.length (tokC r.toks) ∧ (((w.alloc (.cells #[.int .i64 t.kind, str t.text, .int .i64 t.int, .int .i64 r.at_] 82)).drewN k).alloc (.cells #[.int .i64 t.kind, str t.text, .int .i64 t.int, .int .i64 r.at_] 82)).heap[w.heap.size + 1]? = some (.cells (tok1 { t with at_ := r.at_ }).toArray 82 (0, 0)) ∧ Below w.heap.size w (((w.alloc (.cells #[.int .i64 t.kind, str t.text, .int .i64 t.int, .int .i64 r.at_] 82)).drewN k).alloc (.cells #[.int .i64 t.kind, str t.text, .int .i64 t.int, .int .i64 r.at_] 82)) ∧ p + 1 ≤ (((w.alloc (.cells #[.int .i64 t.kind, str t.text, .int .i64 t.int, .int .i64 r.at_] 82)).drewN k).alloc (.cells #[.int .i64 t.kind, str t.text, .int .i64 t.int, .int .i64 r.at_] 82)).heap.size) := Lib.hid (fun k => by
    have hb1 := below_one w (.cells #[.int .i64 t.kind, str t.text, .int .i64 t.int, .int .i64 r.at_] 82)
    have hb : Below w.heap.size w (((w.alloc (.cells #[.int .i64 t.kind, str t.text, .int .i64 t.int, .int .i64 r.at_] 82)).drewN k).alloc (.cells #[.int .i64 t.kind, str t.text, .int .i64 t.int, .int .i64 r.at_] 82)) := hb1.trans (((below_dN (Below.refl w.heap.size _) k)).alloc (by simp) _)
    refine ⟨row_below h.row hb, ?_, hb, ?_⟩
    · have := heap_alloc_new ((w.alloc (.cells #[.int .i64 t.kind, str t.text, .int .i64 t.int, .int .i64 r.at_] 82)).drewN k) (.cells #[.int .i64 t.kind, str t.text, .int .i64 t.int, .int .i64 r.at_] 82)
      rw [show ((w.alloc (.cells #[.int .i64 t.kind, str t.text, .int .i64 t.int, .int .i64 r.at_] 82)).drewN k).heap.size = w.heap.size + 1 by simp] at this
      exact this
    · simp
      omega)
  have HH := Lib.hid h
  have hlen2 : r.toks.length ≤ 1099511627776 := by omega
  clear h
  go_enter Tryz.func81, Tryz.ntmps81
  go_upto_region 2 with fail
  go_cut [] from 6 to 28 (fun wx => ∃ v', Hid (RdAt wx p s { r with toks := r.toks ++ [{ t with at_ := r.at_ }] } v' ∧ Below p w wx))
  case first =>
    go_region_law (refine step_append_tok rfl (.tmp 15) (.tmp 17) rfl (p + 1) V r.toks rfl (HP.out _).1 (w.heap.size + 1) { t with at_ := r.at_ } rfl (HP.out _).2.1 hlen2 (HP.out _).2.2.2 ?_; intro v' w3 r1 r2; obtain ⟨ao3, cap3, rfl⟩ := own_slice r1; have hblk := (r2.block p (Nat.lt_succ_self p)).trans (((HP.out _).2.2.1.block p u).trans HH.out.blk); have d2 : w3.cell? ⟨p, 2, none⟩ = some V := (cell_of_heap hblk).trans rfl; have e2 : w3.frozen? ⟨p, 2, none⟩ = false := (by simp [World.frozen?, hblk]); have HR := Lib.hid (And.intro (RdAt.put (l := r.toks ++ [({ t with at_ := r.at_ } : tk.Tok)]) (by simp) hblk r1) ((((HP.out _).2.2.1.mono (Nat.le_of_lt u)).trans (r2.mono (Nat.le_succ p))).setCell (show p ≤ (⟨p, 2, none⟩ : Addr).block from Nat.le_refl _) (.slice ao3 (r.toks.length + 1) cap3))); clear hblk r1 r2)
    all_goals
      go_wp2_with fail
      go_meet
      exact ⟨_, HR⟩
  case rest =>
  obtain ⟨v', HR⟩ := hcut
  clear c0 c1 c2 c3 c4 f1 f2 f3 f4
  obtain ⟨c0, c1, c2, c3, c4, f1, f2, f3, f4, u2⟩ := HR.out.1.cells
  have HE := Lib.hid (And.intro (HR.out.1.at_ (r.at_ + n) ((r.at_ : Int) + n) (by omega)) (HR.out.2.setCell (show p ≤ (⟨p, 1, none⟩ : Addr).block from Nat.le_refl _) (.int .i64 ((r.at_ : Int) + n))))
  have hw : IntKind.i64.wrap ((r.at_ : Int) + n) = (r.at_ : Int) + n := by rw [IntKind.wrap_i64]; omega
  go_wp2_with fail
  go_end0
  exact ⟨rfl, ⟨_, HE.out.1⟩, HE.out.2⟩
end Go.Proofs.YthmiaamjbokljaaGreatDoor
