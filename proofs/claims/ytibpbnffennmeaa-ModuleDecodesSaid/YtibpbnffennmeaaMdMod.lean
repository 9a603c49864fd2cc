/- module: the reader's whole module. -/
import Derived.Test.YtibpbnffennmeaaMdDec
namespace Go.Proofs.Ytibpbnffennmeaa
open Go.RowKit
def md.sA (s : md.St) : md.St := (md.sign 1 s).2
def md.sB (s : md.St) : md.St := md.sA (md.sign 77 s).2
def md.sC (s : md.St) : md.St := md.sB (md.sign 83 s).2
def md.sD (s : md.St) : md.St := md.sC (md.sign 67 s).2
/-- so many bytes of the sign are still to come -/
def md.sgR (n : Nat) : md.St → md.St :=
  match n with
  | 0 => fun s => s
  | 1 => md.sA
  | 2 => md.sB
  | 3 => md.sC
  | _ => md.sD
theorem md.module_sg (s : md.St) : md.module_ s = md.body (md.sgR 4 s) := by
  show _ = md.body (md.sD s)
  unfold md.sD md.sC md.sB md.sA md.module_
  generalize md.body = f
  rfl
theorem md.sg_step (k : Nat) (h : k < 4) (st : md.St) : md.sgR (4 - k) st = md.sgR (4 - (k + 1)) (md.next (fun x => decide (x.toNat = (md.head[k]'h).toNat)) st).2 := by
  rcases (show k = 0 ∨ k = 1 ∨ k = 2 ∨ k = 3 by omega) with rfl | rfl | rfl | rfl
  · show md.sD st = md.sC _; rfl
  · show md.sC st = md.sB _; rfl
  · show md.sB st = md.sA _; rfl
  · show md.sA st = _; rfl
/-- functions of a call's own: each one's code in a row of its own -/
def FnO (w : World) (B : Nat) (f : md.Fn) (cs : List Value) : Prop := ∃ VC, cs = [.int .i64 f.params, .int .i64 f.results, .int .i64 f.locals, VC] ∧ w.ownsRow B 37 2 VC f.code.length (codeC f.code)
def FnsO (w : World) (B : Nat) : List md.Fn → List Value → Prop
  | [], cs => cs = []
  | f :: r, cs => ∃ c0 c1, cs = c0 ++ c1 ∧ FnO w B f c0 ∧ FnsO w B r c1
theorem FnO.keep {w w' : World} {B B' : Nat} (hB : B' ≤ B) (hk : ∀ (k : Nat) (cur : Array Value), B ≤ k → w.heap[k]? = some (.cells cur 37 (0, 0)) → w'.heap[k]? = w.heap[k]?) {f : md.Fn} {cs : List Value} (h : FnO w B f cs) : FnO w' B' f cs := by
  obtain ⟨VC, e, hr⟩ := h
  exact ⟨VC, e, own_base (own_keep hr (fun g cur hg _ _ hc => hk g cur hg hc)) hB⟩
theorem FnsO.keep {w w' : World} {B B' : Nat} (hB : B' ≤ B) (hk : ∀ (k : Nat) (cur : Array Value), B ≤ k → w.heap[k]? = some (.cells cur 37 (0, 0)) → w'.heap[k]? = w.heap[k]?) : ∀ (l : List md.Fn) (cs : List Value), FnsO w B l cs → FnsO w' B' l cs
  | [], _, h => h
  | _ :: r, _, h => by
    obtain ⟨c0, c1, e, h0, h1⟩ := h
    exact ⟨c0, c1, e, FnO.keep hB hk h0, FnsO.keep hB hk r c1 h1⟩
theorem FnsO.snoc {w : World} {B : Nat} {f : md.Fn} {c : List Value} (hf : FnO w B f c) : ∀ (l : List md.Fn) (cs : List Value), FnsO w B l cs → FnsO w B (l ++ [f]) (cs ++ c)
  | [], cs, h => by
    obtain rfl : cs = [] := h
    exact ⟨c, [], by simp, hf, rfl⟩
  | g :: r, cs, h => by
    obtain ⟨c0, c1, rfl, h0, h1⟩ := h
    exact ⟨c0, c1 ++ c, by simp, h0, FnsO.snoc hf r c1 h1⟩
theorem FnsO.len {w : World} {B : Nat} : ∀ (l : List md.Fn) (cs : List Value), FnsO w B l cs → cs.length = l.length * 4
  | [], cs, h => by
    obtain rfl : cs = [] := h
    rfl
  | f :: r, cs, h => by
    obtain ⟨c0, c1, rfl, ⟨VC, rfl, -⟩, h1⟩ := h
    have := FnsO.len r c1 h1
    simp only [List.length_append, List.length_cons, List.length_nil]
    omega
theorem FnsO.toC {w : World} {B : Nat} : ∀ (l : List md.Fn) (cs : List Value), FnsO w B l cs → FnsC w (fun k => B ≤ k ∧ k < w.heap.size) l cs
  | [], _, h => h
  | f :: r, _, h => by
    obtain ⟨c0, c1, e, ⟨VC, e2, hr⟩, h1⟩ := h
    exact ⟨c0, c1, e, ⟨VC, e2, RowIn.of_own hr (codeC_len _) _ (fun g hg => hr.lt g hg)⟩, FnsO.toC r c1 h1⟩
/-- a module of a call's own -/
structure ModO (w : World) (B : Nat) (VD VF : Value) (m : md.Mod) : Prop where
  data : BRow w B VD m.data
  fns : ∃ cs, w.ownsRow B 40 4 VF m.funcs.length cs ∧ FnsO w B m.funcs cs
theorem ModO.toIn {w : World} {B : Nat} {VD VF : Value} {m : md.Mod} (h : ModO w B VD VF m) : ModIn w (fun k => B ≤ k ∧ k < w.heap.size) VD VF m := by
  obtain ⟨cs, hr, hf⟩ := h.fns
  exact ⟨RowIn.of_own h.data (by rw [byC_len, Nat.mul_one]) _ (fun g hg => h.data.lt g hg), cs, RowIn.of_own hr (FnsO.len _ _ hf) _ (fun g hg => hr.lt g hg), FnsO.toC _ _ hf⟩
theorem ModO.below {w w' : World} {B : Nat} {VD VF : Value} {m : md.Mod} (h : ModO w B VD VF m) (hb : Below w.heap.size w w') : ModO w' B VD VF m := by
  obtain ⟨cs, hr, hf⟩ := h.fns
  exact ⟨row_below h.data hb, cs, row_below hr hb, FnsO.keep (Nat.le_refl _) (fun k cur _ hk => hb.block k (heap_lt hk)) _ _ hf⟩
theorem ModO.zero (w : World) (B : Nat) : ModO w B (.slice none 0 0) (.slice none 0 0) md.zero := ⟨World.ownsRow_nil _ _ _ _, [], World.ownsRow_nil _ _ _ _, rfl⟩
theorem ModO.base {w : World} {B B' : Nat} {VD VF : Value} {m : md.Mod} (h : ModO w B VD VF m) (hB : B' ≤ B) : ModO w B' VD VF m := by
  obtain ⟨cs, hr, hf⟩ := h.fns
  exact ⟨own_base h.data hB, cs, own_base hr hB, FnsO.keep hB (fun _ _ _ _ => rfl) _ _ hf⟩
abbrev modZ : Obj := .cells #[.int .i64 0, .slice none 0 0, .slice none 0 0] 26
abbrev fnO2 (f : md.Fn) (VC : Value) : Obj := .cells #[.int .i64 f.params, .int .i64 f.results, .int .i64 f.locals, VC] 40
/-- where module stands -/
structure MA (w wr : World) (p q : Nat) (st : md.St) (mem : Int) (VD VF : Value) (d : List UInt8) (fs : List md.Fn) : Prop where
  rd : RdAt wr p st
  z : wr.heap[w.heap.size]? = some modZ
  nd : wr.heap[q]? = some (.cells #[.int .i64 mem, VD, VF] 26 (0, 0))
  own : ModO wr w.heap.size VD VF ⟨mem, d, fs⟩
  fr : Fr (· = p) w wr
theorem ModO.fr {S : Nat → Prop} {w w' : World} {B : Nat} {VD VF : Value} {m : md.Mod} (h : ModO w B VD VF m) (hf : Fr S w w') (hS : ∀ k, B ≤ k → ¬ S k) : ModO w' B VD VF m := by
  obtain ⟨cs, hr, hfs⟩ := h.fns
  exact ⟨own_keep h.data (fun g _ hB hg _ _ => hf.block g hg (hS g hB)), cs, own_keep hr (fun g _ hB hg _ _ => hf.block g hg (hS g hB)), FnsO.keep (Nat.le_refl _) (fun k cur hB hk => hf.block k (heap_lt hk) (hS k hB)) _ _ hfs⟩
section
variable {w wr wr' : World} {p q : Nat} {st st' : md.St} {mem : Int} {VD VF VF' : Value} {d : List UInt8} {fs : List md.Fn}
theorem MA.below (h : MA w wr p q st mem VD VF d fs) (hb : Below wr.heap.size wr wr') : MA w wr' p q st mem VD VF d fs :=
  ⟨h.rd.below hb, (hb.block _ (heap_lt h.z)).trans h.z, (hb.block _ (heap_lt h.nd)).trans h.nd, h.own.below hb, h.fr.below hb⟩
theorem MA.read (h : MA w wr p q st mem VD VF d fs) (hp : p < w.heap.size) (hq : w.heap.size < q) (hr : RdAt wr' p st') (hf : Fr (· = p) wr wr') : MA w wr' p q st' mem VD VF d fs :=
  ⟨hr, (hf.block _ (heap_lt h.z) (show ¬ w.heap.size = p by omega)).trans h.z, (hf.block _ (heap_lt h.nd) (show ¬ q = p by omega)).trans h.nd, h.own.fr hf (fun k hk => show ¬ k = p by omega), h.fr.then hf⟩
theorem MA.ndg (h : MA w wr p q st mem VD VF d fs) (hg : wr.grownBy wr' VF.ownBlock) : wr'.heap[q]? = some (.cells #[.int .i64 mem, VD, VF] 26 (0, 0)) :=
  (hg.block q (heap_lt h.nd) (fun e => by
    obtain ⟨cs, hr, -⟩ := h.own.fns
    obtain ⟨cur, hc⟩ := own_type hr e.symm
    rw [h.nd] at hc
    injection hc with hc
    injection hc with _ e2
    exact absurd e2 (by decide))).trans h.nd
/-- one function more -/
theorem MA.fn {wn : World} (h : MA w wr p q st mem VD VF d fs) (hp : p < w.heap.size) (hq : w.heap.size < q) (f : md.Fn) {VC : Value} {cs : List Value} (hr0 : wr.ownsRow w.heap.size 40 4 VF fs.length cs) (hc0 : FnsO wr w.heap.size fs cs)
    (hcode : wr.ownsRow w.heap.size 37 2 VC f.code.length (codeC f.code)) (hr : wn.ownsRow w.heap.size 40 4 VF' (fs.length + 1) (cs ++ [.int .i64 f.params, .int .i64 f.results, .int .i64 f.locals, VC])) (hg : wr.grownBy wn VF.ownBlock) : MA w (wn.setCell ⟨q, 2, none⟩ VF') p q st mem VD VF' d (fs ++ [f]) := by
  have hty : ∀ (k : Nat) (o : Obj), wr.heap[k]? = some o → (∀ cur, o ≠ Obj.cells cur 40 (0, 0)) → wn.heap[k]? = some o := fun k o hk ho => (hg.block k (heap_lt hk) (fun e => by
    obtain ⟨cur, hc⟩ := own_type hr0 e.symm
    rw [hk] at hc
    exact ho cur (Option.some.inj hc))).trans hk
  have hset : ∀ k, k ≠ q → (wn.setCell ⟨q, 2, none⟩ VF').heap[k]? = wn.heap[k]? := fun k hk => Below.heap_setCell wn ⟨q, 2, none⟩ VF' k hk
  have hz := hty _ _ h.z (fun cur e => by injection e with _ e2; exact absurd e2 (by decide))
  have hn := hty _ _ h.nd (fun cur e => by injection e with _ e2; exact absurd e2 (by decide))
  have hlow : ∀ k, k < w.heap.size → k < wr.heap.size → wn.heap[k]? = wr.heap[k]? := fun k hk hk2 => hg.block k hk2 (fun e => by have := (hr0.lt k e.symm).1; omega)
  have hbyte : ∀ (g : Nat) (cur : Array Value), wr.heap[g]? = some (.cells cur 5 (0, 0)) → (wn.setCell ⟨q, 2, none⟩ VF').heap[g]? = wr.heap[g]? := fun g cur hc => by
    have h1 := hty _ _ hc (fun cur e => by injection e with _ e2; exact absurd e2 (by decide))
    exact (hset g (by rintro rfl; rw [hn] at h1; injection h1 with h1; injection h1 with _ e2; exact absurd e2 (by decide))).trans (h1.trans hc.symm)
  have hins : ∀ (g : Nat) (cur : Array Value), wr.heap[g]? = some (.cells cur 37 (0, 0)) → (wn.setCell ⟨q, 2, none⟩ VF').heap[g]? = wr.heap[g]? := fun g cur hc => by
    have h1 := hty _ _ hc (fun cur e => by injection e with _ e2; exact absurd e2 (by decide))
    exact (hset g (by rintro rfl; rw [hn] at h1; injection h1 with h1; injection h1 with _ e2; exact absurd e2 (by decide))).trans (h1.trans hc.symm)
  refine ⟨(h.rd.keep (fun k hk => hlow k (by omega) (Nat.lt_of_le_of_lt hk h.rd.lt)) hg.size).set _ _ (by show p < q; omega), (hset _ (by omega)).trans hz, heap_setCell_same wn q 2 _ _ VF' hn,
    ⟨own_keep h.own.data (fun g cur _ _ _ hc => hbyte g cur hc), cs ++ [.int .i64 f.params, .int .i64 f.results, .int .i64 f.locals, VC], ?_, ?_⟩, ?_⟩
  · show World.ownsRow _ _ _ _ _ (fs ++ [f]).length _
    rw [List.length_append, List.length_singleton]
    exact own_keep hr (fun g cur hB _ _ hc => hset g (by rintro rfl; rw [hn] at hc; injection hc with hc; injection hc with _ e2; exact absurd e2 (by decide)))
  · exact FnsO.snoc ⟨VC, rfl, own_keep hcode (fun g cur _ _ _ hc => hins g cur hc)⟩ _ _ (FnsO.keep (Nat.le_refl _) (fun k cur _ hc => hins k cur hc) _ _ hc0)
  · exact (h.fr.trans (Fr.of_grown hg) (fun k hk e => by have := (hr0.lt k e).1; omega)).setCell _ _ (.inl (by show w.heap.size ≤ q; omega))
/-- a function's cells, laid behind all there is -/
theorem fnLaid (h : MA w wr p q st mem VD VF d fs) (f : md.Fn) (VC : Value) {cs : List Value} (hr : wr.ownsRow w.heap.size 40 4 VF fs.length cs) (hfs : FnsO wr w.heap.size fs cs) (hc : wr.ownsRow w.heap.size 37 2 VC f.code.length (codeC f.code)) :
    (wr.alloc (fnO2 f VC)).ownsRow w.heap.size 40 4 VF fs.length cs ∧ FnsO (wr.alloc (fnO2 f VC)) w.heap.size fs cs ∧ MA w (wr.alloc (fnO2 f VC)) p q st mem VD VF d fs ∧ (wr.alloc (fnO2 f VC)).ownsRow w.heap.size 37 2 VC f.code.length (codeC f.code) ∧ ∀ u ∈ [Value.int .i64 f.params, .int .i64 f.results, .int .i64 f.locals, VC], u.oneCell' = true := by
  have hb := below_one wr (fnO2 f VC)
  refine ⟨row_below hr hb, FnsO.keep (Nat.le_refl _) (fun k cur _ hk => hb.block k (heap_lt hk)) _ _ hfs, h.below hb, row_below hc hb, fun u hu => ?_⟩
  obtain ⟨ao, ac, rfl⟩ := own_slice hc
  simp at hu
  rcases hu with rfl | rfl | rfl | rfl <;> rfl
end
theorem md.two1024 (s : md.St) : (md.two 0 1024 s).1 ≤ 1024 := by rcases md.two_st 0 1024 s with h | h <;> omega
theorem md.two_mem (m : Nat) (hm : m ≤ 1024) (s : md.St) : (md.two 0 m s).1 ≤ 1024 := by rcases md.two_st 0 m s with h | h <;> omega
set_option maxRecDepth 100000 in
set_option maxHeartbeats 3200000 in
theorem module_any (p : Nat) (s : md.St) (w : World) (h : RdAt w p s) :
    Calls Try.prog 10 #[.pointer (some ⟨p, 0, none⟩)] w fun e w' => ∃ VD VF, e = .returned (modV (md.module_ s).1 VD VF) ∧ ModO w' w.heap.size VD VF (md.module_ s).1 ∧ RdAt w' p (md.module_ s).2 ∧ Fr (· = p) w w' := by
  have hp := h.lt
  have hb1 := below_one w modZ
  have H1 := Lib.hid (And.intro (h.below hb1) (And.intro (heap_alloc_new w modZ) ((Fr.refl (· = p) w).below hb1)))
  have HR := Lib.hid (md.module_sg s)
  obtain ⟨S4, hS4⟩ : ∃ S4, md.sgR 4 s = S4 := ⟨_, rfl⟩
  have HS4 := Lib.hid hS4
  rw [hS4] at HR
  generalize md.module_ s = R at *
  clear h hb1 hS4
  go_enter Try.func10, Try.ntmps10
  go_upto_region 2 with fail
  generalize w.alloc modZ = w1 at *
  go_loopg [5] 4 (fun gg s5 wr => ∃ (k : Nat) (st : md.St), s5 = .int .i64 k ∧ k ≤ 4 ∧ 4 - k ≤ gg ∧ Hid (RdAt wr p st ∧ wr.heap[w.heap.size]? = some modZ ∧ Fr (· = p) w wr ∧ md.sgR (4 - k) st = S4))
  case atStart => exact ⟨0, s, rfl, Nat.zero_le _, by omega, Lib.hid ⟨H1.out.1, H1.out.2.1, H1.out.2.2, HS4.out⟩⟩
  case round =>
    clear H1 HS4
    obtain ⟨k, st, rfl, hk, hgg, HA⟩ := hrel
    by_cases hlt : k < 4
    case pos =>
      have hki : (k : Int) < 4 := by omega
      have hb2 := below_one wr (.cells #[.int .i64 k] 3)
      have hn2 := heap_alloc_new wr (.cells #[.int .i64 k] 3)
      have hpw : p < wr.heap.size := HA.out.1.lt
      have H2 := Lib.hid (And.intro ((hb2.block _ (heap_lt HA.out.2.1)).trans HA.out.2.1) (HA.out.2.2.1.below hb2))
      have HN := Lib.hid (next_sign (fun x => decide (x.toNat = (md.head[k]'hlt).toNat)) p wr.heap.size st _ (HA.out.1.below hb2) (fun c => signT_any k wr.heap.size hlt c _ ((cell_of_heap hn2).trans rfl)))
      have HS := Lib.hid (md.sg_step k hlt st)
      generalize md.next (fun x => decide (x.toNat = (md.head[k]'hlt).toNat)) st = Y at *
      obtain ⟨c, st'⟩ := Y
      dsimp only at HN HS
      generalize c.toNat = x at *
      clear hb2 hn2
      go_wp2_with fail
      refine HN.out.mono ?_
      rintro e w2 ⟨rfl, hr2, hf2⟩
      have H3 := Lib.hid (And.intro hr2 (And.intro ((hf2.block _ (heap_lt H2.out.1) (show ¬ _ = p by omega)).trans H2.out.1) (And.intro (H2.out.2.then hf2) (HS.out.symm.trans HA.out.2.2.2))))
      clear hr2 hf2 HN H2 HA
      go_wp2_with fail
      go_roundg (4 - (k + 1))
      case measure => omega
      case rel => exact ⟨k + 1, st', by go_num, by omega, Nat.le_refl _, H3⟩
    case neg =>
      obtain rfl : k = 4 := by omega
      have HA2 : Hid (RdAt wr p S4 ∧ wr.heap[w.heap.size]? = some modZ ∧ Fr (· = p) w wr) := Lib.hid ⟨by rw [← HA.out.2.2.2]; exact HA.out.1, HA.out.2.1, HA.out.2.2.1⟩
      clear HA
      have HO1 := Lib.hid (two_any 0 1024 p S4 wr HA2.out.1)
      have hm := md.two1024 S4
      obtain ⟨X, hX⟩ : ∃ X, md.two 0 1024 S4 = X := ⟨_, rfl⟩
      have HR1 : Hid (R = (md.bnd (md.two 0 (md.two 0 1024 S4).1) fun n => md.bnd (md.data n) fun d => md.bnd (md.one 1 16) fun k => md.bnd (md.many md.fn k) fun fs => md.ret (⟨(md.two 0 1024 S4).1, d, fs⟩ : md.Mod)) (md.two 0 1024 S4).2) := Lib.hid (by rw [HR.out]; rfl)
      rw [hX] at HO1 HR1 hm
      obtain ⟨mem, s1⟩ := X
      dsimp only at HO1 HR1 hm
      clear hX HR
      go_upto_region 6 with fail
      go_wp2_with fail
      refine HO1.out.mono ?_
      rintro e w3 ⟨rfl, hr3, hf3⟩
      have b3 := (hf3.block _ (heap_lt HA2.out.2.1) (show ¬ _ = p by omega)).trans HA2.out.2.1
      have hs3 := heap_lt b3
      have hb4 := below_one w3 (.cells #[.int .i64 mem, .slice none 0 0, .slice none 0 0] 26)
      have hn4 := heap_alloc_new w3 (.cells #[.int .i64 mem, .slice none 0 0, .slice none 0 0] 26)
      have H4 : Hid (MA w (w3.alloc (.cells #[.int .i64 mem, .slice none 0 0, .slice none 0 0] 26)) p w3.heap.size s1 mem (.slice none 0 0) (.slice none 0 0) [] []) := Lib.hid
        ⟨hr3.below hb4, (hb4.block _ hs3).trans b3, hn4, ⟨World.ownsRow_nil _ _ _ _, [], World.ownsRow_nil _ _ _ _, rfl⟩, (HA2.out.2.2.then hf3).below hb4⟩
      have hwq : w.heap.size < w3.heap.size := hs3
      clear b3 hs3 hb4 hn4 hr3 hf3 HO1 HA2
      go_upto_region 7 with fail
      generalize w3.alloc (.cells #[.int .i64 mem, .slice none 0 0, .slice none 0 0] 26) = w4 at *
      generalize w3.heap.size = q at *
      have HO2 := Lib.hid (two_any 0 mem p s1 w4 H4.out.rd)
      have hn := md.two_mem mem hm s1
      obtain ⟨X, hX⟩ : ∃ X, md.two 0 mem s1 = X := ⟨_, rfl⟩
      have HR2 : Hid (R = (md.bnd (md.data (md.two 0 mem s1).1) fun d => md.bnd (md.one 1 16) fun k => md.bnd (md.many md.fn k) fun fs => md.ret (⟨mem, d, fs⟩ : md.Mod)) (md.two 0 mem s1).2) := Lib.hid (by rw [HR1.out]; rfl)
      rw [hX] at HO2 HR2 hn
      obtain ⟨nd, s2⟩ := X
      dsimp only at HO2 HR2 hn
      clear hX HR1
      have k0 : w4.cell? ⟨q, 0, none⟩ = some (.int .i64 mem) := (cell_of_heap H4.out.nd).trans rfl
      have hlt4 := heap_lt H4.out.nd
      go_wp2_with fail
      refine HO2.out.mono ?_
      rintro e w5 ⟨rfl, hr5, hf5⟩
      have H5 := Lib.hid (H4.out.read hp hwq hr5 hf5)
      clear hr5 hf5 HO2 H4 k0 hlt4
      have HO3 := Lib.hid (data_any p nd s2 w5 H5.out.rd (by omega))
      obtain ⟨X, hX⟩ : ∃ X, md.data nd s2 = X := ⟨_, rfl⟩
      have HR3 : Hid (R = (md.bnd (md.one 1 16) fun k => md.bnd (md.many md.fn k) fun fs => md.ret (⟨mem, (md.data nd s2).1, fs⟩ : md.Mod)) (md.data nd s2).2) := Lib.hid (by rw [HR2.out]; rfl)
      rw [hX] at HO3 HR3
      obtain ⟨d, s3⟩ := X
      dsimp only at HO3 HR3
      clear hX HR2
      go_wp2_with fail
      refine HO3.out.mono ?_
      rintro e w6 ⟨VD, rfl, hd6, hr6, hf6⟩
      have h6 := H5.out.read hp hwq hr6 hf6
      have hw5 : w.heap.size ≤ w5.heap.size := H5.out.fr.size
      have hq5 := heap_lt H5.out.nd
      have hset : ∀ k, k ≠ q → (w6.setCell ⟨q, 1, none⟩ VD).heap[k]? = w6.heap[k]? := fun k hk => Below.heap_setCell w6 ⟨q, 1, none⟩ VD k hk
      have H7 : Hid (MA w (w6.setCell ⟨q, 1, none⟩ VD) p q s3 mem VD (.slice none 0 0) d []) := Lib.hid
        ⟨h6.rd.set _ _ (by show p < q; omega), (hset _ (by omega)).trans h6.z, heap_setCell_same w6 q 1 _ _ _ h6.nd,
          ⟨own_base (own_keep hd6 (fun g _ hg _ _ _ => hset g (by omega))) hw5, [], World.ownsRow_nil _ _ _ _, rfl⟩, h6.fr.setCell _ _ (.inl (by show w.heap.size ≤ q; omega))⟩
      have c1 : w6.cell? ⟨q, 1, none⟩ = some (.slice none 0 0) := (cell_of_heap h6.nd).trans rfl
      have f1 := thaw (k := 1) h6.nd
      have hlt6 := heap_lt h6.nd
      obtain ⟨aoD, cD, rfl⟩ := own_slice hd6
      clear h6 hd6 hr6 hf6 hset HO3 H5 hw5 hq5
      go_upto_region 8 with fail
      generalize w6.setCell ⟨q, 1, none⟩ (.slice aoD d.length cD) = w7 at *
      clear c1 f1 hlt6
      have HO4 := Lib.hid (one_any 1 16 p s3 w7 H7.out.rd)
      have hk16 := md.one_le 1 16 s3
      obtain ⟨X, hX⟩ : ∃ X, md.one 1 16 s3 = X := ⟨_, rfl⟩
      have HR4 : Hid (R = ((⟨mem, d, (md.many md.fn (md.one 1 16 s3).1 (md.one 1 16 s3).2).1⟩ : md.Mod), (md.many md.fn (md.one 1 16 s3).1 (md.one 1 16 s3).2).2)) := Lib.hid (by rw [HR3.out]; rfl)
      rw [hX] at HO4 HR4 hk16
      obtain ⟨n, s4⟩ := X
      dsimp only at HO4 HR4 hk16
      clear hX HR3
      go_wp2_with fail
      refine HO4.out.mono ?_
      rintro e w8 ⟨rfl, hr8, hf8⟩
      have H8 := Lib.hid (H7.out.read hp hwq hr8 hf8)
      clear hr8 hf8 HO4 H7
      have HSN := Lib.hid (fun k => md.many_snoc md.fn k s4)
      have HLN := Lib.hid (fun k => md.many_len md.fn k s4)
      go_upto_region 9 with fail
      generalize wr = wo at *
      go_loopg [24] n (fun gg s24 wr => ∃ (k : Nat) (VF : Value), s24 = .int .i64 k ∧ k ≤ n ∧ n - k ≤ gg ∧ Hid (MA w wr p q (md.many md.fn k s4).2 mem (.slice aoD d.length cD) VF d (md.many md.fn k s4).1))
      case atStart => exact ⟨0, _, rfl, Nat.zero_le _, by omega, H8⟩
      case round =>
        clear H8
        obtain ⟨k, VF, rfl, hk, hgg, HA⟩ := hrel
        have HS := Lib.hid (HSN.out k)
        have HPL := Lib.hid (HLN.out k)
        by_cases hlt : k < n
        case neg =>
          obtain rfl : k = n := by omega
          generalize md.many md.fn k s4 = M at *
          obtain ⟨fs, st⟩ := M
          dsimp only at HA HPL HR4
          obtain ⟨cs, hr, -⟩ := HA.out.own.fns
          obtain ⟨ao, ac, rfl⟩ := own_slice hr
          dsimp only at hr
          have k0 : wr.cell? ⟨q, 0, none⟩ = some (.int .i64 mem) := (cell_of_heap HA.out.nd).trans rfl
          have k1 : wr.cell? ⟨q, 1, none⟩ = some (.slice aoD d.length cD) := (cell_of_heap HA.out.nd).trans rfl
          have k2 : wr.cell? ⟨q, 2, none⟩ = some (.slice ao fs.length ac) := (cell_of_heap HA.out.nd).trans rfl
          have hq7 := heap_lt HA.out.nd
          have hz := HA.out.z
          have d0 : wr.cell? ⟨w.heap.size, 0, none⟩ = some (.int .i64 0) := (cell_of_heap hz).trans rfl
          have d1 : wr.cell? ⟨w.heap.size, 1, none⟩ = some (.slice none 0 0) := (cell_of_heap hz).trans rfl
          have d2 : wr.cell? ⟨w.heap.size, 2, none⟩ = some (.slice none 0 0) := (cell_of_heap hz).trans rfl
          have e0 := thaw (k := 0) hz
          have e1 := thaw (k := 1) hz
          have e2 := thaw (k := 2) hz
          have hset : ∀ k, k ≠ w.heap.size → (((wr.setCell ⟨w.heap.size, 0, none⟩ (.int .i64 mem)).setCell ⟨w.heap.size, 1, none⟩ (.slice aoD d.length cD)).setCell ⟨w.heap.size, 2, none⟩ (.slice ao fs.length ac)).heap[k]? = wr.heap[k]? := fun k hk => by
            rw [Below.heap_setCell _ _ _ _ (by exact hk), Below.heap_setCell _ _ _ _ (by exact hk), Below.heap_setCell _ _ _ _ (by exact hk)]
          have hne : ∀ (g : Nat) (cur : Array Value) (T : TypeId), T ≠ 26 → wr.heap[g]? = some (.cells cur T (0, 0)) → g ≠ w.heap.size := fun g cur T hT hc e => by
            subst e
            rw [hz] at hc
            injection hc with hc
            injection hc with _ e2
            exact hT e2.symm
          have hown : ModO (((wr.setCell ⟨w.heap.size, 0, none⟩ (.int .i64 mem)).setCell ⟨w.heap.size, 1, none⟩ (.slice aoD d.length cD)).setCell ⟨w.heap.size, 2, none⟩ (.slice ao fs.length ac)) w.heap.size (.slice aoD d.length cD) (.slice ao fs.length ac) ⟨mem, d, fs⟩ := by
            obtain ⟨hd, cs, hr, hf⟩ := HA.out.own
            exact ⟨own_keep hd (fun g cur _ _ _ hc => hset g (hne g cur _ (by decide) hc)), cs, own_keep hr (fun g cur _ _ _ hc => hset g (hne g cur _ (by decide) hc)), FnsO.keep (Nat.le_refl _) (fun k cur _ hc => hset k (hne k cur _ (by decide) hc)) _ _ hf⟩
          have HF := Lib.hid (And.intro (store3 hz (.int .i64 mem) (.slice aoD d.length cD) (.slice ao fs.length ac)) (And.intro hown
            (And.intro (((HA.out.rd.set ⟨w.heap.size, 0, none⟩ (.int .i64 mem) hp).set ⟨w.heap.size, 1, none⟩ (.slice aoD d.length cD) hp).set ⟨w.heap.size, 2, none⟩ (.slice ao fs.length ac) hp)
              (((HA.out.fr.setCell ⟨w.heap.size, 0, none⟩ (.int .i64 mem) (.inl (Nat.le_refl _))).setCell ⟨w.heap.size, 1, none⟩ (.slice aoD d.length cD) (.inl (Nat.le_refl _))).setCell ⟨w.heap.size, 2, none⟩ (.slice ao fs.length ac) (.inl (Nat.le_refl _))))))
          clear hz hset hne hown HA HSN HLN HS hr
          go_wp2_with fail
          refine bodyPost_ret (results_cell_row rfl _ _ w.heap.size 26 _ (0, 0) _ rfl HF.out.1 Try.underlying26 rfl (by kernel_rfl)) rfl ?_
          rw [HR4.out]
          exact ⟨_, _, rfl, HF.out.2⟩
        case pos =>
          have hki : (k : Int) < (n : Int) := by omega
          generalize md.many md.fn k s4 = M at *
          obtain ⟨fs, st⟩ := M
          dsimp only at HA HPL HS
          have HV := Lib.hid (fun X hX => function_any p st X hX)
          generalize md.fn st = Y at *
          obtain ⟨f, st'⟩ := Y
          dsimp only at HV HS
          obtain ⟨cs, hr, hfs⟩ := HA.out.own.fns
          obtain ⟨ao, ac, rfl⟩ := own_slice hr
          dsimp only at hr hfs
          clear hr hfs cs
          have hcl : fs.length ≤ 1048576 := by rw [HPL.out]; omega
          have k2 : wr.cell? ⟨q, 2, none⟩ = some (.slice ao fs.length ac) := (cell_of_heap HA.out.nd).trans rfl
          have m2 := thaw (k := 2) HA.out.nd
          have hq7 := heap_lt HA.out.nd
          obtain ⟨pa, re, lo, code⟩ := f
          dsimp only at HV
          go_upto_region 10 with fail
          go_region_law (first
            | (refine step_append_row 24 40 4 48 _ Try.underlying24 infoFn rfl (by decide) (by decide) rfl (.tmp 27) (.tmp 30) rfl w.heap.size (.slice ao fs.length ac) fs.length cs rfl HB8.out.1 w11.heap.size [.int .i64 pa, .int .i64 re, .int .i64 lo, VC] rfl (heap_alloc_new w11 _) rfl HB8.out.2.2.2.2 hcl HB8.out.2.2.1.fr.size ?_; intro V' w10 r1 r2; obtain ⟨aoV, cV, rfl⟩ := own_slice r1; have hnd10 := HB8.out.2.2.1.ndg r2; have HX := Lib.hid (HB8.out.2.2.1.fn hp hwq ⟨pa, re, lo, code⟩ HB8.out.1 HB8.out.2.1 HB8.out.2.2.2.1 r1 r2); have n10 : w10.cell? ⟨q, 2, none⟩ = some (.slice ao fs.length ac) := (cell_of_heap hnd10).trans rfl; have m10 := thaw (k := 2) hnd10; have hq10 := heap_lt hnd10; clear hnd10 r1 r2)
            | (go_simp; go_at_call 22; refine (HV.out wr.drew HA.out.rd.drew).mono ?_; rintro e w11 ⟨VC, rfl, hc8, hr8, hf8⟩; have HA8 := Lib.hid (HA.out.read hp hwq hr8 (fr_drawn hf8 rfl rfl rfl rfl)); obtain ⟨cs, hr9, hfs9⟩ := HA8.out.own.fns; have HC8 := Lib.hid (own_base hc8 (show w.heap.size ≤ wr.drew.heap.size from HA.out.fr.size)); have HB8 := Lib.hid (fnLaid HA8.out ⟨pa, re, lo, code⟩ VC hr9 hfs9 HC8.out); have n8 : w11.cell? ⟨q, 2, none⟩ = some (.slice ao fs.length ac) := (cell_of_heap HA8.out.nd).trans rfl; have hq8 := heap_lt HA8.out.nd; clear hr8 hf8 hc8 hr9 hfs9))
          all_goals
            go_wp2_with fail
            go_roundg (n - (k + 1))
            case measure => omega
            case rel => exact ⟨k + 1, _, by go_num, by omega, Nat.le_refl _, Lib.hid (by rw [HS.out]; exact HX.out)⟩
end Go.Proofs.Ytibpbnffennmeaa
