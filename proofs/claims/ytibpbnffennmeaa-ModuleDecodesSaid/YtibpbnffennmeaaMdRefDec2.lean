/- The document's Decode: its parts on lists; its boxes filled. -/
import Derived.Test.YtibpbnffennmeaaMdRefDec
namespace Go.Proofs.Ytibpbnffennmeaa
open Go.RowKit
def md.body3 (mem : Nat) (d : List UInt8) : md.St → md.Mod × md.St := md.bnd (md.one 1 16) fun k => md.bnd (md.many md.fn k) fun fs => md.ret (⟨mem, d, fs⟩ : md.Mod)
def md.body2 (mem n : Nat) : md.St → md.Mod × md.St := md.bnd (md.data n) fun d => md.body3 mem d
def md.body1 (mem : Nat) : md.St → md.Mod × md.St := md.bnd (md.two 0 mem) fun n => md.body2 mem n
theorem md.Good.body3 (mem : Nat) (d : List UInt8) : md.Good (md.body3 mem d) := (md.Good.one _ _).bnd fun _ => (md.Good.fn.many _).bnd fun _ => md.Good.ret _
theorem md.Good.body2 (mem n : Nat) : md.Good (md.body2 mem n) := ((md.Good.next _).many _).bnd fun _ => md.Good.body3 _ _
theorem md.Good.body1 (mem : Nat) : md.Good (md.body1 mem) := (md.Good.two _ _).bnd fun _ => md.Good.body2 _ _
/-- the same State; the same module, where the bytes haven't left the form -/
def md.Agree (Y Z : md.Mod × md.St) : Prop := Y.2 = Z.2 ∧ (Z.2.bad = false → Y.1 = Z.1)
theorem md.Agree.trans {X Y Z : md.Mod × md.St} (h : md.Agree X Y) (g : md.Agree Y Z) : md.Agree X Z := ⟨h.1.trans g.1, fun hz => (h.2 (by rw [g.1]; exact hz)).trans (g.2 hz)⟩
theorem md.agree_step {α : Type} (f : α → md.St → md.Mod × md.St) (hf : ∀ x, md.Good (f x)) (x v : α) (l : List UInt8) (bd : Bool) (hv : bd = false → v = x) : md.Agree (f x ⟨l, bd⟩) (f v ⟨l, bd⟩) := by
  cases bd with
  | false => rw [hv rfl]; exact ⟨rfl, fun _ => rfl⟩
  | true =>
    refine ⟨((hf x).stuck l).trans ((hf v).stuck l).symm, fun h => ?_⟩
    rw [(hf v).stuck l] at h
    cases h
/-- where it ends -/
theorem md.agree_end {b : List UInt8} {Y : md.Mod × md.St} {m : md.Mod} {a : Nat} {bd : Bool} (h : md.Agree Y (m, ⟨b.drop a, bd⟩)) (ha : a ≤ b.length) (hc : md.code b = (if md.flaw b = true then 120 else 0)) (hp : md.place b = (if md.flaw b = true then b.length - Y.2.rest.length else 0))
    (hf : md.flaw b = (Y.2.bad || decide (0 < Y.2.rest.length))) (hd : md.dec b = if md.code b = 0 then Y.1 else md.zero) :
    (bd = true ∨ a < b.length → md.code b = 120 ∧ md.place b = a ∧ md.dec b = md.zero) ∧ (bd = false → b.length ≤ a → md.code b = 0 ∧ md.place b = 0 ∧ md.dec b = m) := by
  obtain ⟨h1, h2⟩ := h
  rw [h1] at hf hp
  simp only [List.length_drop] at hf hp h2
  refine ⟨fun hx => ?_, fun hx hl => ?_⟩
  · have hfl : md.flaw b = true := by
      rw [hf]
      rcases hx with rfl | hx
      · rfl
      · rw [decide_eq_true (show 0 < b.length - a by omega), Bool.or_true]
    rw [hfl, if_pos rfl] at hc hp
    refine ⟨hc, by omega, ?_⟩
    rw [hd, hc]
    rfl
  · have hfl : md.flaw b = false := by
      rw [hf, hx, decide_eq_false (show ¬ 0 < b.length - a by omega)]
      rfl
    rw [hfl] at hc hp
    have hc0 : md.code b = 0 := hc
    refine ⟨hc0, hp, ?_⟩
    rw [hd, if_pos hc0]
    exact h2 hx
/-- the loops -/
theorem md.loop_end {α : Type} {r : md.St → α × md.St} (hr : md.Good r) {s : md.St} {l : List UInt8} {bd : Bool} {k n : Nat} (hk : k ≤ n) (h : (md.many r k s).2 = ⟨l, bd⟩) (hx : bd = false → k = n) {c : List α} (hc : bd = false → c = (md.many r k s).1) : (md.many r n s).2 = ⟨l, bd⟩ ∧ (bd = false → c = (md.many r n s).1) := by
  cases bd with
  | true => exact ⟨md.many_stuck hr s l k h n hk, fun h => by cases h⟩
  | false =>
    obtain rfl := hx rfl
    exact ⟨h, hc⟩
theorem heap_drew (X : World) (k : Nat) (o : Option Obj) (h : X.heap[k]? = o) : X.drew.heap[k]? = o := h
theorem fill_twoD {w X : World} {z m : Nat} (hzm : z ≠ m) (hz : X.heap[z]? = some modZ) (hm : X.heap[m]? = some fltZ) (hf : Below w.heap.size w X) (h1 : w.heap.size ≤ z) (h2 : w.heap.size ≤ m) (a0 a1 a2 : Value) (c x : Int) :
    (setFlt (setMod X z a0 a1 a2) m c x).drew.heap[z]? = some (.cells #[a0, a1, a2] 26 (0, 0)) ∧ (setFlt (setMod X z a0 a1 a2) m c x).drew.heap[m]? = some (.cells #[.int .i64 c, .int .i64 x] 29 (0, 0)) ∧ Below w.heap.size w (setFlt (setMod X z a0 a1 a2) m c x).drew := by
  obtain ⟨g1, g2, g3⟩ := fill_two hzm hz hm hf h1 h2 a0 a1 a2 c x
  exact ⟨heap_drew _ _ _ g1, heap_drew _ _ _ g2, below_dN g3 1⟩
theorem RM.ndg {w wr wr' : World} {p : Nat} {o : Option Addr} {n cap a : Nat} {ok : Bool} {q : Nat} {mem : Int} {VD VF : Value} {d : List UInt8} {fs : List md.Fn} (h : RM w wr p o n cap a ok q mem VD VF d fs) (hg : wr.grownBy wr' VF.ownBlock) : wr'.heap[q]? = some (.cells #[.int .i64 mem, VD, VF] 26 (0, 0)) :=
  (hg.block q (heap_lt h.nd) (fun e => by
    obtain ⟨cs, hr, -⟩ := h.own.fns
    obtain ⟨cur, hc⟩ := own_type hr e.symm
    rw [h.nd] at hc
    injection hc with hc
    injection hc with _ e2
    exact absurd e2 (by decide))).trans h.nd
theorem code_setMod {w : World} {B q : Nat} {cur0 : Array Value} {a0 a1 a2 VC : Value} {n : Nat} {cs : List Value} (hst : w.heap[q]? = some (.cells cur0 46 (0, 0))) (h : w.ownsRow B 37 2 VC n cs) : (setMod w q a0 a1 a2).ownsRow B 37 2 VC n cs :=
  own_keep h (fun g cur _ _ _ hc => setMod_far w q a0 a1 a2 g (by
    rintro rfl
    rw [hst] at hc
    injection hc with hc
    injection hc with _ e2
    exact absurd e2 (by decide)))
theorem ModO.filled {w : World} {B p : Nat} {VD VF a0 a1 a2 : Value} {c x : Int} {m : md.Mod} (hz : w.heap[p]? = some modZ) (hy : w.heap[p + 1]? = some fltZ) (h : ModO w B VD VF m) : ModO (setFlt (setMod w p a0 a1 a2) (p + 1) c x) B VD VF m :=
  h.away (fun g cur T h1 h2 hc => (setFlt_far _ _ _ _ g (by
    rintro rfl
    rw [hy] at hc
    injection hc with hc
    injection hc with _ e2
    exact h2 e2.symm)).trans (setMod_far w p a0 a1 a2 g (by
    rintro rfl
    rw [hz] at hc
    injection hc with hc
    injection hc with _ e2
    exact h1 e2.symm)))
end Go.Proofs.Ytibpbnffennmeaa
