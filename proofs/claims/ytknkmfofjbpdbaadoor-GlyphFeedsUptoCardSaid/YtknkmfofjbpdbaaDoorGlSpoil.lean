/- A row of the call's own is written over. -/
import Derived.Test.YtknkmfofjbpdbaaDoorGlAlive
namespace Go.Proofs.YtknkmfofjbpdbaaDoor
open Go.RowKit

/-- the block of a slice -/
def atBlock (o : Option Addr) (b : Nat) : Prop := ∃ a, o = some a ∧ b = a.block
structure Spoil (w wr : World) (B : Nat) (e : TypeId) (o : Option Addr) (n cap : Nat) (ys : List Int) : Prop where
  own : Own wr B e .i32 o n cap ys
  kept : Kept w wr (atBlock o)
theorem Spoil.start {w : World} {B : Nat} {e : TypeId} {o : Option Addr} {n cap : Nat} {ys : List Int} (h : Own w B e .i32 o n cap ys) : Spoil w w B e o n cap ys := ⟨h, Kept.refl _ _⟩
theorem Spoil.next {w wr : World} {B : Nat} {e : TypeId} {o : Option Addr} {n cap : Nat} {ys : List Int} (h : Spoil w wr B e o n cap ys) {k : Nat} (hk : k < n) (z : Int) :
    ∃ g, o = some ⟨g, 0, none⟩ ∧ wr.cell? ⟨g, k, none⟩ = some (.int .i32 (ys.getD k 0)) ∧ wr.frozen? ⟨g, k, none⟩ = false ∧ Spoil w (wr.setCell ⟨g, k, none⟩ (.int .i32 z)) B e o n cap (ys.set k z) := by
  obtain ⟨g, c, hv, _, _, _, _⟩ := own_some h.own.row (by omega)
  obtain ⟨rfl, rfl⟩ : o = some ⟨g, 0, none⟩ ∧ cap = c := by simpa using hv
  refine ⟨g, rfl, ?_, h.own.row.frozenAt k, ?_, ?_⟩
  · obtain ⟨b, off, ho, _, hc⟩ := h.own.nums.cell hk
    have ho' := Option.some.inj ho
    have h1 : g = b := congrArg Addr.block ho'
    have h2 : 0 = off := congrArg Addr.off ho'
    subst h1 h2
    rw [Nat.zero_add] at hc
    exact hc
  · refine ⟨?_⟩
    have := own_set h.own.row k (.int .i32 z)
    rw [show cs .i32 (ys.set k z) = (cs .i32 ys).set k (.int .i32 z) by simp [cs, List.map_set]]
    exact this
  · exact h.kept.setCell (p := ⟨g, k, none⟩) (fun _ => ⟨_, rfl, rfl⟩) _
theorem Spoil.bel {w wr : World} {B A : Nat} {e : TypeId} {o : Option Addr} {n cap : Nat} {ys : List Int} (h : Spoil w wr B e o n cap ys) (hA : A ≤ B) (hw : A ≤ w.heap.size) : Below A w wr :=
  h.kept.below hw (fun k hk => by
    obtain ⟨a, ha, rfl⟩ := hk
    have := (h.own.lt a ha).1
    omega)
/-- what lies elsewhere stays -/
theorem Spoil.else {w wr : World} {B B' : Nat} {e e' : TypeId} {K : IntKind} {o o' : Option Addr} {n cap n' cap' : Nat} {ys zs : List Int} (h : Spoil w wr B e o n cap ys) (hz : Own w B' e' K o' n' cap' zs) (hB : ∀ a, o = some a → a.block < B') : Own wr B' e' K o' n' cap' zs :=
  hz.kept h.kept (fun a ha hk => by
    obtain ⟨a', ha', hb⟩ := hk
    have := hB a' ha'
    have := (hz.lt a ha).1
    omega)
end Go.Proofs.YtknkmfofjbpdbaaDoor
