/- TokJoins: where a fault may stand; slices of tokens; two texts as one. -/
import Derived.Test.YteilaoiimlpbkabDoorTkJoinM
import Derived.Test.YteilaoiimlpbkabDoorTkLike
import Derived.Laws.Concat
namespace Go.Proofs.YteilaoiimlpbkabDoor
open Go.RowKit
theorem tk.unq_at : ∀ (k : Nat) (l acc : List UInt8), (tk.unq k l acc).2.2 ≤ k + l.length
  | k, [], acc => by simp [tk.unq]
  | k, [c], acc => by
    unfold tk.unq
    split
    · simp
    · split <;> simp
  | k, c :: d :: r, acc => by
    unfold tk.unq
    split
    · simp
    · split
      · split
        · simp
        · have := tk.unq_at (k + 2) r (acc ++ [UInt8.ofNat (tk.escaped d)])
          simp only [List.length_cons]; omega
      · have := tk.unq_at (k + 1) (d :: r) (acc ++ [c])
        simp only [List.length_cons] at this ⊢; omega
theorem tk.nx_place (c : UInt8) (l : List UInt8) (r : tk.St) (h : r.code = 0) (h0 : (tk.nx r c l).code ≠ 0) : 0 ≤ (tk.nx r c l).place ∧ (tk.nx r c l).place ≤ ((r.at_ + (c :: l).length + 1 : Nat) : Int) := by
  have hf : ∀ k, 0 ≤ (tk.fail r k r.at_).place ∧ (tk.fail r k r.at_).place ≤ ((r.at_ + (c :: l).length + 1 : Nat) : Int) := fun k => by
    show 0 ≤ ((r.at_ : Nat) : Int) ∧ ((r.at_ : Nat) : Int) ≤ _
    omega
  revert h0
  unfold tk.nx
  split
  · exact fun q => absurd h q
  split
  · exact fun q => absurd h q
  split
  · unfold tk.remark
    split
    · exact fun _ => hf _
    · exact fun q => absurd h q
  split
  · exact fun q => absurd h q
  split
  · exact fun q => absurd h q
  split
  · unfold tk.quote
    split
    · exact fun _ => hf _
    · rename_i e _
      dsimp only
      split
      · exact fun q => absurd h q
      · intro _
        have h1 := tk.unq_at 0 (((c :: l).take e).drop 1) []
        have h2 : (((c :: l).take e).drop 1).length ≤ (c :: l).length := by simp only [List.length_drop, List.length_take]; omega
        show 0 ≤ ((r.at_ : Nat) : Int) + 1 + (((tk.unq 0 (((c :: l).take e).drop 1) []).2.2 : Nat) : Int) ∧ ((r.at_ : Nat) : Int) + 1 + (((tk.unq 0 (((c :: l).take e).drop 1) []).2.2 : Nat) : Int) ≤ _
        omega
  split
  · unfold tk.integer
    dsimp only
    split
    · split
      · exact fun q => absurd h q
      · exact fun _ => hf _
    · exact fun _ => hf _
  split
  · exact fun q => absurd h q
  · exact fun _ => hf _
theorem tk.run_place (s : List UInt8) : ∀ (f : Nat) (r : tk.St), r.code = 0 → r.at_ ≤ s.length → (tk.run s f r).code ≠ 0 → 0 ≤ (tk.run s f r).place ∧ (tk.run s f r).place ≤ ((s.length + 1 : Nat) : Int)
  | 0, r, h, _, h0 => absurd h h0
  | f + 1, r, h, ha, h0 => by
    by_cases hc : r.at_ < s.length ∧ r.code = 0
    · have hl := tk.drop_cons s r.at_ hc.1
      rw [tk.run_go s f r hc] at h0 ⊢
      have hlen : r.at_ + (s[r.at_]'hc.1 :: s.drop (r.at_ + 1)).length = s.length := by
        simp only [List.length_cons, List.length_drop]; omega
      by_cases hn : (tk.next s r).code = 0
      · refine tk.run_place s f _ hn ?_ h0
        rw [tk.next_nx hl] at hn ⊢
        have := (tk.nx_app _ _ [] r hn).2
        omega
      · rw [tk.run_stop s f _ (by omega)] at h0 ⊢
        rw [tk.next_nx hl] at hn ⊢
        have := tk.nx_place _ _ r h hn
        omega
    · rw [tk.run_stop s _ r hc] at h0
      exact absurd h h0
theorem tk.tokens_place (s : List UInt8) : 0 ≤ (tk.tokens s).2.2 ∧ (tk.tokens s).2.2 ≤ 4097 := by
  unfold tk.tokens
  split
  · exact ⟨by decide, by decide⟩
  · rename_i hl
    dsimp only
    split
    · exact ⟨Int.le_refl 0, (by decide : (0 : Int) ≤ 4097)⟩
    · rename_i h0
      have := tk.run_place s s.length {} rfl (Nat.zero_le _) h0
      dsimp only
      omega
/-- a row of tokens, as any slice of them -/
theorem TkIn.row {w : World} {B : Nat} {ao : Option Addr} {n cap : Nat} {l : List tk.Tok} (h : w.ownsRow B 31 4 (.slice ao n cap) l.length (tokC l)) : TkIn w ao n cap l := by
  rcases h.2 with ⟨e, h0⟩ | ⟨g, cap', cur, e, hB, hg, hc, hm, hs, ht⟩
  · obtain ⟨rfl, rfl, rfl⟩ := Value.slice.inj e
    exact ⟨h0, Nat.le_refl _, by decide, .inl rfl⟩
  · obtain ⟨rfl, rfl, rfl⟩ := Value.slice.inj e
    refine ⟨rfl, hc, hm, .inr ⟨g, 0, rfl, (Array.getElem?_eq_some_iff.1 hg).1, fun k t hk => ?_⟩⟩
    obtain ⟨g', c', e', _, _, _, _, k0, k1, k2, k3⟩ := tok_at h hk
    obtain ⟨e1, -, -⟩ := Value.slice.inj e'
    obtain rfl : g = g' := by simpa using e1
    simp only [Nat.zero_add]
    exact ⟨k0, k1, k2, k3⟩
def slo (o : Option Addr) (cap l : Nat) : Option Addr := if cap = l then o else o.map (·.add (l * 4))
theorem addr_add0 (a : Addr) : a.add 0 = a := by unfold Addr.add; split <;> simp_all
theorem run_slo (o : Option Addr) (n cap : Nat) (k : IntKind) (l : Nat) (hl : (l : Int) ≤ (n : Int)) (wx : World) : (Instr.slice 23 (.slice o n cap) (some (.int k (l : Int))) none none).run Tryd.prog wx = .ok (.slice (slo o cap l) (n - l) (cap - l)) wx := by
  rw [run_slice_l wx 23 o n cap Tryd.underlying23 k l (by omega) (by omega)]
  have hz : (sizeOf (Tryd.prog.elem 23)).run Tryd.prog wx = .ok 4 wx := by kernel_rfl
  rw [hz]
  simp [Result.andThen, sliced, slo]
theorem run_shi (o : Option Addr) (n cap : Nat) (k : IntKind) (l : Nat) (hl : (l : Int) ≤ (n : Int)) (hc : n ≤ cap) (wx : World) : (Instr.slice 23 (.slice o n cap) none (some (.int k (l : Int))) none).run Tryd.prog wx = .ok (.slice o l cap) wx := by
  rw [run_slice_h wx 23 o n cap Tryd.underlying23 k l (by omega) (by omega)]
  have hz : (sizeOf (Tryd.prog.elem 23)).run Tryd.prog wx = .ok 4 wx := by kernel_rfl
  rw [hz]
  have e : (fun x : Addr => x.add 0) = id := funext addr_add0
  simp [Result.andThen, sliced, e]
theorem TkIn.lo {w : World} {o : Option Addr} {n cap : Nat} {zs : List tk.Tok} (H : TkIn w o n cap zs) (l : Nat) (hl : l ≤ n) : TkIn w (slo o cap l) (n - l) (cap - l) (zs.drop l) := by
  have hle := H.le
  have hm := H.max
  refine ⟨by rw [List.length_drop, H.len], by omega, by omega, ?_⟩
  rcases H.at_ with h0 | ⟨b, off, rfl, hb, hc⟩
  · exact .inl (by omega)
  · by_cases hcl : cap = l
    · exact .inl (by omega)
    · right
      refine ⟨b, off + l * 4, by rw [slo, if_neg hcl]; simp [Addr.add], hb, fun k t hk => ?_⟩
      have := hc (l + k) t (by rw [← hk, List.getElem?_drop])
      rwa [show off + (l + k) * 4 = off + l * 4 + k * 4 by omega] at this
theorem TkIn.hi {w : World} {o : Option Addr} {n cap : Nat} {zs : List tk.Tok} (H : TkIn w o n cap zs) (l : Nat) (hl : l ≤ n) : TkIn w o l cap (zs.take l) := by
  have hle := H.le
  refine ⟨by rw [List.length_take, H.len]; omega, by omega, H.max, ?_⟩
  rcases H.at_ with h0 | ⟨b, off, rfl, hb, hc⟩
  · exact .inl (by omega)
  · exact .inr ⟨b, off, rfl, hb, fun k t hk => hc k t (by
      rw [List.getElem?_take] at hk
      split at hk
      · exact hk
      · cases hk)⟩
theorem run_slo' (o : Option Addr) (n cap : Nat) (l : Nat) (x : Int) (hx : x = (l : Int)) (hl : (l : Int) ≤ (n : Int)) (k : IntKind) (wx : World) : (Instr.slice 23 (.slice o n cap) (some (.int k x)) none none).run Tryd.prog wx = .ok (.slice (slo o cap l) (n - l) (cap - l)) wx := by
  subst hx
  exact run_slo o n cap k l hl wx
theorem join_bytes (a b : List UInt8) : (ByteArray.mk a.toArray ++ ByteArray.mk #[10] ++ ByteArray.mk b.toArray) = ByteArray.mk (a ++ 10 :: b).toArray := by
  rw [show (#[10] : Array UInt8) = ([10] : List UInt8).toArray from rfl, ByteArray.mk_append_mk, ByteArray.mk_append_mk]
  simp
theorem tk.key_sh (m : Nat) (l : List tk.Tok) : (l.map (tk.sh m)).map tk.key = l.map tk.key := by
  rw [List.map_map]; rfl
end Go.Proofs.YteilaoiimlpbkabDoor
