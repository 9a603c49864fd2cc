/- What keeps without a capability, on lists. -/
import Derived.Test.YtbmcmcdgdhabaaaDoorCpAsk
namespace Go.Proofs.YtbmcmcdgdhabaaaDoor
namespace cp
theorem and_zero (x : Int) : bits .and .i64 x 0 = 0 := by
  show IntKind.i64.wrap (((BitVec.ofInt 64 x &&& BitVec.ofInt 64 0).toNat : Nat) : Int) = 0
  rw [show BitVec.ofInt 64 0 = 0#64 by decide, BitVec.and_zero]
  decide
theorem needs_cap (n : Int) : needs n = 0 ∨ ∃ k, Cap (needs n) k := by
  unfold needs
  split
  · rename_i h
    obtain ⟨j, rfl⟩ : ∃ j : Nat, n = (j : Int) := ⟨n.toNat, by omega⟩
    rw [Int.toNat_natCast]
    have hs : j = 0 ∨ j = 1 ∨ j = 2 ∨ j = 3 ∨ j = 4 ∨ j = 5 ∨ j = 6 ∨ j = 7 ∨ j = 8 ∨ j = 9 ∨ j = 10 ∨ j = 11 := by omega
    rcases hs with rfl | rfl | rfl | rfl | rfl | rfl | rfl | rfl | rfl | rfl | rfl | rfl
    · exact .inr ⟨0, .inl ⟨rfl, rfl⟩⟩
    · exact .inr ⟨0, .inl ⟨rfl, rfl⟩⟩
    · exact .inr ⟨0, .inl ⟨rfl, rfl⟩⟩
    · exact .inr ⟨1, .inr (.inl ⟨rfl, rfl⟩)⟩
    · exact .inr ⟨1, .inr (.inl ⟨rfl, rfl⟩)⟩
    · exact .inr ⟨2, .inr (.inr (.inl ⟨rfl, rfl⟩))⟩
    · exact .inr ⟨3, .inr (.inr (.inr (.inl ⟨rfl, rfl⟩)))⟩
    · exact .inr ⟨4, .inr (.inr (.inr (.inr (.inl ⟨rfl, rfl⟩))))⟩
    · exact .inr ⟨4, .inr (.inr (.inr (.inr (.inl ⟨rfl, rfl⟩))))⟩
    · exact .inr ⟨5, .inr (.inr (.inr (.inr (.inr ⟨rfl, rfl⟩))))⟩
    · exact .inl rfl
    · exact .inl rfl
  · exact .inl rfl
/-- without the capability -/
theorem ask_no {have_ n : Int} (h0 : needs n ≠ 0) (h1 : bits .and .i64 have_ (needs n) = 0) (a : List Int) (mem : List UInt8) : ask have_ n a mem = (zero, [], -2) ∨ ask have_ n a mem = (zero, [], -1) := by
  unfold ask
  rw [if_neg (show ¬ bits .and .i64 have_ (needs n) = needs n by rw [h1]; exact fun e => h0 e.symm)]
  split
  · exact .inl rfl
  · exact .inr rfl
theorem ask_len {have_ n : Int} (h0 : needs n ≠ 0) (h1 : bits .and .i64 have_ (needs n) = 0) (a o : List Int) (mem mem' : List UInt8) (hl : o.length = a.length) : ask have_ n o mem' = ask have_ n a mem := by
  unfold ask
  rw [if_neg (show ¬ bits .and .i64 have_ (needs n) = needs n by rw [h1]; exact fun e => h0 e.symm), if_neg (show ¬ bits .and .i64 have_ (needs n) = needs n by rw [h1]; exact fun e => h0 e.symm), hl]
theorem has_grant {have_ more n : Int} (h : ¬ (needs n ≠ 0 ∧ bits .and .i64 have_ (needs n) = 0)) : bits .and .i64 have_ (needs n) = needs n ∧ bits .and .i64 (grant have_ more) (needs n) = needs n := by
  rcases needs_cap n with e | ⟨k, hc⟩
  · rw [e]
    exact ⟨and_zero _, and_zero _⟩
  · have hp := hc.pos
    have h1 := hc.and have_
    have ht : tb have_ k = true := by
      cases hb : tb have_ k with
      | true => rfl
      | false =>
        rw [hb, if_neg (by decide)] at h1
        exact absurd ⟨by omega, h1⟩ h
    rw [ht, if_pos rfl] at h1
    refine ⟨h1, ?_⟩
    rw [hc.and, tb_grant have_ more hp.2, ht, Bool.true_or, if_pos rfl]
theorem ask_more {have_ more n : Int} (h : ¬ (needs n ≠ 0 ∧ bits .and .i64 have_ (needs n) = 0)) (a : List Int) (mem : List UInt8) : ask (grant have_ more) n a mem = ask have_ n a mem ∧ (ask have_ n a mem).2.2 ≠ -2 := by
  obtain ⟨h1, h2⟩ := has_grant (more := more) h
  unfold ask
  rw [if_pos h1, if_pos h2]
  refine ⟨rfl, ?_⟩
  repeat' split
  all_goals simp
end cp
end Go.Proofs.YtbmcmcdgdhabaaaDoor
