/- The document's examples of layer 3 hold: alive returns true, in every memory. -/
import Derived.Test.YtaklkhjgdopbgaaRingShrinkI
namespace Go.Proofs.Ytaklkhjgdopbgaa
open Go.RowKit rI

theorem is_cells {w : World} {b : Nat} {pv : Value} {L : List Value} {most gone : Nat} (h : rI.Is w b pv L most gone) : ∃ first, RingCells w b pv first L.length most gone := by
  obtain ⟨ps, first, hr, _⟩ := h
  exact ⟨first, ringCells hr.blk⟩
theorem len_is {w : World} {b : Nat} {pv : Value} {L : List Value} {most gone : Nat} (h : rI.Is w b pv L most gone) :
    Calls Try.prog 18 #[.pointer (some ⟨b, 0, none⟩)] w fun e w' => e = .returned (.int .i64 (L.length : Int)) ∧ w = w' := by
  obtain ⟨first, hc⟩ := is_cells h
  exact rI.len_any b pv first L.length most gone w hc
theorem gone_is {w : World} {b : Nat} {pv : Value} {L : List Value} {most gone : Nat} (h : rI.Is w b pv L most gone) :
    Calls Try.prog 19 #[.pointer (some ⟨b, 0, none⟩)] w fun e w' => e = .returned (.int .i64 (gone : Int)) ∧ w = w' := by
  obtain ⟨first, hc⟩ := is_cells h
  exact rI.gone_any b pv first L.length most gone w hc
theorem ringTo_below {T E : TypeId} {F : Value → Prop} {d : Value} {w w' : World} {b : Nat} {pv : Value} {L : List Value} {most gone B : Nat} (h : RingTo T E F d w w' b pv L most gone) (hB : B ≤ b) (hb : b < w.heap.size) (ho : ∀ k, pv.ownBlock = some k → b < k) : Below B w w' := by
  obtain ⟨pv', _, hk, _⟩ := h
  refine hk.below (by omega) (fun k h => ?_)
  rcases h with rfl | h
  · exact hB
  · have := ho k h; omega

set_option maxHeartbeats 1600000 in
theorem alive_any (w : World) : Calls Try.prog 9 #[] w fun e w' => e = .returned (.bool true) ∧ Below w.heap.size w w' := by
  generalize hB : w.heap.size = B at *
  have HB := Lib.hid hB; clear hB
  go_enter Try.func9, Try.ntmps9
  go_wp2_with fail
  refine (rI.new_any _ _).mono ?_
  rintro e w1 ⟨rfl, his, hb⟩
  rw [HB.out] at his hb
  rw [HB.out]
  change rI.Is w1 B (.slice none 0 0) [] 2 0 at his
  have hlt := his.lt
  go_wp2_with fail
  refine (rI.push_room B _ [] 2 0 1 _ his (by decide)).mono ?_
  rintro e w2 ⟨rfl, hto⟩
  have hb2 := hb.trans (ringTo_below hto (Nat.le_refl B) hlt (fun k hk => (his.own k hk).1))
  obtain ⟨pv2, his2, _, _⟩ := hto
  clear his hb
  have hlt := his2.lt
  have H := Lib.hid his2; clear his2
  go_wp2_with fail
  refine (rI.push_room B _ [Value.int .i64 1] 2 0 2 _ H.out (by decide)).mono ?_
  rintro e w3 ⟨rfl, hto⟩
  have hb3 := hb2.trans (ringTo_below hto (Nat.le_refl B) hlt (fun k hk => (H.out.own k hk).1))
  obtain ⟨pv3, his3, _, _⟩ := hto
  clear H hb2
  have hlt := his3.lt
  have H := Lib.hid his3; clear his3
  go_wp2_with fail
  refine (rI.push_full B _ [Value.int .i64 1, Value.int .i64 2] 2 0 3 _ H.out rfl (by decide) (by decide)).mono ?_
  rintro e w4 ⟨rfl, hto⟩
  have hb4 := hb3.trans (ringTo_below hto (Nat.le_refl B) hlt (fun k hk => (H.out.own k hk).1))
  obtain ⟨pv4, his4, _, _⟩ := hto
  clear H hb3
  have hlt := his4.lt
  have hown4 := his4.own
  have H := Lib.hid his4; have HO := Lib.hid hown4; clear his4 hown4
  go_wp2_with fail
  refine (rI.all_any B _ [Value.int .i64 2, Value.int .i64 3] 2 1 _ H.out).mono ?_
  rintro e w5 ⟨av, rfl, hrow, hb5'⟩
  have hb5 := hb4.trans (hb5'.mono (by omega))
  obtain ⟨ga, ca, rfl, hg1, hg2, hg3, hg4⟩ := own_some hrow (by decide)
  have hc5 := own_cell (d := Value.int .i64 0) hrow (j := 1) (by decide)
  have H5 := Lib.hid (H.out.below hb5')
  have hsz5 := hb5'.size
  clear H hb4 hrow hb5'
  go_wp2_with fail
  refine (rI.pop_some B _ [Value.int .i64 2] (.int .i64 3) 2 1 _ H5.out).mono ?_
  rintro e w6 ⟨rfl, hto⟩
  have hb6 := hb5.trans (ringTo_below hto (Nat.le_refl B) (by omega) (fun k hk => (H5.out.own k hk).1))
  obtain ⟨pv6, his6, hk6, _⟩ := hto
  have hc6 := hk6.cell hc5 (fun h => by
    rcases h with h | h
    · have h' : ga = B := h
      omega
    · have := HO.out ga h
      omega)
  change w6.cell? ⟨ga, 1, none⟩ = some (.int .i64 3) at hc6
  have H := Lib.hid his6; clear his6 hk6 hb5 hc5 H5
  go_wp2_with fail
  refine (rI.at_in B _ [Value.int .i64 2] 2 1 0 _ H.out (by decide)).mono ?_
  rintro e w7 ⟨rfl, nq, rfl⟩
  go_wp2_with fail
  refine (rI.at_out B pv6 [Value.int .i64 2] 2 1 1 _ (by obtain ⟨ps, first, hr, hL⟩ := H.out; exact ⟨ps, first, hr.drewN nq, hL⟩) (by right; decide)).mono ?_
  rintro e w8 ⟨rfl, rfl⟩
  have hi : ∀ j, rI.Is (w6.drewN j) B pv6 [Value.int .i64 2] 2 1 := fun j => by obtain ⟨ps, first, hr, hL⟩ := H.out; exact ⟨ps, first, hr.drewN j, hL⟩
  have HI := Lib.hid hi
  clear hi H
  go_wp2_with fail
  refine (gone_is (HI.out _)).mono ?_
  rintro e w8 ⟨rfl, rfl⟩
  go_wp2_with fail
  refine (len_is (HI.out _)).mono ?_
  rintro e w8 ⟨rfl, rfl⟩
  go_wp2_with fail
  go_ret
  exact ⟨rfl, below_drewN hb6 _⟩
end Go.Proofs.Ytaklkhjgdopbgaa
