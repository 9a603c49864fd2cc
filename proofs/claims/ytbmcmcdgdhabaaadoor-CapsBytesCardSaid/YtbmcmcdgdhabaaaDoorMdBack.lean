/- What is written is read back; what is read is written as the same bytes; beginnings, bytes behind, bytes that are turned (without Go). -/
import Derived.Test.YtbmcmcdgdhabaaaDoorMdMath
namespace Go.Proofs.YtbmcmcdgdhabaaaDoor
namespace md
def i64 (n : Int) : Prop := -9223372036854775808 ≤ n ∧ n ≤ 9223372036854775807
def codeI (l : List Ins) : Prop := ∀ i ∈ l, i64 i.n
def fnsI (l : List Fn) : Prop := ∀ f ∈ l, codeI f.code
theorem ins_ok {i : Ins} {t : List UInt8} (h : rightIns i = true) (hi : i64 i.n) : ins ⟨insB i ++ t, false⟩ = (i, ⟨t, false⟩) := by
  obtain ⟨op, n⟩ := i
  unfold rightIns at h
  simp only [Bool.and_eq_true, Bool.or_eq_true, decide_eq_true_eq] at h
  obtain ⟨⟨h0, h1⟩, h2⟩ := h
  obtain ⟨k, rfl⟩ := Int.eq_ofNat_of_zero_le h0
  unfold ins insB
  rw [List.cons_append]
  show bnd (one 0 29) _ ⟨UInt8.ofNat k :: _, false⟩ = _
  rw [bnd_eq (one_ok (by unfold fits; simp; omega) (by omega))]
  by_cases hh : has (k : Int) = true
  · rw [if_pos hh]
    show bnd number _ ⟨(if has (k : Int) = true then numB n else []) ++ t, false⟩ = _
    rw [if_pos hh, bnd_eq (number_ok hi.1 hi.2)]
    rfl
  · rw [if_neg hh]
    show ret _ ⟨(if has (k : Int) = true then numB n else []) ++ t, false⟩ = _
    rw [if_neg hh]
    obtain rfl : n = 0 := h2.resolve_right hh
    rfl
theorem ins_inv {l : List UInt8} {i : Ins} {t : List UInt8} (h : ins ⟨l, false⟩ = (i, ⟨t, false⟩)) : l = insB i ++ t ∧ rightIns i = true ∧ i64 i.n := by
  obtain ⟨k, t1, h1, h2⟩ := bnd_ok (fun op => by
    split
    · exact Good.number.bnd fun _ => Good.ret _
    · exact Good.ret _) h
  obtain ⟨rfl, hf, hk⟩ := one_inv h1
  unfold fits at hf
  simp only [decide_eq_true_eq] at hf
  split at h2
  · rename_i hh
    obtain ⟨n, t2, h3, h4⟩ := bnd_ok (fun _ => Good.ret _) h2
    obtain ⟨rfl, hn⟩ := number_inv h3
    unfold ret at h4
    injection h4 with h5 h6
    injection h6 with h7
    subst h5 h7
    refine ⟨?_, ?_, hn⟩
    · unfold insB
      simp only
      rw [if_pos hh]
      rfl
    · unfold rightIns
      simp only [Bool.and_eq_true, Bool.or_eq_true, decide_eq_true_eq]
      exact ⟨by omega, .inr hh⟩
  · rename_i hh
    unfold ret at h2
    injection h2 with h5 h6
    injection h6 with h7
    subst h5 h7
    refine ⟨?_, ?_, (⟨by decide, by decide⟩ : i64 0)⟩
    · unfold insB
      simp only
      rw [if_neg hh]
      rfl
    · unfold rightIns
      simp only [Bool.and_eq_true, Bool.or_eq_true, decide_eq_true_eq]
      exact ⟨by omega, .inl trivial⟩
theorem many_ok {α : Type} {r : St → α × St} {wr : α → List UInt8} {P : α → Prop} (h : ∀ x t, P x → r ⟨wr x ++ t, false⟩ = (x, ⟨t, false⟩)) : ∀ (xs : List α) (t : List UInt8), (∀ x ∈ xs, P x) → many r xs.length ⟨xs.flatMap wr ++ t, false⟩ = (xs, ⟨t, false⟩)
  | [], t, _ => rfl
  | x :: xs, t, hp => by
    rw [List.flatMap_cons, List.append_assoc]
    show bnd r _ _ = _
    rw [bnd_eq (h x _ (hp x (by simp))), bnd_eq (many_ok h xs t fun y hy => hp y (by simp [hy]))]
    rfl
theorem many_inv {α : Type} {r : St → α × St} {wr : α → List UInt8} {P : α → Prop} (hg : Good r) (h : ∀ l x t, r ⟨l, false⟩ = (x, ⟨t, false⟩) → l = wr x ++ t ∧ P x) : ∀ (n : Nat) (l : List UInt8) (xs : List α) (t : List UInt8), many r n ⟨l, false⟩ = (xs, ⟨t, false⟩) → l = xs.flatMap wr ++ t ∧ xs.length = n ∧ ∀ x ∈ xs, P x
  | 0, l, xs, t, e => by
    unfold many ret at e
    injection e with h5 h6
    injection h6 with h7
    subst h5 h7
    exact ⟨rfl, rfl, fun _ h => by simp at h⟩
  | n + 1, l, xs, t, e => by
    obtain ⟨x, t1, h1, h2⟩ := bnd_ok (fun _ => (hg.many n).bnd fun _ => Good.ret _) e
    obtain ⟨ys, t2, h3, h4⟩ := bnd_ok (fun _ => Good.ret _) h2
    obtain ⟨rfl, hx⟩ := h _ _ _ h1
    obtain ⟨rfl, hl, hp⟩ := many_inv hg h n _ _ _ h3
    unfold ret at h4
    injection h4 with h5 h6
    injection h6 with h7
    subst h5 h7
    refine ⟨by rw [List.flatMap_cons, List.append_assoc], by rw [List.length_cons, hl], fun y hy => ?_⟩
    rcases List.mem_cons.1 hy with rfl | hy
    · exact hx
    · exact hp y hy
theorem fn_ok {f : Fn} {t : List UInt8} (h : rightFn f = true ∧ codeI f.code) : fn ⟨fnB f ++ t, false⟩ = (f, ⟨t, false⟩) := by
  obtain ⟨p, r, l, c⟩ := f
  obtain ⟨h, hc⟩ := h
  unfold rightFn at h
  simp only [Bool.and_eq_true, decide_eq_true_eq] at h
  obtain ⟨⟨⟨⟨⟨p0, p1⟩, r0, r1⟩, l0, l1⟩, c0, c1⟩, ha⟩ := h
  obtain ⟨p, rfl⟩ := Int.eq_ofNat_of_zero_le p0
  obtain ⟨r, rfl⟩ := Int.eq_ofNat_of_zero_le r0
  obtain ⟨l, rfl⟩ := Int.eq_ofNat_of_zero_le l0
  show bnd (one 0 8) _ ⟨UInt8.ofNat p :: UInt8.ofNat r :: UInt8.ofNat l :: ((twoB c.length ++ codeB c) ++ t), false⟩ = _
  rw [bnd_eq (one_ok (by unfold fits; simp; omega) (by omega)), bnd_eq (one_ok (by unfold fits; simp; omega) (by omega)), bnd_eq (one_ok (by unfold fits; simp; omega) (by omega)), List.append_assoc,
    bnd_eq (two_ok (by unfold fits; simp; omega) (by omega) (by omega))]
  unfold codeB
  rw [bnd_eq (many_ok (P := fun i => rightIns i = true ∧ i64 i.n) (fun x t hx => ins_ok hx.1 hx.2) c t fun i hi => ⟨List.all_eq_true.1 ha i hi, hc i hi⟩)]
  rfl
theorem fn_inv {l : List UInt8} {f : Fn} {t : List UInt8} (hz : fn ⟨l, false⟩ = (f, ⟨t, false⟩)) : l = fnB f ++ t ∧ (rightFn f = true ∧ codeI f.code) := by
  obtain ⟨p, t1, h1, hz1⟩ := bnd_ok (fun _ => (Good.one _ _).bnd fun _ => (Good.one _ _).bnd fun _ => (Good.two _ _).bnd fun _ => (Good.ins.many _).bnd fun _ => Good.ret _) hz
  obtain ⟨r, t2, h2, hz2⟩ := bnd_ok (fun _ => (Good.one _ _).bnd fun _ => (Good.two _ _).bnd fun _ => (Good.ins.many _).bnd fun _ => Good.ret _) hz1
  obtain ⟨k, t3, h3, hz3⟩ := bnd_ok (fun _ => (Good.two _ _).bnd fun _ => (Good.ins.many _).bnd fun _ => Good.ret _) hz2
  obtain ⟨n, t4, h4, hz4⟩ := bnd_ok (fun _ => (Good.ins.many _).bnd fun _ => Good.ret _) hz3
  obtain ⟨c, t5, h5, hz5⟩ := bnd_ok (fun _ => Good.ret _) hz4
  obtain ⟨rfl, f1, -⟩ := one_inv h1
  obtain ⟨rfl, f2, -⟩ := one_inv h2
  obtain ⟨rfl, f3, -⟩ := one_inv h3
  obtain ⟨rfl, f4, -⟩ := two_inv h4
  obtain ⟨rfl, hl, hc⟩ := many_inv Good.ins (fun l x t => ins_inv) n _ _ _ h5
  unfold ret at hz5
  injection hz5 with e1 e2
  injection e2 with e3
  subst e1 e3 hl
  unfold fits at f1 f2 f3 f4
  simp only [decide_eq_true_eq] at f1 f2 f3 f4
  refine ⟨?_, ?_, fun i hi => (hc i hi).2⟩
  · unfold fnB codeB
    simp
  · unfold rightFn
    simp only [Bool.and_eq_true, decide_eq_true_eq]
    exact ⟨⟨⟨⟨by omega, by omega⟩, by omega⟩, by omega⟩, List.all_eq_true.2 fun i hi => (hc i hi).1⟩
theorem flat_self (d : List UInt8) : d.flatMap (fun c => [c]) = d := by induction d <;> simp_all
theorem data_ok : ∀ (d t : List UInt8), data d.length ⟨d ++ t, false⟩ = (d, ⟨t, false⟩) := by
  intro d t
  have := many_ok (r := next fun _ => true) (wr := fun c => [c]) (P := fun _ => True) (fun x t _ => next_ok rfl) d t fun _ _ => trivial
  rwa [flat_self] at this
theorem data_inv {n : Nat} {l d t : List UInt8} (h : data n ⟨l, false⟩ = (d, ⟨t, false⟩)) : l = d ++ t ∧ d.length = n := by
  obtain ⟨h1, h2, -⟩ := many_inv (r := next fun _ => true) (wr := fun c => [c]) (P := fun _ => True) (Good.next _) (fun l x t h => ⟨(next_inv h).1, trivial⟩) n l d t h
  rw [flat_self] at h1
  exact ⟨h1, h2⟩
theorem sign_ok {c : UInt8} {t : List UInt8} : sign c ⟨c :: t, false⟩ = (c, ⟨t, false⟩) := next_ok (by simp)
theorem sign_inv {c x : UInt8} {l t : List UInt8} (h : sign c ⟨l, false⟩ = (x, ⟨t, false⟩)) : l = c :: t := by
  obtain ⟨rfl, hp⟩ := next_inv h
  have : x = c := UInt8.toNat_inj.1 (by simpa using hp)
  rw [this]
theorem module_ok {m : Mod} {t : List UInt8} (h : right m = true) (hi : fnsI m.funcs) : module_ ⟨write m ++ t, false⟩ = (m, ⟨t, false⟩) := by
  obtain ⟨mem, d, fs⟩ := m
  unfold right at h
  simp only [Bool.and_eq_true, decide_eq_true_eq] at h
  obtain ⟨⟨⟨⟨m0, m1⟩, hd⟩, n0, n1⟩, ha⟩ := h
  obtain ⟨mem, rfl⟩ := Int.eq_ofNat_of_zero_le m0
  show bnd (sign 67) _ ⟨67 :: 83 :: 77 :: 1 :: ((twoB mem ++ (twoB d.length ++ (d ++ (UInt8.ofNat fs.length :: fnsB fs)))) ++ t), false⟩ = _
  rw [bnd_eq sign_ok, bnd_eq sign_ok, bnd_eq sign_ok, bnd_eq sign_ok]
  unfold body
  rw [List.append_assoc, bnd_eq (two_ok (by unfold fits; simp; omega) (by omega) (by omega)), List.append_assoc, bnd_eq (two_ok (by unfold fits; simp; omega) (by omega) (by omega)), List.append_assoc,
    bnd_eq (data_ok d _), List.cons_append, bnd_eq (one_ok (by unfold fits; simp; omega) (by omega))]
  unfold fnsB
  rw [bnd_eq (many_ok (P := fun f => rightFn f = true ∧ codeI f.code) (fun x t hx => fn_ok hx) fs t fun f hf => ⟨List.all_eq_true.1 ha f hf, hi f hf⟩)]
  rfl
theorem module_inv {l : List UInt8} {m : Mod} {t : List UInt8} (hz : module_ ⟨l, false⟩ = (m, ⟨t, false⟩)) : l = write m ++ t ∧ right m = true ∧ fnsI m.funcs := by
  obtain ⟨_, t1, h1, hz1⟩ := bnd_ok (fun _ => (Good.sign _).bnd fun _ => (Good.sign _).bnd fun _ => (Good.sign _).bnd fun _ => Good.body) hz
  obtain ⟨_, t2, h2, hz2⟩ := bnd_ok (fun _ => (Good.sign _).bnd fun _ => (Good.sign _).bnd fun _ => Good.body) hz1
  obtain ⟨_, t3, h3, hz3⟩ := bnd_ok (fun _ => (Good.sign _).bnd fun _ => Good.body) hz2
  obtain ⟨_, t4, h4, hz4⟩ := bnd_ok (fun _ => Good.body) hz3
  obtain ⟨mem, t5, h5, hz5⟩ := bnd_ok (fun _ => (Good.two _ _).bnd fun _ => ((Good.next _).many _).bnd fun _ => (Good.one _ _).bnd fun _ => (Good.fn.many _).bnd fun _ => Good.ret _) hz4
  obtain ⟨n, t6, h6, hz6⟩ := bnd_ok (fun _ => ((Good.next _).many _).bnd fun _ => (Good.one _ _).bnd fun _ => (Good.fn.many _).bnd fun _ => Good.ret _) hz5
  obtain ⟨d, t7, h7, hz7⟩ := bnd_ok (fun _ => (Good.one _ _).bnd fun _ => (Good.fn.many _).bnd fun _ => Good.ret _) hz6
  obtain ⟨k, t8, h8, hz8⟩ := bnd_ok (fun _ => (Good.fn.many _).bnd fun _ => Good.ret _) hz7
  obtain ⟨fs, t9, h9, hz9⟩ := bnd_ok (fun _ => Good.ret _) hz8
  obtain rfl := sign_inv h1
  obtain rfl := sign_inv h2
  obtain rfl := sign_inv h3
  obtain rfl := sign_inv h4
  obtain ⟨rfl, f5, -⟩ := two_inv h5
  obtain ⟨rfl, f6, -⟩ := two_inv h6
  obtain ⟨rfl, rfl⟩ := data_inv h7
  obtain ⟨rfl, f8, -⟩ := one_inv h8
  obtain ⟨rfl, hl, hc⟩ := many_inv Good.fn (fun l x t => fn_inv) k _ _ _ h9
  unfold ret at hz9
  injection hz9 with e1 e2
  injection e2 with e3
  subst e1 e3 hl
  unfold fits at f5 f6 f8
  simp only [decide_eq_true_eq] at f5 f6 f8
  refine ⟨?_, ?_, fun f hf => (hc f hf).2⟩
  · unfold write fnsB head
    simp
  · unfold right
    simp only [Bool.and_eq_true, decide_eq_true_eq]
    exact ⟨⟨⟨by omega, by omega⟩, by omega⟩, List.all_eq_true.2 fun f hf => (hc f hf).1⟩

/-! ### the promises -/
theorem err0 {m : Mod} (h : err m = 0) : right m = true ∧ (write m).length ≤ 4096 ∧ enc m = write m := by
  have e : enc m = write m := by unfold enc; rw [if_pos h]
  unfold err at h
  split at h
  · rename_i hr
    split at h
    · cases h
    · exact ⟨hr, by omega, e⟩
  · cases h
theorem dec_write {m : Mod} (h : err m = 0) (hi : fnsI m.funcs) : code (write m) = 0 ∧ dec (write m) = m ∧ place (write m) = 0 := by
  obtain ⟨hr, hl, -⟩ := err0 h
  have e : module_ ⟨write m, false⟩ = (m, ⟨[], false⟩) := by simpa using module_ok (t := []) hr hi
  have hf : flaw (write m) = false := by unfold flaw; rw [e]; rfl
  have hc : code (write m) = 0 := by unfold code; rw [if_neg (by omega), hf]; rfl
  refine ⟨hc, ?_, ?_⟩
  · unfold dec; rw [if_pos hc, e]
  · unfold place; rw [if_neg (by omega), hf]; rfl
theorem code0 {b : List UInt8} (h : code b = 0) : b.length ≤ 4096 ∧ ∃ m, module_ ⟨b, false⟩ = (m, ⟨[], false⟩) ∧ dec b = m := by
  have hd : dec b = (module_ ⟨b, false⟩).1 := by unfold dec; rw [if_pos h]
  unfold code at h
  split at h
  · cases h
  · rename_i hl
    split at h
    · cases h
    · rename_i hf
      unfold flaw at hf
      rcases e : module_ ⟨b, false⟩ with ⟨m, ⟨t, bad⟩⟩
      rw [e] at hf hd
      simp only [Bool.or_eq_true, decide_eq_true_eq, not_or, Bool.not_eq_true] at hf
      obtain ⟨rfl, ht⟩ := hf
      obtain rfl : t = [] := List.eq_nil_of_length_eq_zero (by omega)
      exact ⟨by omega, m, rfl, hd⟩
theorem enc_dec {b : List UInt8} (h : code b = 0) : err (dec b) = 0 ∧ enc (dec b) = b ∧ fnsI (dec b).funcs := by
  obtain ⟨hl, m, e, rfl⟩ := code0 h
  obtain ⟨e1, hr, hi⟩ := module_inv e
  rw [List.append_nil] at e1
  have h0 : err (dec b) = 0 := by unfold err; rw [if_pos hr, ← e1, if_neg (by omega)]
  exact ⟨h0, (err0 h0).2.2.trans e1.symm, hi⟩
theorem code_cases (b : List UInt8) : code b = 0 ∨ (code b = 120 ∧ b.length ≤ 4096 ∧ place b = b.length - (module_ ⟨b, false⟩).2.rest.length ∧ flaw b = true) ∨ (code b = 2 ∧ 4096 < b.length) := by
  unfold code place
  split
  · rename_i h; exact .inr (.inr ⟨rfl, h⟩)
  · rename_i h
    cases hf : flaw b
    · exact .inl rfl
    · exact .inr (.inl ⟨rfl, by omega, rfl, rfl⟩)
theorem place_le (b : List UInt8) : place b ≤ b.length := by
  unfold place
  split
  · omega
  · split
    · omega
    · omega
theorem begins {m : Mod} (h : err m = 0) (hi : fnsI m.funcs) (n : Nat) (hn : n < (write m).length) : code ((write m).take n) = 120 ∧ place ((write m).take n) = n := by
  obtain ⟨hr, hl, -⟩ := err0 h
  have e : module_ ⟨write m, false⟩ = (m, ⟨[], false⟩) := by simpa using module_ok (t := []) hr hi
  have hlen : ((write m).take n).length = n := by rw [List.length_take]; omega
  have hs : (module_ ⟨(write m).take n, false⟩).2.rest = [] := by
    have := Good.module_.past ((write m).take n) ((write m).drop n) [] m [] (by rw [List.take_append_drop]; exact e) (by rw [List.length_drop]; simp; omega)
    simpa using this
  rcases code_cases ((write m).take n) with h0 | ⟨h0, -, h1, -⟩ | ⟨-, h1⟩
  · obtain ⟨-, m', e', -⟩ := code0 h0
    obtain ⟨c, ec, hx⟩ := Good.module_.ext _ _ _ e'
    rw [List.append_nil] at ec
    have := hx ((write m).drop n)
    rw [← ec, List.take_append_drop, e] at this
    injection this with _ h2
    injection h2 with h3
    have := congrArg List.length h3
    rw [List.length_drop] at this
    simp at this
    omega
  · exact ⟨h0, by rw [h1, hs, hlen]; rfl⟩
  · rw [hlen] at h1; omega
theorem more {m : Mod} (h : err m = 0) (hi : fnsI m.funcs) (c : UInt8) (hl : (write m).length < 4096) : code (write m ++ [c]) = 120 ∧ place (write m ++ [c]) = (write m).length := by
  obtain ⟨hr, -, -⟩ := err0 h
  have e : module_ ⟨write m ++ [c], false⟩ = (m, ⟨[c], false⟩) := module_ok hr hi
  have hf : flaw (write m ++ [c]) = true := by unfold flaw; rw [e]; rfl
  have hlen : (write m ++ [c]).length = (write m).length + 1 := by simp
  constructor
  · unfold code; rw [if_neg (by omega), if_pos hf]
  · unfold place; rw [if_neg (by omega), if_pos hf, e, hlen]; rfl
theorem turns {m : Mod} (h : err m = 0) (hi : fnsI m.funcs) (i : Nat) (c : UInt8) (hl : i < (write m).length) (hc : c ≠ (write m)[i]) :
    (code ((write m).set i c) = 0 ∧ dec ((write m).set i c) ≠ m) ∨ (code ((write m).set i c) = 120 ∧ i ≤ place ((write m).set i c)) := by
  obtain ⟨hr, hl4, -⟩ := err0 h
  have e : module_ ⟨write m, false⟩ = (m, ⟨[], false⟩) := by simpa using module_ok (t := []) hr hi
  have hlen : ((write m).set i c).length = (write m).length := by simp
  rcases code_cases ((write m).set i c) with h0 | ⟨h0, -, h1, -⟩ | ⟨-, h1⟩
  · refine .inl ⟨h0, fun hd => hc ?_⟩
    have h2 := enc_dec h0
    rw [hd, (err0 h).2.2] at h2
    have h3 := h2.2.1
    have : ((write m).set i c)[i]'(by rw [hlen]; exact hl) = (write m)[i] := by simp only [← h3]
    rw [← this]
    simp
  · refine .inr ⟨h0, ?_⟩
    have hs := Good.module_.past ((write m).take i) ((write m).drop i) (c :: (write m).drop (i + 1)) m [] (by rw [List.take_append_drop]; exact e) (by rw [List.length_drop]; simp; omega)
    rw [show (write m).take i ++ c :: (write m).drop (i + 1) = (write m).set i c by rw [List.set_eq_take_append_cons_drop, if_pos hl]] at hs
    have := hs.length_le
    rw [h1, hlen]
    simp only [List.length_cons, List.length_drop] at this
    omega
  · rw [hlen] at h1; omega

/-! ### one number -/
def grow (l : List UInt8) : List UInt8 := l.dropLast ++ [UInt8.ofNat ((l.getLastD 0).toNat + 128), 0]
theorem grp_ne (f u : Nat) : grp f u ≠ [] := by cases f <;> unfold grp <;> (try split) <;> simp
theorem num_grow : ∀ (f place u : Nat), f + place = 9 → u * 128 ^ place < 2 ^ 64 → (place = 0 ∨ u ≠ 0) → (grp f u).length + place < 10 → (num (f + 1) place ⟨grow (grp f u), false⟩).2 = ⟨[0], true⟩
  | 0, place, u, hp, _, _, hl => by
    unfold grp at hl
    simp at hl
    omega
  | f + 1, place, u, hp, hu, h0, hl => by
    have h9 : place ≠ 9 := by omega
    unfold num
    rw [grp] at hl ⊢
    split
    · rename_i hlt
      have e := u8_toNat (show u < 256 by omega)
      have e2 := u8_toNat (show u + 128 < 256 by omega)
      rw [if_pos hlt] at hl
      show (bnd _ _ ⟨[UInt8.ofNat ((UInt8.ofNat u).toNat + 128), 0], false⟩).2 = _
      rw [e, bnd_eq (next_ok ?_)]
      · simp only [e2]
        rw [if_neg (show ¬ u + 128 < 128 by omega)]
        have hm : mayBe 0 (place + 1) = false := by unfold mayBe; rw [if_neg (by omega)]; split <;> rfl
        have hn : next (fun c => mayBe c (place + 1)) ⟨[0], false⟩ = (0, ⟨[0], true⟩) := by unfold next; simp [hm]
        unfold num
        simp only [bnd, hn]
        rfl
      · unfold mayBe
        rw [e2]
        split
        · rfl
        · simp only [decide_eq_true_eq]; omega
    · rename_i hlt
      rw [if_neg hlt] at hl
      have e := u8_toNat (show 128 + u % 128 < 256 by omega)
      have hg : grow (UInt8.ofNat (128 + u % 128) :: grp f (u / 128)) = UInt8.ofNat (128 + u % 128) :: grow (grp f (u / 128)) := by
        unfold grow
        have := grp_ne f (u / 128)
        cases hq : grp f (u / 128) with
        | nil => exact absurd hq this
        | cons a r => rfl
      have e2 : u / 128 * 128 ^ (place + 1) ≤ u * 128 ^ place := by
        rw [Nat.pow_succ, Nat.mul_comm (128 ^ place) 128, ← Nat.mul_assoc]
        exact Nat.mul_le_mul_right _ (Nat.div_mul_le_self u 128)
      rw [hg, bnd_eq (next_ok ?_)]
      · rw [e, if_neg (by omega)]
        exact num_grow f (place + 1) (u / 128) (by omega) (by omega) (.inr (by omega)) (by rw [List.length_cons] at hl; omega)
      · unfold mayBe
        rw [e]
        split
        · rfl
        · simp only [decide_eq_true_eq]; omega
/-- a module that pushes a number -/
def push (n : Int) : Mod := ⟨0, [], [⟨0, 0, 0, [⟨1, n⟩]⟩]⟩
def pushed : List UInt8 := [67, 83, 77, 1, 0, 0, 0, 0, 1, 0, 0, 0, 1, 0, 1]
theorem write_push (n : Int) : write (push n) = pushed ++ numB n := by
  simp [write, push, head, twoB, fnsB, fnB, codeB, insB, has, pushed]
theorem grp_len : ∀ (f u : Nat), (grp f u).length ≤ f + 1
  | 0, u => by simp [grp]
  | f + 1, u => by
    unfold grp
    split
    · simp
    · have := grp_len f (u / 128); simp; omega
theorem err_push (n : Int) : err (push n) = 0 := by
  have hr : right (push n) = true := by
    show (decide _ && decide _ && decide _ && (rightFn ⟨0, 0, 0, [⟨1, n⟩]⟩ && true)) = true
    have : rightIns ⟨1, n⟩ = true := by unfold rightIns; simp [has]
    simp [rightFn, this]
    simp [push]
  unfold err
  rw [if_pos hr, if_neg ?_]
  rw [write_push]
  have := grp_len 9 (fold n)
  unfold numB pushed
  simp
  omega
theorem bnd_assoc {α β γ : Type} (r : St → α × St) (f : α → St → β × St) (g : β → St → γ × St) : bnd (bnd r f) g = bnd r fun x => bnd (f x) g := rfl
theorem bnd_ret {α β : Type} (x : α) (f : α → St → β × St) (s : St) : bnd (ret x) f s = f x s := rfl
theorem pushed_state (X : List UInt8) (st : St) (hn : (number ⟨X, false⟩).2 = st) : (module_ ⟨pushed ++ X, false⟩).2 = st := by
  rw [show pushed ++ X = 67 :: 83 :: 77 :: 1 :: (twoB 0 ++ (twoB 0 ++ (UInt8.ofNat 1 :: (UInt8.ofNat 0 :: UInt8.ofNat 0 :: UInt8.ofNat 0 :: (twoB 1 ++ (UInt8.ofNat 1 :: X)))))) from rfl]
  unfold module_
  rw [bnd_eq sign_ok, bnd_eq sign_ok, bnd_eq sign_ok, bnd_eq sign_ok]
  unfold body
  rw [bnd_eq (two_ok (n := 0) (by decide) (by decide) (by decide)), bnd_eq (two_ok (n := 0) (by decide) (by decide) (by decide))]
  rw [show data 0 = ret ([] : List UInt8) from rfl, bnd_ret]
  rw [bnd_eq (one_ok (n := 1) (by decide) (by decide))]
  rw [show many fn 1 = bnd fn fun x => ret [x] from rfl]
  simp only [bnd_assoc, fn]
  rw [bnd_eq (one_ok (n := 0) (by decide) (by decide)), bnd_eq (one_ok (n := 0) (by decide) (by decide)), bnd_eq (one_ok (n := 0) (by decide) (by decide)), bnd_eq (two_ok (n := 1) (by decide) (by decide) (by decide))]
  rw [show many ins 1 = bnd ins fun x => ret [x] from rfl]
  simp only [bnd_assoc, ins]
  rw [bnd_eq (one_ok (n := 1) (by decide) (by decide)), if_pos (by decide)]
  simp only [bnd_assoc]
  rcases hx : number ⟨X, false⟩ with ⟨v, s⟩
  rw [hx] at hn
  rw [bnd_eq hx]
  exact hn
theorem grow_push {n : Int} (h : i64 n) (hl : (numB n).length < 10) : code (pushed ++ grow (numB n)) = 120 ∧ place (pushed ++ grow (numB n)) = 15 + (numB n).length := by
  have hn : (number ⟨grow (numB n), false⟩).2 = ⟨[0], true⟩ := num_grow 9 0 (fold n) rfl (by have := fold_lt h.1 h.2; simpa using this) (.inl rfl) hl
  have e : (module_ ⟨pushed ++ grow (numB n), false⟩).2 = ⟨[0], true⟩ := pushed_state _ _ hn
  have hf : flaw (pushed ++ grow (numB n)) = true := by unfold flaw; rw [e]; rfl
  have hlen : (pushed ++ grow (numB n)).length = 15 + (numB n).length + 1 := by
    have := grp_ne 9 (fold n)
    unfold grow numB pushed at *
    have : 0 < (grp 9 (fold n)).length := List.length_pos_iff.2 this
    simp
    omega
  constructor
  · unfold code; rw [if_neg (by omega), if_pos hf]
  · unfold place; rw [if_neg (by omega), if_pos hf, e, hlen]; rfl
end md
end Go.Proofs.YtbmcmcdgdhabaaaDoor
