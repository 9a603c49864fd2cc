/- A module's bytes, on lists (without Go): how they are written, how they are read. -/
namespace Go.Proofs.YtbmcmcdgdhabaaaDoor
namespace md
structure Ins where
  op : Int
  n : Int
structure Fn where
  params : Int
  results : Int
  locals : Int
  code : List Ins
structure Mod where
  mem : Int
  data : List UInt8
  funcs : List Fn
def has (op : Int) : Bool := decide (op = 1 ∨ op = 5 ∨ op = 6 ∨ op = 24 ∨ op = 25 ∨ op = 26 ∨ op = 28)
def rightIns (i : Ins) : Bool := decide (0 ≤ i.op ∧ i.op ≤ 29) && (decide (i.n = 0) || has i.op)
def rightFn (f : Fn) : Bool := decide (0 ≤ f.params ∧ f.params ≤ 8) && decide (0 ≤ f.results ∧ f.results ≤ 1) && decide (0 ≤ f.locals ∧ f.locals ≤ 16 - f.params) && decide (1 ≤ f.code.length ∧ f.code.length ≤ 400) && f.code.all rightIns
def right (m : Mod) : Bool := decide (0 ≤ m.mem ∧ m.mem ≤ 1024) && decide ((m.data.length : Int) ≤ m.mem) && decide (1 ≤ m.funcs.length ∧ m.funcs.length ≤ 16) && m.funcs.all rightFn
/-- the number without a sign -/
def fold (n : Int) : Nat := if n < 0 then 2 * (-n - 1).toNat + 1 else 2 * n.toNat
def unf (u : Nat) : Int := if u % 2 = 1 then -((u / 2 : Nat) : Int) - 1 else ((u / 2 : Nat) : Int)
/-- a number's groups -/
def grp : Nat → Nat → List UInt8
  | 0, u => [UInt8.ofNat u]
  | f + 1, u => if u < 128 then [UInt8.ofNat u] else UInt8.ofNat (128 + u % 128) :: grp f (u / 128)
def numB (n : Int) : List UInt8 := grp 9 (fold n)
def twoB (n : Nat) : List UInt8 := [UInt8.ofNat (n % 256), UInt8.ofNat (n / 256)]
def insB (i : Ins) : List UInt8 := UInt8.ofNat i.op.toNat :: (if has i.op then numB i.n else [])
def codeB (l : List Ins) : List UInt8 := l.flatMap insB
def fnB (f : Fn) : List UInt8 := UInt8.ofNat f.params.toNat :: UInt8.ofNat f.results.toNat :: UInt8.ofNat f.locals.toNat :: (twoB f.code.length ++ codeB f.code)
def fnsB (l : List Fn) : List UInt8 := l.flatMap fnB
def head : List UInt8 := [67, 83, 77, 1]
def write (m : Mod) : List UInt8 := head ++ (twoB m.mem.toNat ++ (twoB m.data.length ++ (m.data ++ (UInt8.ofNat m.funcs.length :: fnsB m.funcs))))
/-- what Encode answers -/
def err (m : Mod) : Nat := if right m then (if 4096 < (write m).length then 2 else 0) else 1
def enc (m : Mod) : List UInt8 := if err m = 0 then write m else []

/-! ### reading -/
structure St where
  rest : List UInt8
  bad : Bool
def next (p : UInt8 → Bool) : St → UInt8 × St
  | ⟨[], _⟩ => (0, ⟨[], true⟩)
  | ⟨c :: r, true⟩ => (0, ⟨c :: r, true⟩)
  | ⟨c :: r, false⟩ => if p c = true then (c, ⟨r, false⟩) else (0, ⟨c :: r, true⟩)
def ret {α : Type} (x : α) : St → α × St := fun s => (x, s)
def bnd {α β : Type} (r : St → α × St) (f : α → St → β × St) : St → β × St := fun s => f (r s).1 (r s).2
def fits (lo hi n : Nat) : Bool := decide (lo ≤ n ∧ n ≤ hi)
def one (lo hi : Nat) : St → Nat × St := bnd (next fun c => fits lo hi c.toNat) fun c => ret c.toNat
def two (lo hi : Nat) : St → Nat × St := bnd (next fun c => fits lo hi c.toNat || fits lo hi (c.toNat + 256)) fun a => bnd (next fun c => fits lo hi (a.toNat + c.toNat * 256)) fun b => ret (a.toNat + b.toNat * 256)
def mayBe (c : UInt8) (place : Nat) : Bool := if place = 0 then true else if place = 9 then decide (c.toNat = 1) else decide (c.toNat ≠ 0)
def num : Nat → Nat → St → Nat × St
  | 0, _ => ret 0
  | f + 1, place => bnd (next fun c => mayBe c place) fun c => if c.toNat < 128 then ret (c.toNat % 128 * 128 ^ place) else bnd (num f (place + 1)) fun v => ret (c.toNat % 128 * 128 ^ place + v)
def number : St → Int × St := bnd (num 10 0) fun u => ret (unf u)
def many {α : Type} (r : St → α × St) : Nat → St → List α × St
  | 0 => ret []
  | n + 1 => bnd r fun x => bnd (many r n) fun xs => ret (x :: xs)
def ins : St → Ins × St := bnd (one 0 29) fun op => if has op then bnd number fun n => ret ⟨op, n⟩ else ret ⟨op, 0⟩
def fn : St → Fn × St := bnd (one 0 8) fun p => bnd (one 0 1) fun r => bnd (one 0 (16 - p)) fun l => bnd (two 1 400) fun n => bnd (many ins n) fun c => ret ⟨p, r, l, c⟩
def sign (c : UInt8) : St → UInt8 × St := next fun x => decide (x.toNat = c.toNat)
def data : Nat → St → List UInt8 × St := many (next fun _ => true)
def body : St → Mod × St := bnd (two 0 1024) fun mem => bnd (two 0 mem) fun n => bnd (data n) fun d => bnd (one 1 16) fun k => bnd (many fn k) fun fs => ret ⟨mem, d, fs⟩
def module_ : St → Mod × St := bnd (sign 67) fun _ => bnd (sign 83) fun _ => bnd (sign 77) fun _ => bnd (sign 1) fun _ => body
def zero : Mod := ⟨0, [], []⟩
/-- what Decode answers: the module, the error, its place -/
def flaw (b : List UInt8) : Bool := (module_ ⟨b, false⟩).2.bad || decide (0 < (module_ ⟨b, false⟩).2.rest.length)
def code (b : List UInt8) : Nat := if 4096 < b.length then 2 else if flaw b then 120 else 0
def place (b : List UInt8) : Nat := if 4096 < b.length then 0 else if flaw b then b.length - (module_ ⟨b, false⟩).2.rest.length else 0
def dec (b : List UInt8) : Mod := if code b = 0 then (module_ ⟨b, false⟩).1 else zero

theorem many_snoc {α : Type} (r : St → α × St) : ∀ (n : Nat) (s : St), many r (n + 1) s = ((many r n s).1 ++ [(r (many r n s).2).1], (r (many r n s).2).2)
  | 0, s => rfl
  | n + 1, s => by
    show ((r s).1 :: (many r (n + 1) (r s).2).1, (many r (n + 1) (r s).2).2) = _
    rw [many_snoc r n (r s).2]
    rfl
theorem many_len {α : Type} (r : St → α × St) : ∀ (n : Nat) (s : St), (many r n s).1.length = n
  | 0, _ => rfl
  | n + 1, s => by show ((many r n (r s).2).1.length + 1) = _; rw [many_len r n]

/-! ### what all readers keep to -/
structure Good {α : Type} (r : St → α × St) : Prop where
  stuck : ∀ l, (r ⟨l, true⟩).2 = ⟨l, true⟩
  suf : ∀ s, (r s).2.rest <:+ s.rest
  ext : ∀ l x t, r ⟨l, false⟩ = (x, ⟨t, false⟩) → ∃ c, l = c ++ t ∧ ∀ t', r ⟨c ++ t', false⟩ = (x, ⟨t', false⟩)
  past : ∀ p q q' x t, r ⟨p ++ q, false⟩ = (x, ⟨t, false⟩) → t.length < q.length → (r ⟨p ++ q', false⟩).2.rest <:+ q'
theorem Good.ret {α : Type} (x : α) : Good (ret x) := by
  refine ⟨fun _ => rfl, fun _ => List.suffix_refl _, ?_, ?_⟩
  · intro l y t h
    unfold md.ret at h
    injection h with h1 h2
    injection h2 with h3
    subst h1 h3
    exact ⟨[], rfl, fun _ => rfl⟩
  · intro p q q' y t h hl
    unfold md.ret at h
    injection h with h1 h2
    injection h2 with h3
    subst h3
    simp at hl
    omega
theorem Good.bnd {α β : Type} {r : St → α × St} {f : α → St → β × St} (hr : Good r) (hf : ∀ x, Good (f x)) : Good (bnd r f) := by
  refine ⟨?_, ?_, ?_, ?_⟩
  · intro l
    unfold md.bnd
    have h := hr.stuck l
    rw [h]
    exact (hf _).stuck l
  · intro s
    exact ((hf _).suf _).trans (hr.suf s)
  · intro l y t h
    unfold md.bnd at h
    rcases h1 : r ⟨l, false⟩ with ⟨x, ⟨t1, b1⟩⟩
    rw [h1] at h
    cases b1 with
    | true =>
      have := (hf x).stuck t1
      simp only at h
      rw [h] at this
      simp at this
    | false =>
      obtain ⟨c1, rfl, e1⟩ := hr.ext l x t1 h1
      obtain ⟨c2, rfl, e2⟩ := (hf x).ext t1 y t h
      refine ⟨c1 ++ c2, by simp, fun t' => ?_⟩
      unfold md.bnd
      have := e1 (c2 ++ t')
      rw [List.append_assoc, this]
      exact e2 t'
  · intro p q q' y t h hl
    unfold md.bnd at h
    rcases h1 : r ⟨p ++ q, false⟩ with ⟨x, ⟨t1, b1⟩⟩
    rw [h1] at h
    cases b1 with
    | true =>
      have := (hf x).stuck t1
      simp only at h
      rw [h] at this
      simp at this
    | false =>
      by_cases hq : t1.length < q.length
      · have := hr.past p q q' x t1 h1 hq
        exact ((hf _).suf _).trans this
      · obtain ⟨c1, e0, e1⟩ := hr.ext _ x t1 h1
        obtain ⟨t0, rfl, rfl⟩ : ∃ t0, t1 = t0 ++ q ∧ p = c1 ++ t0 := by
          rcases List.append_eq_append_iff.1 e0 with ⟨a, ha, hb⟩ | ⟨a, ha, hb⟩
          · have : a.length = 0 := by have := congrArg List.length hb; rw [List.length_append] at this; omega
            have ha0 := List.eq_nil_of_length_eq_zero this
            subst ha0
            exact ⟨[], by simpa using hb.symm, by simpa using ha.symm⟩
          · exact ⟨a, hb, ha⟩
        unfold md.bnd
        have := e1 (t0 ++ q')
        rw [List.append_assoc, this]
        exact (hf x).past t0 q q' y t h hl
theorem Good.next (p : UInt8 → Bool) : Good (next p) := by
  refine ⟨?_, ?_, ?_, ?_⟩
  · intro l; cases l <;> rfl
  · rintro ⟨l, b⟩
    cases l with
    | nil => exact List.suffix_refl _
    | cons c r =>
      cases b with
      | true => exact List.suffix_refl _
      | false =>
        unfold md.next
        simp only
        split
        · exact List.suffix_cons _ _
        · exact List.suffix_refl _
  · intro l x t h
    cases l with
    | nil => unfold md.next at h; simp at h
    | cons c r =>
      unfold md.next at h
      simp only at h
      split at h
      · rename_i hp
        injection h with h1 h2
        injection h2 with h3
        subst h1 h3
        refine ⟨[c], rfl, fun t' => ?_⟩
        show md.next p ⟨c :: t', false⟩ = _
        unfold md.next
        simp only
        rw [if_pos hp]
      · simp at h
  · intro l q q' x t h hl
    cases l with
    | nil =>
      cases q' with
      | nil => exact List.suffix_refl _
      | cons c r =>
        show (md.next p ⟨c :: r, false⟩).2.rest <:+ _
        unfold md.next
        simp only
        split
        · exact List.suffix_cons _ _
        · exact List.suffix_refl _
    | cons c r =>
      rw [List.cons_append] at h
      unfold md.next at h
      simp only at h
      split at h
      · injection h with h1 h2
        injection h2 with h3
        subst h3
        simp at hl
        omega
      · simp at h
theorem Good.one (lo hi : Nat) : Good (one lo hi) := (Good.next _).bnd fun _ => Good.ret _
theorem Good.two (lo hi : Nat) : Good (two lo hi) := (Good.next _).bnd fun _ => (Good.next _).bnd fun _ => Good.ret _
theorem Good.num : ∀ f place, Good (num f place)
  | 0, _ => Good.ret _
  | f + 1, place => (Good.next _).bnd fun c => by
      split
      · exact Good.ret _
      · exact (Good.num f (place + 1)).bnd fun _ => Good.ret _
theorem Good.number : Good number := (Good.num 10 0).bnd fun _ => Good.ret _
theorem Good.many {α : Type} {r : St → α × St} (h : Good r) : ∀ n, Good (many r n)
  | 0 => Good.ret _
  | n + 1 => h.bnd fun _ => (Good.many h n).bnd fun _ => Good.ret _
theorem Good.ins : Good ins := (Good.one _ _).bnd fun op => by
  split
  · exact Good.number.bnd fun _ => Good.ret _
  · exact Good.ret _
theorem Good.fn : Good fn := (Good.one _ _).bnd fun _ => (Good.one _ _).bnd fun _ => (Good.one _ _).bnd fun _ => (Good.two _ _).bnd fun _ => (Good.ins.many _).bnd fun _ => Good.ret _
theorem Good.sign (c : UInt8) : Good (sign c) := Good.next _
theorem Good.body : Good body := (Good.two _ _).bnd fun _ => (Good.two _ _).bnd fun _ => ((Good.next _).many _).bnd fun _ => (Good.one _ _).bnd fun _ => (Good.fn.many _).bnd fun _ => Good.ret _
theorem Good.module_ : Good module_ := (Good.sign _).bnd fun _ => (Good.sign _).bnd fun _ => (Good.sign _).bnd fun _ => (Good.sign _).bnd fun _ => Good.body
/-- a reader that answers without a fault answered so before, too -/
theorem bnd_ok {α β : Type} {r : St → α × St} {f : α → St → β × St} (hf : ∀ x, Good (f x)) {s : St} {y : β} {t : List UInt8} (h : bnd r f s = (y, ⟨t, false⟩)) : ∃ x t1, r s = (x, ⟨t1, false⟩) ∧ f x ⟨t1, false⟩ = (y, ⟨t, false⟩) := by
  unfold bnd at h
  rcases h1 : r s with ⟨x, ⟨t1, b1⟩⟩
  rw [h1] at h
  cases b1 with
  | true =>
    have := (hf x).stuck t1
    simp only at h
    rw [h] at this
    simp at this
  | false => exact ⟨x, t1, rfl, h⟩
theorem bnd_eq {α β : Type} {r : St → α × St} {f : α → St → β × St} {s t : St} {x : α} (h : r s = (x, t)) : bnd r f s = f x t := by unfold bnd; rw [h]

/-! ### written and read back -/
theorem u8_toNat {n : Nat} (h : n < 256) : (UInt8.ofNat n).toNat = n := by simp [UInt8.toNat_ofNat']; omega
theorem next_ok {p : UInt8 → Bool} {c : UInt8} {t : List UInt8} (h : p c = true) : next p ⟨c :: t, false⟩ = (c, ⟨t, false⟩) := by unfold next; simp only; rw [if_pos h]
theorem next_inv {p : UInt8 → Bool} {l : List UInt8} {c : UInt8} {t : List UInt8} (h : next p ⟨l, false⟩ = (c, ⟨t, false⟩)) : l = c :: t ∧ p c = true := by
  cases l with
  | nil => unfold next at h; simp at h
  | cons d r =>
    unfold next at h
    simp only at h
    split at h
    · rename_i hp
      injection h with h1 h2
      injection h2 with h3
      subst h1 h3
      exact ⟨rfl, hp⟩
    · simp at h
theorem one_ok {lo hi n : Nat} {t : List UInt8} (h : fits lo hi n = true) (hn : n < 256) : one lo hi ⟨UInt8.ofNat n :: t, false⟩ = (n, ⟨t, false⟩) := by
  have := u8_toNat hn
  unfold one
  rw [bnd_eq (next_ok (by rw [this]; exact h))]
  unfold ret
  rw [this]
theorem one_inv {lo hi n : Nat} {l t : List UInt8} (h : one lo hi ⟨l, false⟩ = (n, ⟨t, false⟩)) : l = UInt8.ofNat n :: t ∧ fits lo hi n = true ∧ n < 256 := by
  obtain ⟨c, t1, h1, h2⟩ := bnd_ok (fun _ => Good.ret _) h
  obtain ⟨rfl, hp⟩ := next_inv h1
  unfold ret at h2
  injection h2 with h3 h4
  injection h4 with h5
  subst h3 h5
  exact ⟨by simp, hp, c.toNat_lt⟩
theorem two_ok {lo hi n : Nat} {t : List UInt8} (h : fits lo hi n = true) (hlo : lo ≤ 256) (hn : n < 65536) : two lo hi ⟨twoB n ++ t, false⟩ = (n, ⟨t, false⟩) := by
  have e1 := u8_toNat (show n % 256 < 256 by omega)
  have e2 := u8_toNat (show n / 256 < 256 by omega)
  unfold fits at h
  simp only [decide_eq_true_eq] at h
  unfold two twoB
  rw [List.cons_append, bnd_eq (next_ok ?_), List.cons_append, List.nil_append, bnd_eq (next_ok ?_)]
  · unfold ret
    rw [e1, e2]
    congr 1
    omega
  · rw [e1, e2]; unfold fits; simp only [decide_eq_true_eq]; omega
  · rw [e1]; unfold fits
    simp only [Bool.or_eq_true, decide_eq_true_eq]
    by_cases h0 : n / 256 = 0
    · left; omega
    · right; omega
theorem two_inv {lo hi n : Nat} {l t : List UInt8} (h : two lo hi ⟨l, false⟩ = (n, ⟨t, false⟩)) : l = twoB n ++ t ∧ fits lo hi n = true ∧ n < 65536 := by
  obtain ⟨a, t1, h1, h2⟩ := bnd_ok (fun _ => (Good.next _).bnd fun _ => Good.ret _) h
  obtain ⟨b, t2, h3, h4⟩ := bnd_ok (fun _ => Good.ret _) h2
  obtain ⟨rfl, -⟩ := next_inv h1
  obtain ⟨rfl, hp⟩ := next_inv h3
  unfold ret at h4
  injection h4 with h5 h6
  injection h6 with h7
  subst h5 h7
  have ha := a.toNat_lt
  have hb := b.toNat_lt
  refine ⟨?_, hp, by omega⟩
  unfold twoB
  rw [show (a.toNat + b.toNat * 256) % 256 = a.toNat by omega, show (a.toNat + b.toNat * 256) / 256 = b.toNat by omega]
  simp
theorem num_ok : ∀ (f place u : Nat) (t : List UInt8), f + place = 9 → u * 128 ^ place < 2 ^ 64 → (place = 0 ∨ u ≠ 0) → num (f + 1) place ⟨grp f u ++ t, false⟩ = (u * 128 ^ place, ⟨t, false⟩)
  | 0, place, u, t, hp, hu, h0 => by
    obtain rfl : place = 9 := by omega
    have hu1 : u = 1 := by
      have : u * 128 ^ 9 < 2 * 128 ^ 9 := by simpa using hu
      omega
    subst hu1
    rfl
  | f + 1, place, u, t, hp, hu, h0 => by
    have h9 : place ≠ 9 := by omega
    unfold num grp
    split
    · rename_i hlt
      have e := u8_toNat (show u < 256 by omega)
      rw [List.cons_append, List.nil_append, bnd_eq (next_ok ?_)]
      · rw [e, if_pos hlt]; unfold ret; rw [Nat.mod_eq_of_lt hlt]
      · unfold mayBe
        rw [e]
        split
        · rfl
        · simp only [decide_eq_true_eq]; omega
    · rename_i hlt
      have e := u8_toNat (show 128 + u % 128 < 256 by omega)
      have e2 : u / 128 * 128 ^ (place + 1) ≤ u * 128 ^ place := by
        rw [Nat.pow_succ, Nat.mul_comm (128 ^ place) 128, ← Nat.mul_assoc]
        exact Nat.mul_le_mul_right _ (Nat.div_mul_le_self u 128)
      rw [List.cons_append, bnd_eq (next_ok ?_)]
      · rw [e, if_neg (by omega)]
        rw [bnd_eq (num_ok f (place + 1) (u / 128) t (by omega) (by omega) (.inr (by omega)))]
        unfold ret
        congr 1
        rw [show (128 + u % 128) % 128 = u % 128 by omega, Nat.pow_succ, Nat.mul_comm (128 ^ place) 128, ← Nat.mul_assoc, ← Nat.add_mul]
        congr 1
        omega
      · unfold mayBe
        rw [e]
        split
        · rfl
        · simp only [decide_eq_true_eq]; omega
theorem num_inv : ∀ (f place v : Nat) (l t : List UInt8), f + place = 9 → num (f + 1) place ⟨l, false⟩ = (v, ⟨t, false⟩) → ∃ u, v = u * 128 ^ place ∧ l = grp f u ++ t ∧ v < 2 ^ 64 ∧ (place = 0 ∨ u ≠ 0)
  | 0, place, v, l, t, hp, h => by
    obtain rfl : place = 9 := by omega
    obtain ⟨c, t1, h1, h2⟩ := bnd_ok (fun c => by
      split
      · exact Good.ret _
      · exact (Good.num 0 _).bnd fun _ => Good.ret _) h
    obtain ⟨rfl, hm⟩ := next_inv h1
    have hc : c.toNat = 1 := by unfold mayBe at hm; simpa using hm
    rw [hc, if_pos (by omega)] at h2
    unfold ret at h2
    injection h2 with h3 h4
    injection h4 with h5
    subst h3 h5
    refine ⟨1, rfl, ?_, by decide, .inr (by decide)⟩
    unfold grp
    have : c = 1 := UInt8.toNat_inj.1 (by rw [hc]; rfl)
    rw [this]; rfl
  | f + 1, place, v, l, t, hp, h => by
    have h9 : place ≠ 9 := by omega
    obtain ⟨c, t1, h1, h2⟩ := bnd_ok (fun c => by
      split
      · exact Good.ret _
      · exact (Good.num (f + 1) _).bnd fun _ => Good.ret _) h
    obtain ⟨rfl, hm⟩ := next_inv h1
    have hc := c.toNat_lt
    split at h2
    · rename_i hlt
      unfold ret at h2
      injection h2 with h3 h4
      injection h4 with h5
      subst h3 h5
      refine ⟨c.toNat, by rw [Nat.mod_eq_of_lt hlt], ?_, ?_, ?_⟩
      · unfold grp; rw [if_pos hlt]; simp
      · rw [Nat.mod_eq_of_lt hlt]
        have h8 : place ≤ 8 := by omega
        have : (128 : Nat) ^ place ≤ 128 ^ 8 := Nat.pow_le_pow_right (by decide) h8
        calc c.toNat * 128 ^ place ≤ 127 * 128 ^ 8 := Nat.mul_le_mul (by omega) this
          _ < 2 ^ 64 := by decide
      · unfold mayBe at hm
        split at hm
        · left; assumption
        · right; simpa using hm
    · rename_i hlt
      obtain ⟨w, t2, h3, h4⟩ := bnd_ok (fun _ => Good.ret _) h2
      unfold ret at h4
      injection h4 with h5 h6
      injection h6 with h7
      subst h5 h7
      obtain ⟨u, rfl, rfl, hw, hu⟩ := num_inv f (place + 1) w t1 t2 (by omega) h3
      have hu0 : u ≠ 0 := by rcases hu with h | h <;> omega
      refine ⟨u * 128 + c.toNat % 128, ?_, ?_, ?_, .inr (by omega)⟩
      · rw [Nat.add_mul, Nat.pow_succ, Nat.mul_comm (128 ^ place) 128, ← Nat.mul_assoc]; omega
      · rw [grp, if_neg (by omega)]
        rw [show (u * 128 + c.toNat % 128) / 128 = u by omega, show 128 + (u * 128 + c.toNat % 128) % 128 = c.toNat by omega]
        simp
      · -- the digits below a number below 2^64 that is a multiple of 128^(place+1)
        have h8 : place ≤ 8 := by omega
        have hd : c.toNat % 128 * 128 ^ place < 128 ^ (place + 1) := by
          rw [Nat.pow_succ, Nat.mul_comm (128 ^ place) 128]
          exact Nat.mul_lt_mul_of_pos_right (Nat.mod_lt _ (by decide)) (Nat.pow_pos (by decide))
        have e64 : (2 : Nat) ^ 64 = 2 ^ (64 - 7 * (place + 1)) * 128 ^ (place + 1) := by
          rw [show (128 : Nat) = 2 ^ 7 from rfl, ← Nat.pow_mul, ← Nat.pow_add]
          congr 1
          omega
        rw [e64] at hw ⊢
        have hk : u < 2 ^ (64 - 7 * (place + 1)) := Nat.lt_of_mul_lt_mul_right hw
        calc c.toNat % 128 * 128 ^ place + u * 128 ^ (place + 1) < 128 ^ (place + 1) + u * 128 ^ (place + 1) := by omega
          _ = (u + 1) * 128 ^ (place + 1) := by rw [Nat.add_mul]; omega
          _ ≤ _ := Nat.mul_le_mul_right _ hk
theorem fold_lt {n : Int} (h0 : -9223372036854775808 ≤ n) (h1 : n ≤ 9223372036854775807) : fold n < 2 ^ 64 := by unfold fold; split <;> omega
theorem unf_fold {n : Int} : unf (fold n) = n := by unfold unf fold; split <;> split <;> omega
theorem fold_unf {u : Nat} : fold (unf u) = u := by unfold unf fold; split <;> split <;> omega
theorem unf_i64 {u : Nat} (h : u < 2 ^ 64) : -9223372036854775808 ≤ unf u ∧ unf u ≤ 9223372036854775807 := by unfold unf; split <;> omega
theorem number_ok {n : Int} {t : List UInt8} (h0 : -9223372036854775808 ≤ n) (h1 : n ≤ 9223372036854775807) : number ⟨numB n ++ t, false⟩ = (n, ⟨t, false⟩) := by
  unfold number numB
  rw [bnd_eq (num_ok 9 0 (fold n) t rfl (by have := fold_lt h0 h1; simpa using this) (.inl rfl))]
  unfold ret
  rw [Nat.pow_zero, Nat.mul_one, unf_fold]
theorem number_inv {n : Int} {l t : List UInt8} (h : number ⟨l, false⟩ = (n, ⟨t, false⟩)) : l = numB n ++ t ∧ -9223372036854775808 ≤ n ∧ n ≤ 9223372036854775807 := by
  obtain ⟨u, t1, h1, h2⟩ := bnd_ok (fun _ => Good.ret _) h
  unfold ret at h2
  injection h2 with h3 h4
  injection h4 with h5
  subst h3 h5
  obtain ⟨v, rfl, rfl, hv, -⟩ := num_inv 9 0 u l t1 rfl h1
  rw [Nat.pow_zero, Nat.mul_one] at *
  refine ⟨?_, unf_i64 hv⟩
  unfold numB
  rw [fold_unf]
end md
end Go.Proofs.YtbmcmcdgdhabaaaDoor
