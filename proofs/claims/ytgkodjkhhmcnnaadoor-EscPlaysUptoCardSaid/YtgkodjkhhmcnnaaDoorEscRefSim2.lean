/- The document's parser on lists, and that the program's says the same; no Go. The document's parser and the program's say the same: control sequences; no Go. -/
import Derived.Test.YtgkodjkhhmcnnaaDoorEscMath
namespace Go.Proofs.YtgkodjkhhmcnnaaDoor.rf
open Go.Proofs.YtgkodjkhhmcnnaaDoor

/-- where the document's parser is -/
structure St where
  inn : Nat := 0
  wait : List UInt8 := []
  got : List UInt8 := []
  sign : Nat := 0
def rest (s : St) : List es.Act := List.replicate s.wait.length (es.print 65533)
def numStep (out : List Int) (b : UInt8) : List Int := if b.toNat = 59 then out ++ [-1] else out.set (out.length - 1) (es.digit (out.getD (out.length - 1) 0) b)
def numbers (l : List UInt8) : List Int := if l = [] then [] else (l.foldl numStep [-1]).take 16
def isNum (b : UInt8) : Bool := decide (48 ≤ b.toNat ∧ b.toNat ≤ 57 ∨ b.toNat = 59)
def isLow (b : UInt8) : Bool := decide (b.toNat < 48)
/-- the sign that opens a sequence, and what is behind it -/
def opens (l : List UInt8) : Bool := match l with | [] => false | b :: _ => decide (60 ≤ b.toNat)
def privOf (l : List UInt8) : Nat := if opens l then (l.headD 0).toNat else 0
def body (l : List UInt8) : List UInt8 := if opens l then l.drop 1 else l
def numsOf (l : List UInt8) : List UInt8 := (body l).takeWhile isNum
def rest1 (l : List UInt8) : List UInt8 := (body l).dropWhile isNum
def interOf (l : List UInt8) : List UInt8 := (rest1 l).takeWhile isLow
def rest2 (l : List UInt8) : List UInt8 := (rest1 l).dropWhile isLow
def wholeOk (l : List UInt8) : Bool := decide (rest2 l = [] ∧ (interOf l).length ≤ 2)
def whole (l : List UInt8) (final : UInt8) : es.Act := { kind := 4, final := final.toNat, priv := privOf l, inter := interOf l, params := numbers (numsOf l) }
def sequence (s : St) (c : UInt8) : St × List es.Act :=
  if 128 ≤ c.toNat then ({}, []) else if c.toNat < 64 then ({ s with got := s.got ++ [c] }, []) else if wholeOk s.got then ({}, [whole s.got c]) else ({}, [])
def strSign (c : UInt8) : Bool := decide (c.toNat = 93 ∨ c.toNat = 80 ∨ c.toNat = 88 ∨ c.toNat = 94 ∨ c.toNat = 95)
def behind (s : St) (c : UInt8) : St × List es.Act :=
  if c.toNat < 48 then ({ s with got := s.got ++ [c] }, [])
  else if s.got.length = 0 ∧ c.toNat = 91 then ({ inn := 2 }, [])
  else if s.got.length = 0 ∧ strSign c = true then ({ inn := 3, sign := c.toNat }, [])
  else if c.toNat < 127 ∧ s.got.length ≤ 2 then ({}, [{ kind := 3, inter := s.got, final := c.toNat }])
  else ({}, [])
/-- a byte outside of strings -/
def byte0 (s : St) (c : UInt8) : St × List es.Act :=
  if c.toNat = 24 ∨ c.toNat = 26 then ({}, rest s)
  else if c.toNat = 27 then ({ inn := 1 }, rest s)
  else if c.toNat < 32 then ({ s with wait := [] }, rest s ++ [es.exec c])
  else if c.toNat = 127 then ({ s with wait := [] }, rest s)
  else if s.inn = 1 then behind s c
  else if s.inn = 2 then sequence s c
  else ({ wait := (gl.read (s.wait ++ [c])).2 }, (gl.read (s.wait ++ [c])).1.map es.print)
def said (s : St) : es.Act := { kind := 5, final := s.sign, text := s.got }
def text (s : St) (c : UInt8) : St × List es.Act :=
  if s.inn = 4 then (if c.toNat = 92 then ({}, [said s]) else byte0 { inn := 1 } c)
  else if c.toNat = 7 then ({}, [said s])
  else if c.toNat = 27 then ({ s with inn := 4 }, [])
  else if c.toNat = 24 ∨ c.toNat = 26 then ({}, [])
  else if 32 ≤ c.toNat ∧ s.got.length < 256 then ({ s with got := s.got ++ [c] }, [])
  else (s, [])
def byte (s : St) (c : UInt8) : St × List es.Act := if s.inn = 3 ∨ s.inn = 4 then text s c else byte0 s c
def feed : St → List UInt8 → St × List es.Act
  | s, [] => (s, [])
  | s, b :: l => ((feed (byte s b).1 l).1, (byte s b).2 ++ (feed (byte s b).1 l).2)
def idle (s : St) : Bool := decide (s.inn = 0 ∧ s.wait.length = 0)

/-- a byte of a control sequence, as the program takes it -/
def step (e : es.St) (b : UInt8) : es.St := if b.toNat < 48 then es.addInter e b else es.addParam e b
theorem nums_pos (l : List UInt8) : ∀ (o : List Int), 0 < o.length → 0 < (l.foldl numStep o).length := by
  induction l with
  | nil => intro o h; exact h
  | cons b l ih =>
    intro o h
    refine ih _ ?_
    unfold numStep
    split <;> simp <;> omega
/-- how the program's numbers stand to the document's -/
structure Alike (ps u : List Int) : Prop where
  len : ps.length = min u.length 17
  pre : ps.take 16 = u.take 16
  all : u.length ≤ 17 → ps = u
theorem Alike.next {ps u : List Int} (h : Alike ps u) (e : es.St) (he : e.params = ps) : Alike (es.nextNumber e).params (u ++ [-1]) := by
  subst he
  have h1 := h.len
  unfold es.nextNumber
  split
  · rename_i hl
    have hu : u.length ≤ 16 := by omega
    have := h.all (by omega)
    refine ⟨by simp; omega, ?_, fun _ => by simp [this]⟩
    simp [this]
  · rename_i hl
    have hu : 17 ≤ u.length := by omega
    refine ⟨by simp; omega, ?_, fun hx => by simp at hx; omega⟩
    show (e.params.set 16 (-1)).take 16 = _
    rw [List.take_set_of_le (by omega), h.pre, List.take_append_of_le_length (by omega)]
theorem Alike.last {ps u : List Int} (h : Alike ps u) (hp : 0 < u.length) (e : es.St) (he : e.params = ps) (b : UInt8) : Alike (es.setLast e b).params (u.set (u.length - 1) (es.digit (u.getD (u.length - 1) 0) b)) := by
  subst he
  have h1 := h.len
  unfold es.setLast
  by_cases hu : u.length ≤ 17
  · have e1 := h.all hu
    rw [e1]
    exact ⟨by simp; omega, rfl, fun _ => rfl⟩
  · refine ⟨by simp; omega, ?_, fun hx => by simp at hx; omega⟩
    show (e.params.set (e.params.length - 1) _).take 16 = _
    rw [List.take_set_of_le (by omega), List.take_set_of_le (by omega), h.pre]
/-- a number's byte, as the program takes it -/
theorem addNumber_alike (e : es.St) (b : UInt8) (u : List Int) (h : Alike e.params u) (hu : 0 < u.length) : Alike (es.addNumber e b).params (numStep u b) := by
  have hl := h.len
  unfold es.addNumber numStep
  rw [if_neg (by omega : ¬ e.params.length = 0)]
  split
  · exact h.next e rfl
  · exact h.last hu e rfl b
theorem addNumber_first (e : es.St) (b : UInt8) (h : e.params = []) : Alike (es.addNumber e b).params (numStep [-1] b) := by
  have h0 : (es.nextNumber e).params = [-1] := by unfold es.nextNumber; rw [if_pos (by rw [h]; simp)]; simp [h]
  have h1 : Alike (es.nextNumber e).params [-1] := by rw [h0]; exact ⟨rfl, rfl, fun _ => rfl⟩
  unfold es.addNumber numStep
  rw [if_pos (by rw [h]; rfl : e.params.length = 0)]
  split
  · exact h1.next _ rfl
  · exact h1.last (by simp) _ rfl b
theorem addNumber_same (e : es.St) (b : UInt8) : (es.addNumber e b).state = e.state ∧ (es.addNumber e b).wait = e.wait ∧ (es.addNumber e b).spoiled = e.spoiled ∧ (es.addNumber e b).priv = e.priv ∧ (es.addNumber e b).final = e.final ∧ (es.addNumber e b).inter = e.inter ∧ (es.addNumber e b).text = e.text := by
  have hn : ∀ e : es.St, (es.nextNumber e).state = e.state ∧ (es.nextNumber e).wait = e.wait ∧ (es.nextNumber e).spoiled = e.spoiled ∧ (es.nextNumber e).priv = e.priv ∧ (es.nextNumber e).final = e.final ∧ (es.nextNumber e).inter = e.inter ∧ (es.nextNumber e).text = e.text := by
    intro e
    unfold es.nextNumber
    split <;> exact ⟨rfl, rfl, rfl, rfl, rfl, rfl, rfl⟩
  have h2 := hn e
  unfold es.addNumber es.setLast
  split
  · split
    · have h3 := hn (es.nextNumber e)
      exact ⟨h3.1.trans h2.1, h3.2.1.trans h2.2.1, h3.2.2.1.trans h2.2.2.1, h3.2.2.2.1.trans h2.2.2.2.1, h3.2.2.2.2.1.trans h2.2.2.2.2.1, h3.2.2.2.2.2.1.trans h2.2.2.2.2.2.1, h3.2.2.2.2.2.2.trans h2.2.2.2.2.2.2⟩
    · exact h2
  · split
    · exact h2
    · exact ⟨rfl, rfl, rfl, rfl, rfl, rfl, rfl⟩
end Go.Proofs.YtgkodjkhhmcnnaaDoor.rf
namespace Go.Proofs.YtgkodjkhhmcnnaaDoor.rf
open Go.Proofs.YtgkodjkhhmcnnaaDoor

theorem step_spoiled (e : es.St) (b : UInt8) (h : e.spoiled = true) : (step e b).spoiled = true := by
  unfold step
  split
  · unfold es.addInter; split
    · rfl
    · exact h
  · unfold es.addParam
    split
    · rfl
    split
    · exact (addNumber_same e b).2.2.1.trans h
    split
    · exact h
    · rfl
theorem fold_spoiled : ∀ (l : List UInt8) (e : es.St), e.spoiled = true → (l.foldl step e).spoiled = true
  | [], _, h => h
  | b :: l, e, h => fold_spoiled l _ (step_spoiled e b h)
/-- what a byte of a control sequence leaves as it is -/
structure Fix (e e' : es.St) : Prop where
  st : e'.state = e.state
  wt : e'.wait = e.wait
  fn : e'.final = e.final
  tx : e'.text = e.text
theorem Fix.refl (e : es.St) : Fix e e := ⟨rfl, rfl, rfl, rfl⟩
theorem Fix.trans {a b c : es.St} (h : Fix a b) (k : Fix b c) : Fix a c := ⟨k.st.trans h.st, k.wt.trans h.wt, k.fn.trans h.fn, k.tx.trans h.tx⟩
theorem step_fix (e : es.St) (b : UInt8) : Fix e (step e b) := by
  unfold step
  split
  · unfold es.addInter; split <;> exact ⟨rfl, rfl, rfl, rfl⟩
  · unfold es.addParam
    split
    · exact ⟨rfl, rfl, rfl, rfl⟩
    split
    · have := addNumber_same e b
      exact ⟨this.1, this.2.1, this.2.2.2.2.1, this.2.2.2.2.2.2⟩
    split <;> exact ⟨rfl, rfl, rfl, rfl⟩
theorem fold_fix : ∀ (l : List UInt8) (e : es.St), Fix e (l.foldl step e)
  | [], e => Fix.refl e
  | b :: l, e => (step_fix e b).trans (fold_fix l _)
/-- numbers' bytes -/
theorem isNum_step (e : es.St) (b : UInt8) (hi : e.inter = []) (hb : isNum b = true) : step e b = es.addNumber e b := by
  simp only [isNum, decide_eq_true_eq] at hb
  unfold step
  rw [if_neg (by omega)]
  unfold es.addParam
  rw [if_neg (by rw [hi]; simp; omega), if_pos (by omega)]
theorem fold_nums : ∀ (l : List UInt8) (e : es.St) (u : List Int), e.inter = [] → (∀ b ∈ l, isNum b = true) → Alike e.params u → 0 < u.length →
    Alike (l.foldl step e).params (l.foldl numStep u) ∧ (l.foldl step e).inter = [] ∧ (l.foldl step e).priv = e.priv ∧ (l.foldl step e).spoiled = e.spoiled
  | [], e, u, hi, _, ha, _ => ⟨ha, hi, rfl, rfl⟩
  | b :: l, e, u, hi, hl, ha, hu => by
    have hs := isNum_step e b hi (hl b (by simp))
    have h6 := addNumber_same e b
    have hu' : 0 < (numStep u b).length := by unfold numStep; split <;> simp <;> omega
    have ih := fold_nums l (es.addNumber e b) (numStep u b) (h6.2.2.2.2.2.1.trans hi) (fun c hc => hl c (by simp [hc])) (addNumber_alike e b u ha hu) hu'
    simp only [List.foldl_cons, hs]
    exact ⟨ih.1, ih.2.1, ih.2.2.1.trans h6.2.2.2.1, ih.2.2.2.trans h6.2.2.1⟩
theorem fold_nums0 (l : List UInt8) (e : es.St) (hi : e.inter = []) (hp : e.params = []) (hl : ∀ b ∈ l, isNum b = true) :
    (l.foldl step e).params.take 16 = numbers l ∧ (l.foldl step e).inter = [] ∧ (l.foldl step e).priv = e.priv ∧ (l.foldl step e).spoiled = e.spoiled ∧ (l ≠ [] → (l.foldl step e).params ≠ []) := by
  cases l with
  | nil => exact ⟨by simp [hp, numbers], hi, rfl, rfl, fun h => absurd rfl h⟩
  | cons b l =>
    have hs := isNum_step e b hi (hl b (by simp))
    have h6 := addNumber_same e b
    have ha := addNumber_first e b hp
    have hu' : 0 < (numStep [-1] b).length := by unfold numStep; split <;> simp
    have ih := fold_nums l (es.addNumber e b) (numStep [-1] b) (h6.2.2.2.2.2.1.trans hi) (fun c hc => hl c (by simp [hc])) ha hu'
    simp only [List.foldl_cons, hs]
    refine ⟨?_, ih.2.1, ih.2.2.1.trans h6.2.2.2.1, ih.2.2.2.trans h6.2.2.1, fun _ h => ?_⟩
    · unfold numbers
      rw [if_neg (by simp)]
      exact ih.1.pre
    · have h1 := ih.1.len
      have h2 := nums_pos l _ hu'
      rw [h] at h1
      simp at h1
      omega
/-- bytes between -/
theorem fold_low : ∀ (l : List UInt8) (e : es.St), (∀ b ∈ l, isLow b = true) → e.inter.length + l.length ≤ 2 → l.foldl step e = { e with inter := e.inter ++ l }
  | [], e, _, _ => by simp
  | b :: l, e, hl, hn => by
    have hb := hl b (by simp)
    simp only [isLow, decide_eq_true_eq] at hb
    simp only [List.length_cons] at hn
    have hs : step e b = { e with inter := e.inter ++ [b] } := by
      unfold step
      rw [if_pos hb]
      unfold es.addInter
      rw [if_neg (by omega)]
    rw [List.foldl_cons, hs, fold_low l _ (fun c hc => hl c (by simp [hc])) (by simp; omega)]
    simp
theorem fold_low3 : ∀ (l : List UInt8) (e : es.St), (∀ b ∈ l, isLow b = true) → e.inter.length ≤ 2 → 2 < e.inter.length + l.length → (l.foldl step e).spoiled = true
  | [], e, _, h1, h2 => by simp at h2; omega
  | b :: l, e, hl, h1, h2 => by
    have hb := hl b (by simp)
    simp only [isLow, decide_eq_true_eq] at hb
    simp only [List.length_cons] at h2
    rw [List.foldl_cons]
    by_cases h : e.inter.length = 2
    · refine fold_spoiled l _ ?_
      unfold step
      rw [if_pos hb]
      unfold es.addInter
      rw [if_pos h]
    · have hs : step e b = { e with inter := e.inter ++ [b] } := by
        unfold step
        rw [if_pos hb]
        unfold es.addInter
        rw [if_neg h]
      rw [hs]
      exact fold_low3 l _ (fun c hc => hl c (by simp [hc])) (by simp; omega) (by simp; omega)
theorem takeWhile_all (p : UInt8 → Bool) : ∀ l : List UInt8, ∀ b ∈ l.takeWhile p, p b = true
  | [], b, h => by simp at h
  | c :: l, b, h => by
    rw [List.takeWhile_cons] at h
    split at h
    · rename_i hc
      rcases List.mem_cons.1 h with rfl | h
      · exact hc
      · exact takeWhile_all p l b h
    · simp at h
theorem dropWhile_head (p : UInt8 → Bool) : ∀ (l : List UInt8) (b : UInt8) (r : List UInt8), l.dropWhile p = b :: r → p b = false
  | [], b, r, h => by simp at h
  | c :: l, b, r, h => by
    rw [List.dropWhile_cons] at h
    split at h
    · exact dropWhile_head p l b r h
    · rename_i hc
      cases h
      simpa using hc
/-- a control sequence's bytes: what the program has made of them -/
theorem whole_eq (g : List UInt8) (hg : ∀ b ∈ g, 32 ≤ b.toNat ∧ b.toNat < 64) :
    (g.foldl step { state := 2 }).spoiled = !(wholeOk g) ∧ (wholeOk g = true → (g.foldl step { state := 2 }).priv = privOf g ∧ (g.foldl step { state := 2 }).inter = interOf g ∧ (g.foldl step { state := 2 }).params.take 16 = numbers (numsOf g)) := by
  -- the sign ahead
  have hbody : (g.foldl step { state := 2 }) = (body g).foldl step { state := 2, priv := privOf g } := by
    unfold body privOf
    cases g with
    | nil => simp [opens]
    | cons b l =>
      by_cases ho : opens (b :: l) = true
      · rw [if_pos ho, if_pos ho]
        simp only [opens, decide_eq_true_eq] at ho
        have : step { state := 2 } b = { state := 2, priv := b.toNat } := by
          unfold step
          rw [if_neg (by omega)]
          unfold es.addParam
          rw [if_neg (by simp; omega), if_neg (by omega), if_pos (by simp)]
        simp [this]
      · rw [if_neg ho, if_neg ho]
  have hsplit : body g = numsOf g ++ (interOf g ++ rest2 g) := by
    unfold interOf rest2 rest1 numsOf
    rw [List.takeWhile_append_dropWhile, List.takeWhile_append_dropWhile]
  have hN : ∀ b ∈ numsOf g, isNum b = true := takeWhile_all _ _
  have hI : ∀ b ∈ interOf g, isLow b = true := takeWhile_all _ _
  obtain ⟨n1, n2, n3, n4, n5⟩ := fold_nums0 (numsOf g) { state := 2, priv := privOf g } rfl rfl hN
  rw [hbody, hsplit, List.foldl_append, List.foldl_append]
  generalize hE : (numsOf g).foldl step { state := 2, priv := privOf g } = E at *
  have hE1 : E.spoiled = false := n4
  have hE2 : E.priv = privOf g := n3
  by_cases hl : (interOf g).length ≤ 2
  · have hlow := fold_low (interOf g) E hI (by rw [n2]; simpa using hl)
    rw [n2, List.nil_append] at hlow
    rw [hlow]
    by_cases hr : rest2 g = []
    · have hw : wholeOk g = true := by simp [wholeOk, hr, hl]
      rw [hr, hw]
      exact ⟨hE1, fun _ => ⟨hE2, rfl, n1⟩⟩
    · have hw : wholeOk g = false := by simp [wholeOk, hr]
      rw [hw]
      refine ⟨?_, fun h => by cases h⟩
      obtain ⟨b0, r, hb0⟩ := List.exists_cons_of_ne_nil hr
      rw [hb0, List.foldl_cons]
      have hlow0 : isLow b0 = false := dropWhile_head _ _ b0 r (by unfold rest2 at hb0; exact hb0)
      simp only [isLow, decide_eq_false_iff_not] at hlow0
      have hmem : b0 ∈ g := by
        have h1 : b0 ∈ body g := by rw [hsplit, hb0]; simp
        unfold body at h1
        split at h1
        · exact List.mem_of_mem_drop h1
        · exact h1
      have hb64 := hg b0 hmem
      refine fold_spoiled r _ ?_
      unfold step
      rw [if_neg hlow0]
      unfold es.addParam
      by_cases hi0 : interOf g = []
      · by_cases h58 : b0.toNat = 58
        · rw [if_pos (.inr h58)]
        · have hr1 : rest1 g = b0 :: r := by
            have : rest1 g = interOf g ++ rest2 g := by unfold interOf rest2; rw [List.takeWhile_append_dropWhile]
            rw [this, hi0, hb0]
            rfl
          have hnn : isNum b0 = false := dropWhile_head _ _ b0 r (by unfold rest1 at hr1; exact hr1)
          simp only [isNum, decide_eq_false_iff_not] at hnn
          rw [if_neg (by simp [hi0, h58]), if_neg (by omega), if_neg ?_]
          rintro ⟨hp, hpr, _⟩
          by_cases hn0 : numsOf g = []
          · have hbg : body g = b0 :: r := by rw [hsplit, hn0, hi0, hb0]; rfl
            have hpr' : privOf g = 0 := hE2.symm.trans hpr
            by_cases ho : opens g = true
            · cases g with
              | nil => simp [opens] at ho
              | cons x l =>
                unfold privOf at hpr'
                rw [if_pos ho] at hpr'
                simp only [opens, decide_eq_true_eq] at ho
                simp at hpr'
                omega
            · unfold body at hbg
              rw [if_neg ho] at hbg
              rw [hbg] at ho
              simp only [opens, decide_eq_true_eq] at ho
              omega
          · exact n5 hn0 (List.length_eq_zero_iff.1 hp)
      · rw [if_pos (.inl hi0)]
  · have hw : wholeOk g = false := by simp [wholeOk, hl]
    rw [hw]
    refine ⟨fold_spoiled _ _ (fold_low3 (interOf g) E hI (by rw [n2]; simp) (by rw [n2]; simp; omega)), fun h => by cases h⟩
/-- behind an escape, as the program has it -/
def mid (g : List UInt8) : es.St := { state := 1, inter := g.take 2, spoiled := decide (2 < g.length) }
theorem mid_add (g : List UInt8) (b : UInt8) : es.addInter (mid g) b = mid (g ++ [b]) := by
  have h : (mid g).inter.length = min 2 g.length := by simp [mid]
  unfold es.addInter
  rw [h]
  by_cases h2 : g.length < 2
  · rw [if_neg (by omega)]
    simp only [mid, List.length_append, List.length_cons, List.length_nil]
    rw [List.take_of_length_le (by omega : g.length ≤ 2), List.take_of_length_le (by simp; omega : (g ++ [b]).length ≤ 2)]
    congr 1
    simp; omega
  · rw [if_pos (by omega)]
    simp only [mid, List.length_append, List.length_cons, List.length_nil]
    rw [List.take_append_of_le_length (by omega)]
    congr 1
    simp; omega
/-- the two parsers stand alike -/
inductive R : es.St → St → Prop
  | ground (q : List UInt8) : R { wait := q } { wait := q }
  | behind (g : List UInt8) : R (mid g) { inn := 1, got := g }
  | control (g : List UInt8) (h : ∀ b ∈ g, 32 ≤ b.toNat ∧ b.toNat < 64) : R (g.foldl step { state := 2 }) { inn := 2, got := g }
  | inside (g : List UInt8) (f : Nat) : R { state := 3, final := f, text := g } { inn := 3, got := g, sign := f }
  | closing (g : List UInt8) (f : Nat) : R { state := 4, final := f, text := g } { inn := 4, got := g, sign := f }
theorem R.zero : R {} {} := R.ground []
/-- what a byte does with both -/
def Alike2 (x : es.Said) (y : St × List es.Act) : Prop := x.2 = y.2 ∧ R x.1 y.1
/-- a control byte outside of strings -/
theorem command_like (e : es.St) (s : St) (c : UInt8) (h : R e s) (hw : s.wait = []) (hc : es.isText c = false) (hin : s.inn ≤ 2) : Alike2 (es.command e c) (byte0 s c) := by
  have hr : rest s = [] := by simp [rest, hw]
  have hs : ({ s with wait := [] } : St) = s := by cases s; simp_all
  simp only [es.isText, decide_eq_false_iff_not] at hc
  unfold es.command byte0
  rw [hr]
  by_cases h1 : c.toNat = 24 ∨ c.toNat = 26
  · rw [if_pos h1, if_pos h1]; exact ⟨rfl, R.zero⟩
  rw [if_neg h1, if_neg h1]
  by_cases h2 : c.toNat = 27
  · rw [if_pos h2, if_pos h2]; exact ⟨rfl, R.behind []⟩
  rw [if_neg h2, if_neg h2]
  by_cases h3 : c.toNat = 127
  · rw [if_pos h3, if_neg (by omega), if_pos h3]; exact ⟨rfl, by rw [hs]; exact h⟩
  · rw [if_neg h3, if_pos (by omega)]; exact ⟨rfl, by rw [hs]; exact h⟩
theorem behind_like (g : List UInt8) (c : UInt8) : Alike2 (es.inEscape (mid g) c) (byte0 { inn := 1, got := g } c) := by
  unfold es.inEscape
  cases ht : es.isText c with
  | false =>
    rw [if_pos rfl]
    exact command_like _ _ c (R.behind g) rfl ht (by simp)
  | true =>
    rw [if_neg (by simp)]
    simp only [es.isText, decide_eq_true_eq] at ht
    have hb : byte0 { inn := 1, got := g } c = behind { inn := 1, got := g } c := by
      unfold byte0
      rw [if_neg (by omega), if_neg (by omega), if_neg (by omega), if_neg (by omega), if_pos rfl]
    rw [hb]
    unfold behind
    have hg : (mid g).inter = [] ↔ g.length = 0 := by
      cases g with
      | nil => simp [mid]
      | cons x l => simp [mid]
    by_cases h48 : c.toNat < 48
    · rw [if_pos h48, if_pos h48, mid_add]; exact ⟨rfl, R.behind _⟩
    rw [if_neg h48, if_neg h48]
    by_cases h128 : 128 ≤ c.toNat
    · rw [if_pos h128, if_neg (by omega), if_neg (by simp [strSign]; omega), if_neg (by omega)]; exact ⟨rfl, R.zero⟩
    rw [if_neg h128]
    by_cases h91 : g.length = 0 ∧ c.toNat = 91
    · have e : g = [] := List.length_eq_zero_iff.1 h91.1
      subst e
      rw [if_pos ⟨rfl, h91.2⟩, if_pos h91]
      exact ⟨rfl, R.control [] (fun b hb => by cases hb)⟩
    rw [if_neg (fun h => h91 ⟨hg.1 h.1, h.2⟩), if_neg h91]
    by_cases hs : g.length = 0 ∧ strSign c = true
    · have e : g = [] := List.length_eq_zero_iff.1 hs.1
      subst e
      rw [if_pos ⟨rfl, hs.2⟩, if_pos hs]
      exact ⟨rfl, R.inside [] _⟩
    rw [if_neg (fun h => hs ⟨hg.1 h.1, h.2⟩), if_neg hs]
    unfold es.say es.esc
    by_cases h2 : g.length ≤ 2
    · rw [if_neg (show ¬ (mid g).spoiled = true by simp [mid]; omega), if_pos ⟨by omega, h2⟩]
      refine ⟨?_, R.zero⟩
      simp only [mid]
      rw [List.take_of_length_le h2]
    · rw [if_pos (show (mid g).spoiled = true by simp [mid]; omega), if_neg (fun h => h2 h.2)]
      exact ⟨rfl, R.zero⟩
theorem byte_like (e : es.St) (s : St) (c : UInt8) (h : R e s) : Alike2 (es.byte e c) (byte s c) := by
  cases h with
  | ground q =>
    have h1 : byte { wait := q } c = byte0 { wait := q } c := by unfold byte; rw [if_neg (by simp)]
    have h2 : es.byte { wait := q } c = es.inGround { wait := q } c := by unfold es.byte; rw [if_neg (by simp), if_neg (by simp), if_neg (by simp), if_neg (by simp)]
    rw [h1, h2]
    unfold es.inGround
    cases ht : es.isText c with
    | true =>
      rw [if_pos rfl]
      simp only [es.isText, decide_eq_true_eq] at ht
      unfold byte0
      rw [if_neg (by omega), if_neg (by omega), if_neg (by omega), if_neg (by omega), if_neg (by simp), if_neg (by simp)]
      exact ⟨rfl, R.ground _⟩
    | false =>
      rw [if_neg (by simp)]
      simp only [es.isText, decide_eq_false_iff_not] at ht
      unfold es.command byte0
      by_cases g1 : c.toNat = 24 ∨ c.toNat = 26
      · rw [if_pos g1, if_pos g1]; exact ⟨by simp [rest], R.zero⟩
      rw [if_neg g1, if_neg g1]
      by_cases g2 : c.toNat = 27
      · rw [if_pos g2, if_pos g2]; exact ⟨by simp [rest], R.behind []⟩
      rw [if_neg g2, if_neg g2]
      by_cases g3 : c.toNat = 127
      · rw [if_pos g3, if_neg (by omega), if_pos g3]; exact ⟨by simp [rest], R.ground []⟩
      · rw [if_neg g3, if_pos (by omega)]; exact ⟨by simp [rest], R.ground []⟩
  | behind g =>
    have h1 : byte { inn := 1, got := g } c = byte0 { inn := 1, got := g } c := by unfold byte; rw [if_neg (by simp)]
    have h2 : es.byte (mid g) c = es.inEscape (mid g) c := by unfold es.byte; rw [if_pos (show (mid g).state = 1 from rfl)]
    rw [h1, h2]
    exact behind_like g c
  | control g hg =>
    have hfix := fold_fix g { state := 2 }
    have h1 : byte { inn := 2, got := g } c = byte0 { inn := 2, got := g } c := by unfold byte; rw [if_neg (by simp)]
    have h2 : es.byte (g.foldl step { state := 2 }) c = es.inControl (g.foldl step { state := 2 }) c := by
      unfold es.byte
      rw [if_neg (by rw [hfix.st]; simp), if_pos hfix.st]
    rw [h1, h2]
    unfold es.inControl
    cases ht : es.isText c with
    | false =>
      rw [if_pos rfl]
      exact command_like _ _ c (R.control g hg) rfl ht (by simp)
    | true =>
      rw [if_neg (by simp)]
      simp only [es.isText, decide_eq_true_eq] at ht
      have hb : byte0 { inn := 2, got := g } c = sequence { inn := 2, got := g } c := by
        unfold byte0
        rw [if_neg (by omega), if_neg (by omega), if_neg (by omega), if_neg (by omega), if_neg (by simp), if_pos rfl]
      rw [hb]
      unfold sequence
      have hgc : c.toNat < 64 → ∀ b ∈ g ++ [c], 32 ≤ b.toNat ∧ b.toNat < 64 := fun h b hb' => by
        rcases List.mem_append.1 hb' with h' | h'
        · exact hg b h'
        · obtain rfl : b = c := by simpa using h'
          exact ⟨ht.1, h⟩
      have hfold : (g ++ [c]).foldl step { state := 2 } = step (g.foldl step { state := 2 }) c := by simp
      by_cases h128 : 128 ≤ c.toNat
      · rw [if_neg (show ¬ c.toNat < 48 by omega), if_neg (show ¬ c.toNat < 64 by omega), if_neg (show ¬ c.toNat < 128 by omega), if_pos h128]; exact ⟨rfl, R.zero⟩
      rw [if_neg h128]
      by_cases h64 : c.toNat < 64
      · have hr := R.control (g ++ [c]) (hgc h64)
        rw [hfold] at hr
        by_cases h48 : c.toNat < 48
        · rw [if_pos h48, if_pos h64]
          have : step (g.foldl step { state := 2 }) c = es.addInter (g.foldl step { state := 2 }) c := by unfold step; rw [if_pos h48]
          rw [this] at hr
          exact ⟨rfl, hr⟩
        · rw [if_neg h48, if_pos h64, if_pos h64]
          have : step (g.foldl step { state := 2 }) c = es.addParam (g.foldl step { state := 2 }) c := by unfold step; rw [if_neg h48]
          rw [this] at hr
          exact ⟨rfl, hr⟩
      · rw [if_neg (show ¬ c.toNat < 48 by omega), if_neg h64, if_neg h64, if_pos (show c.toNat < 128 by omega)]
        obtain ⟨w1, w2⟩ := whole_eq g hg
        unfold es.say
        cases hw : wholeOk g with
        | false =>
          rw [hw] at w1
          rw [w1]
          exact ⟨rfl, R.zero⟩
        | true =>
          rw [hw] at w1
          obtain ⟨p1, p2, p3⟩ := w2 hw
          rw [w1]
          refine ⟨?_, R.zero⟩
          show [es.csi _ c] = [whole g c]
          unfold es.csi whole
          rw [p1, p2, p3]
  | inside g f =>
    have h1 : byte { inn := 3, got := g, sign := f } c = text { inn := 3, got := g, sign := f } c := by unfold byte; rw [if_pos (by simp)]
    have h2 : es.byte { state := 3, final := f, text := g } c = es.inString { state := 3, final := f, text := g } c := by unfold es.byte; rw [if_neg (by simp), if_neg (by simp), if_pos rfl]
    rw [h1, h2]
    unfold es.inString text
    rw [if_neg (show ¬ ({ inn := 3, got := g, sign := f } : St).inn = 4 by simp)]
    by_cases g1 : c.toNat = 7
    · rw [if_pos g1, if_pos g1]; exact ⟨rfl, R.zero⟩
    rw [if_neg g1, if_neg g1]
    by_cases g2 : c.toNat = 27
    · rw [if_pos g2, if_pos g2]; exact ⟨rfl, R.closing g f⟩
    rw [if_neg g2, if_neg g2]
    by_cases g3 : c.toNat = 24 ∨ c.toNat = 26
    · rw [if_pos g3, if_pos g3]; exact ⟨rfl, R.zero⟩
    rw [if_neg g3, if_neg g3]
    by_cases g4 : 32 ≤ c.toNat
    · rw [if_pos g4]
      unfold es.addText
      by_cases g5 : g.length < 256
      · rw [if_pos g5, if_pos ⟨g4, g5⟩]; exact ⟨rfl, R.inside _ f⟩
      · rw [if_neg g5, if_neg (fun h => g5 h.2)]; exact ⟨rfl, R.inside g f⟩
    · rw [if_neg g4, if_neg (fun h => g4 h.1)]; exact ⟨rfl, R.inside g f⟩
  | closing g f =>
    have h1 : byte { inn := 4, got := g, sign := f } c = text { inn := 4, got := g, sign := f } c := by unfold byte; rw [if_pos (by simp)]
    have h2 : es.byte { state := 4, final := f, text := g } c = es.inClosing { state := 4, final := f, text := g } c := by unfold es.byte; rw [if_neg (by simp), if_neg (by simp), if_neg (by simp), if_pos rfl]
    rw [h1, h2]
    unfold es.inClosing text
    rw [if_pos (show ({ inn := 4, got := g, sign := f } : St).inn = 4 from rfl)]
    by_cases g1 : c.toNat = 92
    · rw [if_pos g1, if_pos g1]; exact ⟨rfl, R.zero⟩
    · rw [if_neg g1, if_neg g1]
      exact behind_like [] c
theorem feed_like : ∀ (l : List UInt8) (e : es.St) (s : St), R e s → Alike2 (es.feed e l) (feed s l)
  | [], _, _, h => ⟨rfl, h⟩
  | c :: l, e, s, h => by
    have h1 := byte_like e s c h
    have h2 := feed_like l _ _ h1.2
    exact ⟨by simp only [es.feed, feed]; rw [h1.1, h2.1], h2.2⟩
theorem idle_like (e : es.St) (s : St) (h : R e s) : es.idle e = idle s := by
  cases h with
  | ground q => rfl
  | behind g => rfl
  | control g hg =>
    have hfix := fold_fix g { state := 2 }
    unfold es.idle idle
    rw [hfix.st]
    rfl
  | inside g f => rfl
  | closing g f => rfl
end Go.Proofs.YtgkodjkhhmcnnaaDoor.rf
