/- A text's tokens, on lists; no Go. -/
import Derived.Lib.ParseIntB
import Derived.Shelf.Strings.Prefix
import Derived.Shelf.Strings.Search3
namespace Go.Proofs.YthmiaamjbokljaaGreatDoor.tk
open Go

def isBlank (c : UInt8) : Bool := decide (c.toNat = 9 ∨ c.toNat = 13 ∨ c.toNat = 32)
def isBreak (c : UInt8) : Bool := decide (c.toNat = 10 ∨ c.toNat = 59)
def isSign (c : UInt8) : Bool := decide (c.toNat = 123 ∨ c.toNat = 125 ∨ c.toNat = 61)
def isDigit (c : UInt8) : Bool := decide (48 ≤ c.toNat ∧ c.toNat ≤ 57)
def isLetter (c : UInt8) : Bool := decide (65 ≤ c.toNat ∧ c.toNat ≤ 90 ∨ 97 ≤ c.toNat ∧ c.toNat ≤ 122)
def isWord (c : UInt8) : Bool := isLetter c || isDigit c || decide (c.toNat = 45 ∨ c.toNat = 95 ∨ c.toNat = 46 ∨ c.toNat = 58)
def isControl (c : UInt8) : Bool := decide (c.toNat < 32 ∨ c.toNat = 127)
def inLine (c : UInt8) : Bool := decide (c.toNat ≠ 10)
def escaped (c : UInt8) : Nat := if c.toNat = 34 ∨ c.toNat = 92 then c.toNat else if c.toNat = 110 then 10 else if c.toNat = 116 then 9 else 0
/-- how many bytes of a kind a text begins with -/
def span (p : UInt8 → Bool) (l : List UInt8) : Nat := (l.takeWhile p).length
theorem span_le (p : UInt8 → Bool) (l : List UInt8) : span p l ≤ l.length := (List.takeWhile_prefix p).length_le
/-- where the quote ends: from a place on -/
def qend : Nat → List UInt8 → Option Nat
  | _, [] => none
  | at_, [c] => if c.toNat = 34 then some at_ else none
  | at_, c :: d :: r => if c.toNat = 92 then qend (at_ + 2) r else if c.toNat = 34 then some at_ else qend (at_ + 1) (d :: r)
def quoteEnd (l : List UInt8) : Option Nat := qend 1 (l.drop 1)
/-- what bytes between quotes say; a number of an error and its place -/
def unq : Nat → List UInt8 → List UInt8 → List UInt8 × Nat × Nat
  | _, [], acc => (acc, 0, 0)
  | at_, [c], acc => if isControl c then ([], 70, at_) else if c.toNat = 92 then ([], 72, at_) else (acc ++ [c], 0, 0)
  | at_, c :: d :: r, acc =>
    if isControl c then ([], 70, at_)
    else if c.toNat = 92 then (if escaped d = 0 then ([], 72, at_) else unq (at_ + 2) r (acc ++ [UInt8.ofNat (escaped d)]))
    else unq (at_ + 1) (d :: r) (acc ++ [c])
def intLen (l : List UInt8) : Nat :=
  let d := Lib.trimPrefix l [45]
  if span isDigit d = 0 then 0 else l.length - d.length + span isDigit d
structure Tok where
  kind : Nat
  text : List UInt8
  int : Int := 0
  at_ : Nat := 0
structure St where
  at_ : Nat := 0
  toks : List Tok := []
  code : Nat := 0
  place : Int := 0
def fail (r : St) (code : Nat) (place : Int) : St := { r with code := code, place := place }
def add (r : St) (t : Tok) (n : Nat) : St := { r with toks := r.toks ++ [{ t with at_ := r.at_ }], at_ := r.at_ + n }
def tell (r : St) (kind : Nat) (text : List UInt8) : St := add r { kind := kind, text := text } text.length
def remark (r : St) (rest : List UInt8) : St :=
  if Lib.index (rest.drop 2) [42, 47] < 0 then fail r 71 r.at_ else { r with at_ := r.at_ + (2 + (Lib.index (rest.drop 2) [42, 47]).toNat + 2) }
def quote (r : St) (rest : List UInt8) : St :=
  match quoteEnd rest with
  | none => fail r 71 r.at_
  | some e =>
    let u := unq 0 ((rest.take e).drop 1) []
    if u.2.1 = 0 then add r { kind := 2, text := u.1 } (e + 1) else fail r u.2.1 (r.at_ + 1 + u.2.2)
def integer (r : St) (rest : List UInt8) : St :=
  let n := intLen rest
  match Lib.parseIntB 64 (rest.take n) with
  | .ok v => if span isWord (rest.drop n) = 0 then add r { kind := 3, text := rest.take n, int := v } n else fail r 73 r.at_
  | _ => fail r 73 r.at_
def next (s : List UInt8) (r : St) : St :=
  match s.drop r.at_ with
  | [] => r
  | c :: l =>
    if isBlank c then { r with at_ := r.at_ + span isBlank (c :: l) }
    else if Lib.hasPrefix (c :: l) [47, 47] then { r with at_ := r.at_ + span inLine (c :: l) }
    else if Lib.hasPrefix (c :: l) [47, 42] then remark r (c :: l)
    else if isBreak c then tell r 5 [c]
    else if isSign c then tell r 4 [c]
    else if c.toNat = 34 then quote r (c :: l)
    else if 0 < intLen (c :: l) then integer r (c :: l)
    else if isWord c then tell r 1 ((c :: l).takeWhile isWord)
    else fail r 70 r.at_
/-- the reader, up to the end or a fault -/
def run (s : List UInt8) : Nat → St → St
  | 0, r => r
  | f + 1, r => if r.at_ < s.length ∧ r.code = 0 then run s f (next s r) else r
def tokens (s : List UInt8) : List Tok × Nat × Int :=
  if 4096 < s.length then ([], 2, 0)
  else
    let r := run s s.length {}
    if r.code = 0 then (r.toks, 0, 0) else ([], r.code, r.place)
end Go.Proofs.YthmiaamjbokljaaGreatDoor.tk
