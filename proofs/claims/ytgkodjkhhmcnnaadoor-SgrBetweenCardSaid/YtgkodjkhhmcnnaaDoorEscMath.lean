/- A parser's state, and what a byte does with it, as lists; no Go. -/
import Derived.Test.YtgkodjkhhmcnnaaDoorGlMath
namespace Go.Proofs.YtgkodjkhhmcnnaaDoor.es

/-- what a parser is in the middle of (0 ground, 1 behind an escape, 2 in a control sequence, 3 in a string, 4 in a string behind a 27), the bytes that wait, what was begun -/
structure St where
  state : Nat := 0
  wait : List UInt8 := []
  spoiled : Bool := false
  priv : Nat := 0
  final : Nat := 0
  inter : List UInt8 := []
  params : List Int := []
  text : List UInt8 := []
def addInter (s : St) (b : UInt8) : St := if s.inter.length = 2 then { s with spoiled := true } else { s with inter := s.inter ++ [b] }
def nextNumber (s : St) : St := if s.params.length < 17 then { s with params := s.params ++ [-1] } else { s with params := s.params.set 16 (-1) }
/-- a digit more of a number -/
def digit (n : Int) (b : UInt8) : Int := min (max n 0 * 10 + ((b.toNat : Int) - 48)) 9999
def setLast (s : St) (b : UInt8) : St := { s with params := s.params.set (s.params.length - 1) (digit (s.params.getD (s.params.length - 1) 0) b) }
def addNumber (s : St) (b : UInt8) : St :=
  if b.toNat = 59 then nextNumber (if s.params.length = 0 then nextNumber s else s) else setLast (if s.params.length = 0 then nextNumber s else s) b
def addParam (s : St) (b : UInt8) : St :=
  if s.inter ≠ [] ∨ b.toNat = 58 then { s with spoiled := true }
  else if b.toNat ≤ 59 then addNumber s b
  else if s.params.length = 0 ∧ s.priv = 0 ∧ s.spoiled = false then { s with priv := b.toNat }
  else { s with spoiled := true }
def addText (s : St) (b : UInt8) : St := if s.text.length < 256 then { s with text := s.text ++ [b] } else s
/-- what is said -/
structure Act where
  kind : Int
  r : Int := 0
  final : Nat := 0
  priv : Nat := 0
  inter : List UInt8 := []
  params : List Int := []
  text : List UInt8 := []
def esc (s : St) (b : UInt8) : Act := { kind := 3, inter := s.inter, final := b.toNat }
def csi (s : St) (b : UInt8) : Act := { kind := 4, priv := s.priv, params := s.params.take 16, inter := s.inter, final := b.toNat }
def str (s : St) : Act := { kind := 5, final := s.final, text := s.text }
def print (r : Int) : Act := { kind := 1, r := r }
def exec (b : UInt8) : Act := { kind := 2, final := b.toNat }
/-- what a state says at a byte's end: the state behind it, and the acts -/
abbrev Said := St × List Act
def say (s : St) (a : Act) : Said := ({}, if s.spoiled then [] else [a])
def isText (b : UInt8) : Bool := decide (32 ≤ b.toNat ∧ b.toNat ≠ 127)
def command (s : St) (b : UInt8) : Said :=
  if b.toNat = 24 ∨ b.toNat = 26 then ({}, [])
  else if b.toNat = 27 then ({ state := 1 }, [])
  else if b.toNat = 127 then (s, [])
  else (s, [exec b])
def beginsString (b : UInt8) : Bool := decide (b.toNat = 93 ∨ b.toNat = 80 ∨ b.toNat = 88 ∨ b.toNat = 94 ∨ b.toNat = 95)
def inGround (s : St) (b : UInt8) : Said :=
  if isText b then ({ s with wait := (gl.read (s.wait ++ [b])).2 }, (gl.read (s.wait ++ [b])).1.map print)
  else ((command { s with wait := [] } b).1, List.replicate s.wait.length (print 65533) ++ (command { s with wait := [] } b).2)
def inEscape (s : St) (b : UInt8) : Said :=
  if isText b = false then command s b
  else if b.toNat < 48 then (addInter s b, [])
  else if 128 ≤ b.toNat then ({}, [])
  else if s.inter = [] ∧ b.toNat = 91 then ({ s with state := 2 }, [])
  else if s.inter = [] ∧ beginsString b = true then ({ s with state := 3, final := b.toNat }, [])
  else say s (esc s b)
def inControl (s : St) (b : UInt8) : Said :=
  if isText b = false then command s b
  else if b.toNat < 48 then (addInter s b, [])
  else if b.toNat < 64 then (addParam s b, [])
  else if b.toNat < 128 then say s (csi s b)
  else ({}, [])
def inString (s : St) (b : UInt8) : Said :=
  if b.toNat = 7 then say s (str s)
  else if b.toNat = 27 then ({ s with state := 4 }, [])
  else if b.toNat = 24 ∨ b.toNat = 26 then ({}, [])
  else if 32 ≤ b.toNat then (addText s b, [])
  else (s, [])
def inClosing (s : St) (b : UInt8) : Said :=
  if b.toNat = 92 then say s (str s) else inEscape { state := 1 } b
def byte (s : St) (b : UInt8) : Said :=
  if s.state = 1 then inEscape s b else if s.state = 2 then inControl s b else if s.state = 3 then inString s b else if s.state = 4 then inClosing s b else inGround s b
def feed : St → List UInt8 → Said
  | s, [] => (s, [])
  | s, b :: l => ((feed (byte s b).1 l).1, (byte s b).2 ++ (feed (byte s b).1 l).2)
theorem feed_nil (s : St) : feed s [] = (s, []) := rfl
theorem feed_append : ∀ (s : St) (l r : List UInt8), feed s (l ++ r) = ((feed (feed s l).1 r).1, (feed s l).2 ++ (feed (feed s l).1 r).2)
  | s, [], r => by simp [feed]
  | s, b :: l, r => by
    rw [List.cons_append]
    simp only [feed]
    rw [feed_append (byte s b).1 l r, List.append_assoc]
def idle (s : St) : Bool := decide (s.state = 0 ∧ s.wait.length = 0)
/-- what holds of each state -/
structure Ok (s : St) : Prop where
  st : s.state ≤ 4
  wait : s.wait.length ≤ 3
  inter : s.inter.length ≤ 2
  par : s.params.length ≤ 17
  text : s.text.length ≤ 256
  priv : s.priv < 256
  final : s.final < 256
theorem Ok.zero : Ok {} := ⟨by simp, by simp, by simp, by simp, by simp, by simp, by simp⟩
end Go.Proofs.YtgkodjkhhmcnnaaDoor.es
