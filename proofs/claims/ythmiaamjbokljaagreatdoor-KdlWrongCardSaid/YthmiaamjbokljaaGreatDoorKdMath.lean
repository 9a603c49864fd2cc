/- A layout's text as nodes, on lists: what Parse says of tokens; no Go. The parser's state: the tokens not taken yet, how many nodes have a name already. A fault: its number and its place. -/
import Derived.Test.YthmiaamjbokljaaGreatDoorTkMath
namespace Go.Proofs.YthmiaamjbokljaaGreatDoor.kd
open Go

structure Val where
  kind : Int
  text : List UInt8 := []
  int : Int := 0
  flag : Bool := false
structure Prp where
  name : List UInt8
  val : Val
inductive Node where
  | mk (name : List UInt8) (args : List Val) (props : List Prp) (kids : List Node)
structure Ps where
  toks : List tk.Tok
  begun : Nat := 0
/-- an answer, or a fault: its number (not 0) and its place -/
inductive Ans (α : Type) where
  | ok (a : α) (s : Ps)
  | bad (code : Nat) (place : Int) (s : Ps)

def peek (e : Nat) (s : Ps) : tk.Tok := s.toks.headD { kind := 0, text := [], at_ := e }
def take (s : Ps) : Ps := { s with toks := s.toks.tail }
def isSign (t : tk.Tok) (c : UInt8) : Bool := decide (t.kind = 4 ∧ t.text = [c])
def isName (t : tk.Tok) : Bool := decide (t.kind = 1 ∨ t.kind = 2)
def isValue (t : tk.Tok) : Bool := isName t || decide (t.kind = 3)
def stray (t : tk.Tok) : Nat := if t.kind = 0 then 82 else 80
def tTrue : List UInt8 := [116, 114, 117, 101]
def tFalse : List UInt8 := [102, 97, 108, 115, 101]
def tNull : List UInt8 := [110, 117, 108, 108]
def value (t : tk.Tok) : Val :=
  if t.kind = 3 then { kind := 2, int := t.int }
  else if t.kind = 2 then { kind := 1, text := t.text }
  else if t.text = tTrue ∨ t.text = tFalse then { kind := 3, flag := decide (t.text = tTrue) }
  else if t.text = tNull then { kind := 4 }
  else { kind := 1, text := t.text }
/-- a node's values and properties; the names that were there -/
def parts (e : Nat) : Nat → Ps → List Val → List Prp → Ans (List Val × List Prp)
  | 0, s, _, _ => .bad 0 0 s
  | f + 1, s, vs, ps =>
    let t := peek e s
    if isValue t then
      let s1 := take s
      if isName t = false ∨ isSign (peek e s1) 61 = false then parts e f s1 (vs ++ [value t]) ps
      else if ps.any (fun p => decide (p.name = t.text)) then .bad 81 t.at_ s1
      else
        let s2 := take s1
        let v := peek e s2
        let s3 := take s2
        if isValue v then parts e f s3 vs (ps ++ [{ name := t.text, val := value v }]) else .bad (stray v) v.at_ s3
    else .ok (vs, ps) s
/-- without the Breaks ahead -/
def breaks (s : Ps) : Ps := { s with toks := s.toks.dropWhile fun t => decide (t.kind = 5) }
def closes (e depth : Nat) (s : Ps) : Bool := if depth = 0 then decide ((peek e s).kind = 0) else isSign (peek e s) 125
mutual
/-- the nodes that stand in so many { , up to where these end -/
def list (e : Nat) : Nat → Nat → Ps → List Node → Ans (List Node)
  | 0, _, s, _ => .bad 0 0 s
  | f + 1, depth, s, ns =>
    let s1 := breaks s
    if closes e depth s1 then .ok ns s1
    else match node e f depth s1 with
      | .ok n s2 => list e f depth s2 (ns ++ [n])
      | .bad c x s2 => .bad c x s2
def node (e : Nat) : Nat → Nat → Ps → Ans Node
  | 0, _, s => .bad 0 0 s
  | f + 1, depth, s =>
    let t := peek e s
    let s1 := take s
    if isName t = false then .bad (stray t) t.at_ s1
    else
      let s2 : Ps := { s1 with begun := s1.begun + 1 }
      if 300 < s2.begun then .bad 3 t.at_ s2
      else match parts e (s2.toks.length + 1) s2 [] [] with
        | .bad c x s3 => .bad c x s3
        | .ok (vs, ps) s3 =>
          match kids e f depth s3 with
          | .bad c x s4 => .bad c x s4
          | .ok ks s4 =>
            let n := peek e s4
            if n.kind ≠ 0 ∧ n.kind ≠ 5 ∧ isSign n 125 = false then .bad (stray n) n.at_ s4 else .ok (.mk t.text vs ps ks) s4
def kids (e : Nat) : Nat → Nat → Ps → Ans (List Node)
  | 0, _, s => .bad 0 0 s
  | f + 1, depth, s =>
    let o := peek e s
    if isSign o 123 = false then .ok [] s
    else if 12 ≤ depth then .bad 4 o.at_ s
    else match list e f (depth + 1) (take s) [] with
      | .bad c x s1 => .bad c x s1
      | .ok ns s1 => .ok ns (take s1)
end
/-- a text's nodes, the number of the fault (0: none), its place. (Enough fuel: three steps for each token, and one.) -/
def parse (text : List UInt8) : List Node × Nat × Int :=
  if (tk.tokens text).2.1 ≠ 0 then ([], (tk.tokens text).2.1, (tk.tokens text).2.2)
  else match list text.length (3 * (tk.tokens text).1.length + 4) 0 { toks := (tk.tokens text).1 } [] with
    | .ok ns _ => (ns, 0, 0)
    | .bad c x _ => ([], c, x)
end Go.Proofs.YthmiaamjbokljaaGreatDoor.kd
