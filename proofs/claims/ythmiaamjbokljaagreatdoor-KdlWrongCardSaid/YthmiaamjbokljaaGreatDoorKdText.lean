/- Nodes' text, on lists: what Text says; no Go. (A text in quotes by bytes: an escape stands for a byte below 128 alone, so runes do not matter.) -/
import Derived.Test.YthmiaamjbokljaaGreatDoorKdMath
import Derived.Test.YthmiaamjbokljaaGreatDoorTkMakesM
import Derived.Test.YthmiaamjbokljaaGreatDoorTkPlain
namespace Go.Proofs.YthmiaamjbokljaaGreatDoor.kd
open Go

def Node.name : Node → List UInt8 | .mk n _ _ _ => n
def Node.args : Node → List Val | .mk _ a _ _ => a
def Node.props : Node → List Prp | .mk _ _ p _ => p
def Node.kids : Node → List Node | .mk _ _ _ k => k
/-- the nodes that count, each with its depth. (Fuel: 14 is enough.) -/
def gather : Nat → List Node → Nat → List (Node × Nat) → List (Node × Nat)
  | 0, _, _, all => all
  | f + 1, ns, depth, all => ns.foldl (fun all n => if 12 < depth ∨ 300 < all.length then all else gather f n.kids (depth + 1) (all ++ [(n, depth)])) all
def badText (s : List UInt8) : Bool := s.any fun c => !tk.may c
def badValue (v : Val) : Bool := if v.kind = 1 then badText v.text else !decide (v.kind = 2 ∨ v.kind = 3 ∨ v.kind = 4)
def tooDeep (p : Node × Nat) : Bool := decide (p.2 = 12 ∧ 0 < p.1.kids.length)
def unwritable (p : Node × Nat) : Bool := badText p.1.name || p.1.args.any badValue || p.1.props.any fun x => badText x.name || badValue x.val
def again : List Prp → List (List UInt8) → Bool
  | [], _ => false
  | x :: r, seen => seen.any (fun n => decide (n = x.name)) || again r (seen ++ [x.name])
def wrong (all : List (Node × Nat)) : Nat :=
  if 300 < all.length then 3 else if all.any tooDeep then 4 else if all.any unwritable then 1 else if all.any (fun p => again p.1.props []) then 81 else 0
def quoteT (s : List UInt8) : List UInt8 := 34 :: (tk.qbs s ++ [34])
def nameT (s : List UInt8) : List UInt8 := if tk.plain s then s else quoteT s
def valT (v : Val) : List UInt8 :=
  if v.kind = 1 then quoteT v.text else if v.kind = 2 then Lib.itoa v.int else if v.kind = 3 then (if v.flag then tTrue else tFalse) else if v.kind = 4 then tNull else []
def argsT (l : List Val) : List UInt8 := l.flatMap fun v => 32 :: valT v
def propsT (l : List Prp) : List UInt8 := l.flatMap fun x => 32 :: (nameT x.name ++ 61 :: valT x.val)
def nodesT : Nat → List Node → List UInt8 → List UInt8
  | 0, _, _ => []
  | f + 1, ns, ahead => ns.flatMap fun n => ahead ++ nameT n.name ++ argsT n.args ++ propsT n.props ++ (if n.kids.length = 0 then [] else [32, 123, 10] ++ nodesT f n.kids (ahead ++ [32, 32, 32, 32]) ++ ahead ++ [125]) ++ [10]
/-- nodes' text and the number of what is wrong (0: nothing) -/
def text (ns : List Node) : List UInt8 × Nat :=
  if wrong (gather 14 ns 0 []) ≠ 0 then ([], wrong (gather 14 ns 0 []))
  else if 4096 < (nodesT 14 ns []).length then ([], 2) else (nodesT 14 ns [], 0)
end Go.Proofs.YthmiaamjbokljaaGreatDoor.kd
