/- THE GRAMMAR OF THE DOCUMENT AS A PLAIN LEAN FUNCTION (no Go in it). A text is a list of bytes; a place is told by how many bytes are left. What is made of a program is an algebra's ('Alg'): its one form as a text is one of them ('Pr'). -/

namespace Go.Proofs.YtiopfihjmkfdmaaGreatDoor
namespace Sp

abbrev Bs := List UInt8

def isLet (c : UInt8) : Bool := decide (97 ≤ c.toNat) && decide (c.toNat ≤ 122)
def isDig (c : UInt8) : Bool := decide (48 ≤ c.toNat) && decide (c.toNat ≤ 57)
def isBlank (c : UInt8) : Bool := c == 32 || c == 10
/-- how many bytes at the head of a list meet p -/
def headRun (p : UInt8 → Bool) (l : Bs) : Nat := (l.takeWhile p).length
def twos : Bs := [60, 62, 61, 33]
def ones : Bs := [60, 62, 61, 43, 45, 42, 47, 37, 40, 41, 123, 125, 59]
/-- the longest sign at the head -/
def signLen : Bs → Nat
  | [] => 0
  | c :: r => if r.head? = some 61 ∧ c ∈ twos then 2 else if c ∈ ones then 1 else 0
/-- 0: what is no token; 1: the end; 2: a word; 3: a number; 4: a sign -/
def tokKind : Bs → Nat
  | [] => 1
  | c :: r => if isLet c then 2 else if isDig c then 3 else if 0 < signLen (c :: r) then 4 else 0
def tokLen : Bs → Nat
  | [] => 0
  | c :: r => if isLet c then headRun isLet (c :: r) else if isDig c then headRun isDig (c :: r) else signLen (c :: r)
def skip (l : Bs) : Bs := l.dropWhile isBlank
def tok (l : Bs) : Bs := l.take (tokLen l)
def next (l : Bs) : Bs := skip (l.drop (tokLen l))

/-- a result and what is left; else the error's number and how many bytes are left at its place -/
abbrev R (α : Type) := Except (Nat × Nat) (α × Bs)

def bad {α : Type} (e : Nat) (l : Bs) : Except (Nat × Nat) α := .error (e, l.length)

def take (t : Bs) (l : Bs) : Except (Nat × Nat) Bs := if tok l = t then .ok (next l) else bad 2 l
def enter (t : Bs) (o : Nat) (l : Bs) : Except (Nat × Nat) Bs := if tok l = t then (if o = 12 then bad 3 l else .ok (next l)) else bad 2 l

/-- what is made of a program -/
structure Alg where
  S : Type
  num : Nat → S
  name : Nat → S
  neg : S → S
  bin : Nat → S → S → S
  T : Type
  assign : Nat → S → T
  read : Nat → T
  assert : Nat → S → S → T
  ite : Nat → S → S → List T → Option (List T) → T
  loop : Nat → S → S → List T → T

def opOf (t : Bs) : Option Nat :=
  if t = [43] then some 0 else if t = [45] then some 1 else if t = [42] then some 2 else if t = [47] then some 3 else if t = [37] then some 4 else none
def opLevel (k : Nat) : Nat := if k ≤ 1 then 0 else 1
def relOf (t : Bs) : Option Nat :=
  if t = [60] then some 0 else if t = [60, 61] then some 1 else if t = [61, 61] then some 2 else if t = [33, 61] then some 3 else if t = [62, 61] then some 4 else if t = [62] then some 5 else none

def decimal (t : Bs) : Nat := t.foldl (fun a c => a * 10 + (c.toNat - 48)) 0
def numVal (t : Bs) : Option Nat := if 1 < t.length ∧ t.head? = some 48 then none else if decimal t ≤ 32767 then some (decimal t) else none
def nameVal (l : Bs) : Option Nat := match tok l with
  | [c] => if tokKind l = 2 ∧ c.toNat < 105 then some (c.toNat - 97) else none
  | _ => none

def pName (l : Bs) : R Nat := match nameVal l with
  | some k => .ok (k, next l)
  | none => bad 2 l

/-- what stands between the signs of one level, from the left on -/
def pChain (A : Alg) (lv : Nat) (part : Bs → R A.S) : Nat → A.S → Bs → R A.S
  | 0, x, l => .ok (x, l)
  | m + 1, x, l => match opOf (tok l) with
    | some k => if opLevel k = lv then (match part (next l) with
        | .ok (y, l') => pChain A lv part m (A.bin k x y) l'
        | .error e => .error e) else .ok (x, l)
    | none => .ok (x, l)

def pWith (A : Alg) (lv : Nat) (part : Bs → R A.S) (l : Bs) : R A.S := match part l with
  | .ok (x, l') => pChain A lv part (l'.length + 1) x l'
  | .error e => .error e

def pProd (A : Alg) (u : Bs → R A.S) (l : Bs) : R A.S := pWith A 1 u l
def pSum (A : Alg) (u : Bs → R A.S) (l : Bs) : R A.S := pWith A 0 (pProd A u) l

def pUnary (A : Alg) : Nat → Nat → Bs → R A.S
  | 0, _, l => bad 2 l
  | n + 1, o, l =>
    if tokKind l = 3 then (match numVal (tok l) with
      | some v => .ok (A.num v, next l)
      | none => bad 2 l)
    else if tokKind l = 2 then (match pName l with
      | .ok (k, l1) => .ok (A.name k, l1)
      | .error e => .error e)
    else if tok l = [45] then (match enter [45] o l with
      | .ok l1 => (match pUnary A n (o + 1) l1 with
        | .ok (x, l2) => .ok (A.neg x, l2)
        | .error e => .error e)
      | .error e => .error e)
    else (match enter [40] o l with
      | .ok l1 => (match pSum A (pUnary A n (o + 1)) l1 with
        | .ok (x, l2) => (match take [41] l2 with
          | .ok l3 => .ok (x, l3)
          | .error e => .error e)
        | .error e => .error e)
      | .error e => .error e)

/-- a sum, with as many brackets and minus signs open -/
def pS (A : Alg) (o : Nat) (l : Bs) : R A.S := pSum A (pUnary A (l.length + 1) o) l

def pCond (A : Alg) (o : Nat) (l : Bs) : R (Nat × A.S × A.S) := match pS A o l with
  | .ok (x, l1) => (match relOf (tok l1) with
    | some k => (match pS A o (next l1) with
      | .ok (y, l2) => .ok ((k, x, y), l2)
      | .error e => .error e)
    | none => bad 2 l1)
  | .error e => .error e

/-- statements, as long as a word begins one -/
def pMany (A : Alg) (st : Bs → R A.T) : Nat → List A.T → Bs → R (List A.T)
  | 0, acc, l => .ok (acc, l)
  | m + 1, acc, l => if tokKind l = 2 then (match st l with
      | .ok (x, l1) => pMany A st m (acc ++ [x]) l1
      | .error e => .error e) else .ok (acc, l)

def pBlock (A : Alg) (st : Bs → R A.T) (o : Nat) (l : Bs) : R (List A.T) := match enter [123] o l with
  | .ok l1 => (match pMany A st (l1.length + 1) [] l1 with
    | .ok (xs, l2) => (match take [125] l2 with
      | .ok l3 => .ok (xs, l3)
      | .error e => .error e)
    | .error e => .error e)
  | .error e => .error e

def wRead : Bs := [114, 101, 97, 100]
def wAssert : Bs := [97, 115, 115, 101, 114, 116]
def wIf : Bs := [105, 102]
def wWhile : Bs := [119, 104, 105, 108, 101]
def wElse : Bs := [101, 108, 115, 101]

def pAssign (A : Alg) (o : Nat) (l : Bs) : R A.T := match pName l with
  | .ok (k, l1) => (match take [61] l1 with
    | .ok l2 => (match pS A o l2 with
      | .ok (x, l3) => (match take [59] l3 with
        | .ok l4 => .ok (A.assign k x, l4)
        | .error e => .error e)
      | .error e => .error e)
    | .error e => .error e)
  | .error e => .error e

def pRead (A : Alg) (l : Bs) : R A.T := match pName (next l) with
  | .ok (k, l1) => (match take [59] l1 with
    | .ok l2 => .ok (A.read k, l2)
    | .error e => .error e)
  | .error e => .error e

def pAssert (A : Alg) (o : Nat) (l : Bs) : R A.T := match pCond A o (next l) with
  | .ok ((k, x, y), l1) => (match take [59] l1 with
    | .ok l2 => .ok (A.assert k x y, l2)
    | .error e => .error e)
  | .error e => .error e

def pIf (A : Alg) (blk : Bs → R (List A.T)) (o : Nat) (l : Bs) : R A.T := match pCond A o (next l) with
  | .ok ((k, x, y), l1) => (match blk l1 with
    | .ok (xs, l2) => if tok l2 = wElse then (match blk (next l2) with
        | .ok (ys, l3) => .ok (A.ite k x y xs (some ys), l3)
        | .error e => .error e) else .ok (A.ite k x y xs none, l2)
    | .error e => .error e)
  | .error e => .error e

def pWhile (A : Alg) (blk : Bs → R (List A.T)) (o : Nat) (l : Bs) : R A.T := match pCond A o (next l) with
  | .ok ((k, x, y), l1) => (match blk l1 with
    | .ok (xs, l2) => .ok (A.loop k x y xs, l2)
    | .error e => .error e)
  | .error e => .error e

def pStmt (A : Alg) : Nat → Nat → Bs → R A.T
  | 0, _, l => bad 2 l
  | n + 1, o, l =>
    if tok l = wRead then pRead A l
    else if tok l = wAssert then pAssert A o l
    else if tok l = wIf then pIf A (fun l => pBlock A (pStmt A n (o + 1)) o l) o l
    else if tok l = wWhile then pWhile A (fun l => pBlock A (pStmt A n (o + 1)) o l) o l
    else pAssign A o l

/-- the program behind the first blanks -/
def pProg (A : Alg) (l : Bs) : Except (Nat × Nat) (List A.T) := match pMany A (pStmt A (l.length + 1) 0) (l.length + 1) [] l with
  | .ok (xs, l1) => if l1 = [] then .ok xs else bad 2 l1
  | .error e => .error e

/-- P3: the program, or the error's number and its place -/
def parse (A : Alg) (src : Bs) : Except (Nat × Nat) (List A.T) :=
  if 400 < src.length then .error (1, 0) else match pProg A (skip src) with
    | .ok xs => .ok xs
    | .error (e, left) => .error (e, src.length - left)

def opSign (k : Nat) : Bs := match k with
  | 0 => [43] | 1 => [45] | 2 => [42] | 3 => [47] | _ => [37]
def relSign (k : Nat) : Bs := match k with
  | 0 => [60] | 1 => [60, 61] | 2 => [61, 61] | 3 => [33, 61] | 4 => [62, 61] | _ => [62]

/-- a sum where one of the least level is read -/
def part (x : Nat × Bs) (least : Nat) : Bs := if x.1 < least then [40] ++ x.2 ++ [41] else x.2
def digitsF : Nat → Nat → Bs
  | 0, _ => []
  | f + 1, n => if n < 10 then [UInt8.ofNat (48 + n)] else digitsF f (n / 10) ++ [UInt8.ofNat (48 + n % 10)]
def digits (n : Nat) : Bs := digitsF 20 n
def letter (k : Nat) : Bs := [UInt8.ofNat (97 + k)]
def pad (d : Nat) : Bs := List.replicate (2 * d) 32
def condText (k : Nat) (x y : Nat × Bs) : Bs := x.2 ++ [32] ++ relSign k ++ [32] ++ y.2
def lines (d : Nat) (xs : List (Nat → Bs)) : Bs := (xs.map fun x => x d).flatten

/-- P4: the one form -/
def Pr : Alg where
  S := Nat × Bs
  num n := (2, digits n)
  name k := (2, letter k)
  neg x := (2, [45] ++ part x 2)
  bin k x y := (opLevel k, part x (opLevel k) ++ [32] ++ opSign k ++ [32] ++ part y (opLevel k + 1))
  T := Nat → Bs
  assign k x := fun d => pad d ++ letter k ++ [32, 61, 32] ++ x.2 ++ [59, 10]
  read k := fun d => pad d ++ [114, 101, 97, 100, 32] ++ letter k ++ [59, 10]
  assert k x y := fun d => pad d ++ [97, 115, 115, 101, 114, 116, 32] ++ condText k x y ++ [59, 10]
  ite k x y xs ys := fun d => pad d ++ [105, 102, 32] ++ condText k x y ++ [32, 123, 10] ++ lines (d + 1) xs ++ (match ys with
    | some ys => pad d ++ [125, 32, 101, 108, 115, 101, 32, 123, 10] ++ lines (d + 1) ys
    | none => []) ++ pad d ++ [125, 10]
  loop k x y xs := fun d => pad d ++ [119, 104, 105, 108, 101, 32] ++ condText k x y ++ [32, 123, 10] ++ lines (d + 1) xs ++ pad d ++ [125, 10]

/-- P3, P4 -/
def print (src : Bs) : Except (Nat × Nat) Bs := match parse Pr src with
  | .ok xs => .ok (lines 0 xs)
  | .error e => .error e

end Sp
end Go.Proofs.YtiopfihjmkfdmaaGreatDoor


