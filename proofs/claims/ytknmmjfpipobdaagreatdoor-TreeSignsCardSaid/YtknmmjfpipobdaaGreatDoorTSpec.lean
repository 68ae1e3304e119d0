/-
  Plain functions on tokens: what the parser reads, token by token, and how it writes programs. No program is named here.
-/
import Derived.Test.YtknmmjfpipobdaaGreatDoorPlain
namespace Go.Proofs.YtknmmjfpipobdaaGreatDoor.Px
open Lx (Tok)

abbrev Bytes := List UInt8

/-- Where a reader is: its next token, how many brackets are open, how many statements have begun. -/
structure St where
  i : Nat
  o : Int
  n : Nat
deriving DecidableEq

/-- An expression: its kind, operation, name, number, place, parts. -/
inductive Ex where
  | mk (kind op : Nat) (name : Bytes) (num pos : Nat) (args : List Ex)
/-- A statement: its kind, number, name, type, length, place, expressions, blocks. -/
inductive Sm where
  | mk (kind id : Nat) (name : Bytes) (typ num pos : Nat) (exprs : List Ex) (body els : List Sm)
structure Pm where
  name : Bytes
  typ : Nat
  pos : Nat
structure Fu where
  name : Bytes
  params : List Pm
  result : Nat
  body : List Sm
  pos : Nat

abbrev R (α : Type) := Except (Nat × Nat) (α × St)
def bindR {α β : Type} (r : R α) (k : α → St → R β) : R β := match r with
  | .error e => .error e
  | .ok (a, s) => k a s
theorem bindR_error {α β : Type} (e : Nat × Nat) (k : α → St → R β) : bindR (.error e) k = .error e := rfl
theorem bindR_ok {α β : Type} (a : α) (s : St) (k : α → St → R β) : bindR (.ok (a, s)) k = k a s := rfl

def tk (ts : List Tok) (i : Nat) : Tok := ts.getD i ⟨0, 0, [], 0⟩

def opensB (t : Bytes) : Bool := t == [40] || t == [91] || t == [123]
def closesB (t : Bytes) : Bool := t == [41] || t == [93] || t == [125]

/-- Behind the next token. -/
def takeR (ts : List Tok) (s : St) : R Tok :=
  if opensB (tk ts s.i).text then if s.o = 200 then .error ((tk ts s.i).pos, 5) else .ok (tk ts s.i, ⟨s.i + 1, s.o + 1, s.n⟩)
  else if closesB (tk ts s.i).text then .ok (tk ts s.i, ⟨s.i + 1, s.o - 1, s.n⟩)
  else .ok (tk ts s.i, ⟨s.i + 1, s.o, s.n⟩)
def wrongR {α : Type} (ts : List Tok) (s : St) : R α := .error ((tk ts s.i).pos, 4)
def acceptR (x : Bytes) (ts : List Tok) (s : St) : R Bool :=
  if (tk ts s.i).text = x then bindR (takeR ts s) fun _ s => .ok (true, s) else .ok (false, s)
def expectR (x : Bytes) (ts : List Tok) (s : St) : R Tok := if (tk ts s.i).text = x then takeR ts s else wrongR ts s
def kindR (k : Nat) (ts : List Tok) (s : St) : R Tok := if (tk ts s.i).kind = k then takeR ts s else wrongR ts s

/-- The signs of two, with their operations and strengths, in the order of the operations. -/
def signsOf : List (Bytes × Nat) := [([43], 9), ([45], 9), ([42], 10), ([47], 10), ([37], 10), ([38], 7), ([124], 5), ([94], 6), ([60, 60], 8), ([62, 62], 8), ([60], 4), ([60, 61], 4), ([62], 4), ([62, 61], 4), ([61, 61], 3), ([33, 61], 3), ([38, 38], 2), ([124, 124], 1), ([45], 11), ([126], 11), ([33], 11)]
def signOf (op : Nat) : Bytes × Nat := if op = 0 then ([], 0) else signsOf.getD (op - 1) ([], 0)
/-- The first operation from 'op' on, at most 'n' of them, whose sign a text is. -/
def findOp (t : Bytes) : Nat → Nat → Nat × Nat
  | 0, _ => (0, 0)
  | n + 1, op => if (signOf op).1 = t then (op, (signOf op).2) else findOp t n (op + 1)
def infixOf (t : Bytes) : Nat × Nat := findOp t 18 1
def prefixOf (t : Bytes) : Nat := (findOp t 3 19).1
def nameOf (k : Nat) : Bytes := if k = 1 then [105, 110, 116] else if k = 2 then [98, 111, 111, 108] else if k = 3 then [97, 114, 114] else []

/-- What isn't gone through here: (0, 99); nothing is said of a text of which this comes out. -/
def gone {α : Type} : R α := .error (0, 99)
theorem bindR_gone {α β : Type} {r : R α} {k : α → St → R β} (h : bindR r k ≠ gone) : r ≠ gone := by
  rintro rfl
  exact h rfl

mutual
def binF (ts : List Tok) : Nat → Nat → St → R Ex
  | 0, _, _ => gone
  | f + 1, least, s => bindR (unF ts f s) fun l s => loopF ts f least l s
def loopF (ts : List Tok) : Nat → Nat → Ex → St → R Ex
  | 0, _, _, _ => gone
  | f + 1, least, l, s =>
    if (infixOf (tk ts s.i).text).1 = 0 ∨ (infixOf (tk ts s.i).text).2 < least then .ok (l, s)
    else bindR (takeR ts s) fun t s' => bindR (binF ts f ((infixOf (tk ts s.i).text).2 + 1) s') fun r s'' => loopF ts f least (.mk 9 (infixOf (tk ts s.i).text).1 [] 0 t.pos [l, r]) s''
def unF (ts : List Tok) : Nat → St → R Ex
  | 0, _ => gone
  | f + 1, s =>
    if prefixOf (tk ts s.i).text = 0 then opF ts f s
    else gone
def opF (ts : List Tok) : Nat → St → R Ex
  | 0, _ => gone
  | f + 1, s =>
    if (tk ts s.i).kind = 3 then bindR (takeR ts s) fun t s' => .ok (.mk 1 0 [] t.num (tk ts s.i).pos [], s')
    else if (tk ts s.i).kind = 1 then gone
    else if (tk ts s.i).text = [116, 114, 117, 101] then gone
    else if (tk ts s.i).text = [102, 97, 108, 115, 101] then gone
    else if (tk ts s.i).text = [114, 101, 97, 100] then gone
    else if (tk ts s.i).text = [108, 101, 110] then gone
    else if (tk ts s.i).text = [40] then bindR (takeR ts s) fun _ s' => bindR (binF ts f 1 s') fun x s' => bindR (expectR [41] ts s') fun _ s' => .ok (x, s')
    else wrongR ts s
end

/-- A type's name, one of some. -/
def typeR (ts : List Tok) : List Nat → St → R Nat
  | [], s => wrongR ts s
  | k :: ks, s => if (tk ts s.i).text = nameOf k then bindR (takeR ts s) fun _ s' => .ok (k, s') else typeR ts ks s

mutual
def blockF (ts : List Tok) : Nat → St → R (List Sm)
  | 0, _ => gone
  | f + 1, s => bindR (expectR [123] ts s) fun _ s => bindR (bodyF ts f [] s) fun l s => bindR (expectR [125] ts s) fun _ s => .ok (l, s)
def bodyF (ts : List Tok) : Nat → List Sm → St → R (List Sm)
  | 0, _, _ => gone
  | f + 1, l, s => if (tk ts s.i).text = [125] then .ok (l, s) else bindR (smF ts f s) fun x s => bodyF ts f (l ++ [x]) s
def smF (ts : List Tok) : Nat → St → R Sm
  | 0, _ => gone
  | f + 1, s0 =>
    if (tk ts s0.i).kind = 1 then gone
    else if (tk ts s0.i).text = [108, 101, 116] then gone
    else if (tk ts s0.i).text = [105, 102] then gone
    else if (tk ts s0.i).text = [119, 104, 105, 108, 101] then gone
    else if (tk ts s0.i).text = [114, 101, 116, 117, 114, 110] then bindR (takeR ts ⟨s0.i, s0.o, s0.n + 1⟩) fun _ s =>
      if (tk ts s.i).text = [59] then gone else bindR (binF ts f 1 s) fun x s => bindR (expectR [59] ts s) fun _ s => .ok (.mk 6 (s0.n + 1) [] 0 0 (tk ts s0.i).pos [x] [] [], s)
    else if (tk ts s0.i).text = [112, 114, 105, 110, 116] then gone
    else gone
end

def pmF (ts : List Tok) (s : St) : R Pm :=
  bindR (kindR 1 ts s) fun _ _ => gone
def fuF (ts : List Tok) (f : Nat) (s : St) : R Fu :=
  bindR (expectR [102, 110] ts s) fun t s => bindR (kindR 1 ts s) fun u s => bindR (expectR [40] ts s) fun _ s =>
  bindR (if (tk ts s.i).text = [41] then .ok ([], s) else bindR (pmF ts s) fun _ _ => gone) fun l s => bindR (expectR [41] ts s) fun _ s =>
  bindR (if (tk ts s.i).text = [58] then bindR (takeR ts s) fun _ s => typeR ts [1, 2] s else .ok (0, s)) fun y s => bindR (blockF ts f s) fun b s => .ok (⟨u.text, l, y, b, t.pos⟩, s)
def fusF (ts : List Tok) : Nat → List Fu → St → R (List Fu)
  | 0, _, _ => gone
  | f + 1, l, s => bindR (fuF ts f s) fun x s => if (tk ts s.i).kind = 0 then .ok (l ++ [x], s) else fusF ts f (l ++ [x]) s

abbrev PRes := Except (Nat × Nat) (List Fu)
def fuel (ts : List Tok) : Nat := 8 * ts.length + 16
def progF (ts : List Tok) : PRes := match fusF ts (fuel ts) [] ⟨0, 0, 0⟩ with
  | .error e => .error e
  | .ok (l, _) => .ok l
/-- What a text is parsed as. -/
def parse (l : Bytes) : PRes := match Lx.scan l with
  | .error e => .error e
  | .ok ts => progF ts
end Go.Proofs.YtknmmjfpipobdaaGreatDoor.Px
