/-
  Joined: TSpec, TMem.
-/
import Derived.Test.YtcgllooeimacdaaGreatDoorPlain
import Derived.WalkKit
import Derived.Below
/-! Plain functions on tokens: what the parser reads, token by token, and how it writes programs. No program is named here. -/

namespace Go.Proofs.YtcgllooeimacdaaGreatDoor.Px
open Lx (Tok)

abbrev Bytes := List UInt8

/-- Where a reader is: its next token, how many brackets are open, how many statements have begun. -/
structure St where
  i : Nat
  o : Int
  n : Nat
deriving DecidableEq

/-- An expression: its kind, operation, name, number, place, parts. -/
inductive Ex where
  | mk (kind op : Nat) (name : Bytes) (num pos : Nat) (args : List Ex)
/-- A statement: its kind, number, name, type, length, place, expressions, blocks. -/
inductive Sm where
  | mk (kind id : Nat) (name : Bytes) (typ num pos : Nat) (exprs : List Ex) (body els : List Sm)
structure Pm where
  name : Bytes
  typ : Nat
  pos : Nat
structure Fu where
  name : Bytes
  params : List Pm
  result : Nat
  body : List Sm
  pos : Nat

abbrev R (α : Type) := Except (Nat × Nat) (α × St)
def bindR {α β : Type} (r : R α) (k : α → St → R β) : R β := match r with
  | .error e => .error e
  | .ok (a, s) => k a s
theorem bindR_error {α β : Type} (e : Nat × Nat) (k : α → St → R β) : bindR (.error e) k = .error e := rfl
theorem bindR_ok {α β : Type} (a : α) (s : St) (k : α → St → R β) : bindR (.ok (a, s)) k = k a s := rfl

def tk (ts : List Tok) (i : Nat) : Tok := ts.getD i ⟨0, 0, [], 0⟩

def opensB (t : Bytes) : Bool := t == [40] || t == [91] || t == [123]
def closesB (t : Bytes) : Bool := t == [41] || t == [93] || t == [125]

/-- Behind the next token. -/
def takeR (ts : List Tok) (s : St) : R Tok :=
  if opensB (tk ts s.i).text then if s.o = 200 then .error ((tk ts s.i).pos, 5) else .ok (tk ts s.i, ⟨s.i + 1, s.o + 1, s.n⟩)
  else if closesB (tk ts s.i).text then .ok (tk ts s.i, ⟨s.i + 1, s.o - 1, s.n⟩)
  else .ok (tk ts s.i, ⟨s.i + 1, s.o, s.n⟩)
def wrongR {α : Type} (ts : List Tok) (s : St) : R α := .error ((tk ts s.i).pos, 4)
def acceptR (x : Bytes) (ts : List Tok) (s : St) : R Bool :=
  if (tk ts s.i).text = x then bindR (takeR ts s) fun _ s => .ok (true, s) else .ok (false, s)
def expectR (x : Bytes) (ts : List Tok) (s : St) : R Tok := if (tk ts s.i).text = x then takeR ts s else wrongR ts s
def kindR (k : Nat) (ts : List Tok) (s : St) : R Tok := if (tk ts s.i).kind = k then takeR ts s else wrongR ts s

/-- The signs of two, with their operations and strengths, in the order of the operations. -/
def signsOf : List (Bytes × Nat) := [([43], 9), ([45], 9), ([42], 10), ([47], 10), ([37], 10), ([38], 7), ([124], 5), ([94], 6), ([60, 60], 8), ([62, 62], 8), ([60], 4), ([60, 61], 4), ([62], 4), ([62, 61], 4), ([61, 61], 3), ([33, 61], 3), ([38, 38], 2), ([124, 124], 1), ([45], 11), ([126], 11), ([33], 11)]
def signOf (op : Nat) : Bytes × Nat := if op = 0 then ([], 0) else signsOf.getD (op - 1) ([], 0)
/-- The first operation from 'op' on, at most 'n' of them, whose sign a text is. -/
def findOp (t : Bytes) : Nat → Nat → Nat × Nat
  | 0, _ => (0, 0)
  | n + 1, op => if (signOf op).1 = t then (op, (signOf op).2) else findOp t n (op + 1)
def infixOf (t : Bytes) : Nat × Nat := findOp t 18 1
def prefixOf (t : Bytes) : Nat := (findOp t 3 19).1
def nameOf (k : Nat) : Bytes := if k = 1 then [105, 110, 116] else if k = 2 then [98, 111, 111, 108] else if k = 3 then [97, 114, 114] else []

/-- What isn't gone through here: (0, 99); nothing is said of a text of which this comes out. -/
def gone {α : Type} : R α := .error (0, 99)
theorem bindR_gone {α β : Type} {r : R α} {k : α → St → R β} (h : bindR r k ≠ gone) : r ≠ gone := by
  rintro rfl
  exact h rfl

/-- A cell's place in its brackets. -/
def placeB {α : Type} (ts : List Tok) (item : St → R α) (s : St) : R α := bindR (expectR [91] ts s) fun _ s => bindR (item s) fun x s => bindR (expectR [93] ts s) fun _ s => .ok (x, s)
/-- Items behind commas. -/
def itemsB {α : Type} (ts : List Tok) (item : St → R α) : Nat → List α → St → R (List α)
  | 0, _, _ => gone
  | n + 1, l, s => if (tk ts s.i).text = [44] then bindR (takeR ts s) fun _ s => bindR (item s) fun x s => itemsB ts item n (l ++ [x]) s else .ok (l, s)
/-- Items in brackets, with commas between. -/
def listB {α : Type} (ts : List Tok) (item : St → R α) (n : Nat) (s : St) : R (List α) := bindR (expectR [40] ts s) fun _ s => bindR (if (tk ts s.i).text = [41] then .ok ([], s) else bindR (item s) fun x s => itemsB ts item n [x] s) fun l s => bindR (expectR [41] ts s) fun _ s => .ok (l, s)

mutual
def binF (ts : List Tok) : Nat → Nat → St → R Ex
  | 0, _, _ => gone
  | f + 1, least, s => bindR (unF ts f s) fun l s => loopF ts f least l s
def loopF (ts : List Tok) : Nat → Nat → Ex → St → R Ex
  | 0, _, _, _ => gone
  | f + 1, least, l, s =>
    if (infixOf (tk ts s.i).text).1 = 0 ∨ (infixOf (tk ts s.i).text).2 < least then .ok (l, s)
    else bindR (takeR ts s) fun t s' => bindR (binF ts f ((infixOf (tk ts s.i).text).2 + 1) s') fun r s'' => loopF ts f least (.mk 9 (infixOf (tk ts s.i).text).1 [] 0 t.pos [l, r]) s''
def unF (ts : List Tok) : Nat → St → R Ex
  | 0, _ => gone
  | f + 1, s =>
    if prefixOf (tk ts s.i).text = 0 then opF ts f s
    else bindR (takeR ts s) fun _ s' => bindR (unF ts f s') fun x s'' => .ok (.mk 8 (prefixOf (tk ts s.i).text) [] 0 (tk ts s.i).pos [x], s'')
def opF (ts : List Tok) : Nat → St → R Ex
  | 0, _ => gone
  | f + 1, s =>
    if (tk ts s.i).kind = 3 then bindR (takeR ts s) fun t s' => .ok (.mk 1 0 [] t.num (tk ts s.i).pos [], s')
    else if (tk ts s.i).kind = 1 then bindR (takeR ts s) fun t s' => useF ts f t s'
    else if (tk ts s.i).text = [116, 114, 117, 101] then bindR (takeR ts s) fun _ s' => .ok (.mk 2 0 [] 1 (tk ts s.i).pos [], s')
    else if (tk ts s.i).text = [102, 97, 108, 115, 101] then bindR (takeR ts s) fun _ s' => .ok (.mk 2 0 [] 0 (tk ts s.i).pos [], s')
    else if (tk ts s.i).text = [114, 101, 97, 100] then bindR (takeR ts s) fun _ s' => bindR (expectR [40] ts s') fun _ s' => bindR (expectR [41] ts s') fun _ s' => .ok (.mk 6 0 [] 0 (tk ts s.i).pos [], s')
    else if (tk ts s.i).text = [108, 101, 110] then bindR (takeR ts s) fun _ s' => bindR (expectR [40] ts s') fun _ s' => bindR (kindR 1 ts s') fun t s' => bindR (expectR [41] ts s') fun _ s' => .ok (.mk 7 0 t.text 0 (tk ts s.i).pos [], s')
    else if (tk ts s.i).text = [40] then bindR (takeR ts s) fun _ s' => bindR (binF ts f 1 s') fun x s' => bindR (expectR [41] ts s') fun _ s' => .ok (x, s')
    else wrongR ts s
def useF (ts : List Tok) : Nat → Tok → St → R Ex
  | 0, _, _ => gone
  | f + 1, u, s =>
    if (tk ts s.i).text = [91] then bindR (placeB ts (binF ts f 1) s) fun x s' => .ok (.mk 4 0 u.text 0 u.pos [x], s')
    else if (tk ts s.i).text = [40] then bindR (listB ts (binF ts f 1) f s) fun l s' => .ok (.mk 5 0 u.text 0 u.pos l, s')
    else .ok (.mk 3 0 u.text 0 u.pos [], s)
end
/-- A call of a name. -/
def callF (ts : List Tok) (f : Nat) (u : Tok) (s : St) : R Ex := bindR (listB ts (binF ts f 1) f s) fun l s => .ok (.mk 5 0 u.text 0 u.pos l, s)

/-- A type's name, one of some. -/
def typeR (ts : List Tok) : List Nat → St → R Nat
  | [], s => wrongR ts s
  | k :: ks, s => if (tk ts s.i).text = nameOf k then bindR (takeR ts s) fun _ s' => .ok (k, s') else typeR ts ks s

/-- A cell's place in its brackets: its expression. -/
def placeF (ts : List Tok) (f : Nat) (s : St) : R Ex := placeB ts (binF ts f 1) s
/-- A statement that begins with a name: a variable set, a cell set, a call. -/
def namedF (ts : List Tok) (f id pos : Nat) (s : St) : R Sm :=
  bindR (kindR 1 ts s) fun t s =>
  if (tk ts s.i).text = [61] then bindR (takeR ts s) fun _ s => bindR (binF ts f 1 s) fun x s => bindR (expectR [59] ts s) fun _ s => .ok (.mk 2 id t.text 0 0 pos [x] [] [], s)
  else if (tk ts s.i).text = [91] then bindR (placeF ts f s) fun x s => bindR (expectR [61] ts s) fun _ s => bindR (binF ts f 1 s) fun y s => bindR (expectR [59] ts s) fun _ s => .ok (.mk 3 id t.text 0 0 pos [x, y] [] [], s)
  else if (tk ts s.i).text = [40] then bindR (callF ts f t s) fun x s => bindR (expectR [59] ts s) fun _ s => .ok (.mk 8 id [] 0 0 pos [x] [] [], s)
  else wrongR ts s
def letF (ts : List Tok) (f id pos : Nat) (s : St) : R Sm :=
  bindR (expectR [108, 101, 116] ts s) fun _ s => bindR (kindR 1 ts s) fun t s => bindR (expectR [58] ts s) fun _ s => bindR (typeR ts [1, 2, 3] s) fun y s =>
  if y = 3 then bindR (expectR [91] ts s) fun _ s => bindR (kindR 3 ts s) fun u s => bindR (expectR [93] ts s) fun _ s => bindR (expectR [59] ts s) fun _ s => .ok (.mk 1 id t.text 3 u.num pos [] [] [], s)
  else if (tk ts s.i).text = [61] then bindR (takeR ts s) fun _ s => bindR (binF ts f 1 s) fun x s => bindR (expectR [59] ts s) fun _ s => .ok (.mk 1 id t.text y 0 pos [x] [] [], s)
  else bindR (expectR [59] ts s) fun _ s => .ok (.mk 1 id t.text y 0 pos [] [] [], s)
/-- What an if's blocks are read by. -/
def choiceB (ts : List Tok) (f id pos : Nat) (blk : St → R (List Sm)) (s : St) : R Sm :=
  bindR (expectR [105, 102] ts s) fun _ s => bindR (binF ts f 1 s) fun x s => bindR (blk s) fun b s =>
  if (tk ts s.i).text = [101, 108, 115, 101] then bindR (takeR ts s) fun _ s => bindR (blk s) fun c s => .ok (.mk 4 id [] 0 0 pos [x] b c, s)
  else .ok (.mk 4 id [] 0 0 pos [x] b [], s)
def whileB (ts : List Tok) (f id pos : Nat) (blk : St → R (List Sm)) (s : St) : R Sm :=
  bindR (takeR ts s) fun _ s => bindR (binF ts f 1 s) fun x s => bindR (blk s) fun b s => .ok (.mk 5 id [] 0 0 pos [x] b [], s)
def returnF (ts : List Tok) (f id pos : Nat) (s : St) : R Sm :=
  bindR (takeR ts s) fun _ s => if (tk ts s.i).text = [59] then bindR (expectR [59] ts s) fun _ s => .ok (.mk 6 id [] 0 0 pos [] [] [], s)
    else bindR (binF ts f 1 s) fun x s => bindR (expectR [59] ts s) fun _ s => .ok (.mk 6 id [] 0 0 pos [x] [] [], s)
def printF (ts : List Tok) (f id pos : Nat) (s : St) : R Sm :=
  bindR (takeR ts s) fun _ s => bindR (binF ts f 1 s) fun x s => bindR (expectR [59] ts s) fun _ s => .ok (.mk 7 id [] 0 0 pos [x] [] [], s)

mutual
def blockF (ts : List Tok) : Nat → St → R (List Sm)
  | 0, _ => gone
  | f + 1, s => bindR (expectR [123] ts s) fun _ s => bindR (bodyF ts f [] s) fun l s => bindR (expectR [125] ts s) fun _ s => .ok (l, s)
def bodyF (ts : List Tok) : Nat → List Sm → St → R (List Sm)
  | 0, _, _ => gone
  | f + 1, l, s => if (tk ts s.i).text = [125] then .ok (l, s) else bindR (smF ts f s) fun x s => bodyF ts f (l ++ [x]) s
def smF (ts : List Tok) : Nat → St → R Sm
  | 0, _ => gone
  | f + 1, s0 =>
    if (tk ts s0.i).kind = 1 then namedF ts f (s0.n + 1) (tk ts s0.i).pos ⟨s0.i, s0.o, s0.n + 1⟩
    else if (tk ts s0.i).text = [108, 101, 116] then letF ts f (s0.n + 1) (tk ts s0.i).pos ⟨s0.i, s0.o, s0.n + 1⟩
    else if (tk ts s0.i).text = [105, 102] then choiceB ts f (s0.n + 1) (tk ts s0.i).pos (blockF ts f) ⟨s0.i, s0.o, s0.n + 1⟩
    else if (tk ts s0.i).text = [119, 104, 105, 108, 101] then whileB ts f (s0.n + 1) (tk ts s0.i).pos (blockF ts f) ⟨s0.i, s0.o, s0.n + 1⟩
    else if (tk ts s0.i).text = [114, 101, 116, 117, 114, 110] then returnF ts f (s0.n + 1) (tk ts s0.i).pos ⟨s0.i, s0.o, s0.n + 1⟩
    else if (tk ts s0.i).text = [112, 114, 105, 110, 116] then printF ts f (s0.n + 1) (tk ts s0.i).pos ⟨s0.i, s0.o, s0.n + 1⟩
    else wrongR ts s0
end

def pmF (ts : List Tok) (s : St) : R Pm :=
  bindR (kindR 1 ts s) fun t s => bindR (expectR [58] ts s) fun _ s => bindR (typeR ts [1, 2, 3] s) fun y s => .ok (⟨t.text, y, t.pos⟩, s)
def fuF (ts : List Tok) (f : Nat) (s : St) : R Fu :=
  bindR (expectR [102, 110] ts s) fun t s => bindR (kindR 1 ts s) fun u s => bindR (listB ts (pmF ts) f s) fun l s =>
  bindR (if (tk ts s.i).text = [58] then bindR (takeR ts s) fun _ s => typeR ts [1, 2] s else .ok (0, s)) fun y s => bindR (blockF ts f s) fun b s => .ok (⟨u.text, l, y, b, t.pos⟩, s)
def fusF (ts : List Tok) : Nat → List Fu → St → R (List Fu)
  | 0, _, _ => gone
  | f + 1, l, s => bindR (fuF ts f s) fun x s => if (tk ts s.i).kind = 0 then .ok (l ++ [x], s) else fusF ts f (l ++ [x]) s

abbrev PRes := Except (Nat × Nat) (List Fu)
def fuel (ts : List Tok) : Nat := 8 * ts.length + 16
def progF (ts : List Tok) : PRes := match fusF ts (fuel ts) [] ⟨0, 0, 0⟩ with
  | .error e => .error e
  | .ok (l, _) => .ok l
/-- What a text is parsed as. -/
def parse (l : Bytes) : PRes := match Lx.scan l with
  | .error e => .error e
  | .ok ts => progF ts
end Go.Proofs.YtcgllooeimacdaaGreatDoor.Px

/-! How trees lie in memory: expressions, statements, parameters, functions as rows of cells; what a parser's block holds; and that all of it stays where other blocks are written. -/

namespace Go.Proofs.YtcgllooeimacdaaGreatDoor
open Go Go.RowKit Px
open Lx (Tok)

/-- A row of a list: nil where the list is empty; else a block that may be one, whose first cells are the list's. -/
def RowW {α : Type} (w : World) (ok : Nat → Prop) (E size : Nat) (P : List α → List Value → Prop) (l : List α) (sv : Value) : Prop :=
  (l = [] ∧ sv = .slice none 0 0) ∨ ∃ g cap xs, sv = .slice (some ⟨g, 0, none⟩) l.length cap ∧ ok g ∧ w.ownsRow 0 E size sv l.length xs ∧ P l xs

mutual
def ExC (w : World) (ok : Nat → Prop) : Ex → List Value → Prop
  | .mk k op nm n pos args, cs => ∃ sv, cs = [.int .u8 (k : Int), .int .u8 (op : Int), .string ⟨nm.toArray⟩, .int .i64 (n : Int), .int .i64 (pos : Int), sv] ∧
      ((args = [] ∧ sv = .slice none 0 0) ∨ ∃ g cap xs, sv = .slice (some ⟨g, 0, none⟩) args.length cap ∧ ok g ∧ w.ownsRow 0 36 6 sv args.length xs ∧ ExsC w ok args xs)
def ExsC (w : World) (ok : Nat → Prop) : List Ex → List Value → Prop
  | [], cs => cs = []
  | x :: l, cs => ∃ c d, cs = c ++ d ∧ ExC w ok x c ∧ ExsC w ok l d
end
abbrev ExRow (w : World) (ok : Nat → Prop) (l : List Ex) (sv : Value) : Prop := RowW w ok 36 6 (ExsC w ok) l sv

mutual
def SmC (w : World) (ok : Nat → Prop) : Sm → List Value → Prop
  | .mk k id nm t n pos exprs body els, cs => ∃ v1 v2 v3, cs = [.int .u8 (k : Int), .int .i64 (id : Int), .string ⟨nm.toArray⟩, .int .u8 (t : Int), .int .i64 (n : Int), .int .i64 (pos : Int), v1, v2, v3] ∧
      ExRow w ok exprs v1 ∧
      ((body = [] ∧ v2 = .slice none 0 0) ∨ ∃ g cap xs, v2 = .slice (some ⟨g, 0, none⟩) body.length cap ∧ ok g ∧ w.ownsRow 0 39 9 v2 body.length xs ∧ SmsC w ok body xs) ∧
      ((els = [] ∧ v3 = .slice none 0 0) ∨ ∃ g cap xs, v3 = .slice (some ⟨g, 0, none⟩) els.length cap ∧ ok g ∧ w.ownsRow 0 39 9 v3 els.length xs ∧ SmsC w ok els xs)
def SmsC (w : World) (ok : Nat → Prop) : List Sm → List Value → Prop
  | [], cs => cs = []
  | x :: l, cs => ∃ c d, cs = c ++ d ∧ SmC w ok x c ∧ SmsC w ok l d
end
abbrev SmRow (w : World) (ok : Nat → Prop) (l : List Sm) (sv : Value) : Prop := RowW w ok 39 9 (SmsC w ok) l sv

def PmC (p : Pm) : List Value := [.string ⟨p.name.toArray⟩, .int .u8 (p.typ : Int), .int .i64 (p.pos : Int)]
abbrev PmRow (w : World) (ok : Nat → Prop) (l : List Pm) (sv : Value) : Prop := RowW w ok 76 3 (fun l xs => xs = l.flatMap PmC) l sv
def FuC (w : World) (ok : Nat → Prop) (f : Fu) (cs : List Value) : Prop := ∃ v1 v2, cs = [.string ⟨f.name.toArray⟩, v1, .int .u8 (f.result : Int), v2, .int .i64 (f.pos : Int)] ∧ PmRow w ok f.params v1 ∧ SmRow w ok f.body v2
def FusC (w : World) (ok : Nat → Prop) : List Fu → List Value → Prop
  | [], cs => cs = []
  | x :: l, cs => ∃ c d, cs = c ++ d ∧ FuC w ok x c ∧ FusC w ok l d
abbrev FuRow (w : World) (ok : Nat → Prop) (l : List Fu) (sv : Value) : Prop := RowW w ok 42 5 (FusC w ok) l sv

/-- Blocks that may be a tree's lie in the other world as they lay. -/
def Stays (w : World) (ok : Nat → Prop) (w' : World) (ok' : Nat → Prop) : Prop := ∀ g, ok g → g < w.heap.size → w'.heap[g]? = w.heap[g]? ∧ ok' g

theorem owns_stays {w w' : World} {E size n g cap m : Nat} {xs : List Value} (h : w.ownsRow 0 E size (.slice (some ⟨g, 0, none⟩) m cap) n xs) (hb : w'.heap[g]? = w.heap[g]?) : w'.ownsRow 0 E size (.slice (some ⟨g, 0, none⟩) m cap) n xs := by
  obtain ⟨h1, h2⟩ := h
  refine ⟨h1, ?_⟩
  rcases h2 with ⟨h2, _⟩ | ⟨g', cap', cur, hv, hg, hc, r⟩
  · cases h2
  · cases hv
    exact Or.inr ⟨_, _, cur, rfl, hg, hb.trans hc, r⟩
theorem owns_lt {w : World} {E size n g cap m : Nat} {xs : List Value} (h : w.ownsRow 0 E size (.slice (some ⟨g, 0, none⟩) m cap) n xs) : g < w.heap.size := (h.lt g rfl).2

theorem RowW.stays {α : Type} {w w' : World} {ok ok' : Nat → Prop} {E size : Nat} {P P' : List α → List Value → Prop} {l : List α} {sv : Value} (h : RowW w ok E size P l sv) (hs : Stays w ok w' ok') (hP : ∀ xs, P l xs → P' l xs) :
    RowW w' ok' E size P' l sv := by
  rcases h with h | ⟨g, cap, xs, rfl, hg, ho, hp⟩
  · exact Or.inl h
  · obtain ⟨h1, h2⟩ := hs g hg (owns_lt ho)
    exact Or.inr ⟨g, cap, xs, rfl, h2, owns_stays ho h1, hP _ hp⟩

mutual
theorem ExC.stays {w w' : World} {ok ok' : Nat → Prop} (hs : Stays w ok w' ok') : ∀ (x : Ex) (cs : List Value), ExC w ok x cs → ExC w' ok' x cs
  | .mk k op nm n pos args, cs, h => by
    simp only [ExC] at h ⊢
    obtain ⟨sv, h1, h2⟩ := h
    refine ⟨sv, h1, ?_⟩
    rcases h2 with h2 | ⟨g, cap, xs, rfl, hg, ho, hp⟩
    · exact Or.inl h2
    · obtain ⟨h3, h4⟩ := hs g hg (owns_lt ho)
      exact Or.inr ⟨g, cap, xs, rfl, h4, owns_stays ho h3, ExsC.stays hs args xs hp⟩
theorem ExsC.stays {w w' : World} {ok ok' : Nat → Prop} (hs : Stays w ok w' ok') : ∀ (l : List Ex) (cs : List Value), ExsC w ok l cs → ExsC w' ok' l cs
  | [], cs, h => by simpa only [ExsC] using h
  | x :: l, cs, h => by
    simp only [ExsC] at h ⊢
    obtain ⟨c, d, h1, h2, h3⟩ := h
    exact ⟨c, d, h1, ExC.stays hs x c h2, ExsC.stays hs l d h3⟩
end
theorem ExRow.stays {w w' : World} {ok ok' : Nat → Prop} {l : List Ex} {sv : Value} (hs : Stays w ok w' ok') (h : ExRow w ok l sv) : ExRow w' ok' l sv := RowW.stays h hs fun xs => ExsC.stays hs l xs

mutual
theorem SmC.stays {w w' : World} {ok ok' : Nat → Prop} (hs : Stays w ok w' ok') : ∀ (x : Sm) (cs : List Value), SmC w ok x cs → SmC w' ok' x cs
  | .mk k id nm t n pos exprs body els, cs, h => by
    simp only [SmC] at h ⊢
    obtain ⟨v1, v2, v3, h1, h2, h3, h4⟩ := h
    refine ⟨v1, v2, v3, h1, ExRow.stays hs h2, ?_, ?_⟩
    · rcases h3 with h3 | ⟨g, cap, xs, rfl, hg, ho, hp⟩
      · exact Or.inl h3
      · obtain ⟨h5, h6⟩ := hs g hg (owns_lt ho)
        exact Or.inr ⟨g, cap, xs, rfl, h6, owns_stays ho h5, SmsC.stays hs body xs hp⟩
    · rcases h4 with h3 | ⟨g, cap, xs, rfl, hg, ho, hp⟩
      · exact Or.inl h3
      · obtain ⟨h5, h6⟩ := hs g hg (owns_lt ho)
        exact Or.inr ⟨g, cap, xs, rfl, h6, owns_stays ho h5, SmsC.stays hs els xs hp⟩
theorem SmsC.stays {w w' : World} {ok ok' : Nat → Prop} (hs : Stays w ok w' ok') : ∀ (l : List Sm) (cs : List Value), SmsC w ok l cs → SmsC w' ok' l cs
  | [], cs, h => by simpa only [SmsC] using h
  | x :: l, cs, h => by
    simp only [SmsC] at h ⊢
    obtain ⟨c, d, h1, h2, h3⟩ := h
    exact ⟨c, d, h1, SmC.stays hs x c h2, SmsC.stays hs l d h3⟩
end
theorem SmRow.stays {w w' : World} {ok ok' : Nat → Prop} {l : List Sm} {sv : Value} (hs : Stays w ok w' ok') (h : SmRow w ok l sv) : SmRow w' ok' l sv := RowW.stays h hs fun xs => SmsC.stays hs l xs
theorem PmRow.stays {w w' : World} {ok ok' : Nat → Prop} {l : List Pm} {sv : Value} (hs : Stays w ok w' ok') (h : PmRow w ok l sv) : PmRow w' ok' l sv := RowW.stays h hs fun _ h => h
theorem FuC.stays {w w' : World} {ok ok' : Nat → Prop} (hs : Stays w ok w' ok') {x : Fu} {cs : List Value} (h : FuC w ok x cs) : FuC w' ok' x cs := by
  obtain ⟨v1, v2, h1, h2, h3⟩ := h
  exact ⟨v1, v2, h1, PmRow.stays hs h2, SmRow.stays hs h3⟩
theorem FusC.stays {w w' : World} {ok ok' : Nat → Prop} (hs : Stays w ok w' ok') : ∀ (l : List Fu) (cs : List Value), FusC w ok l cs → FusC w' ok' l cs
  | [], cs, h => h
  | x :: l, cs, h => by
    obtain ⟨c, d, h1, h2, h3⟩ := h
    exact ⟨c, d, h1, h2.stays hs, FusC.stays hs l d h3⟩
theorem FuRow.stays {w w' : World} {ok ok' : Nat → Prop} {l : List Fu} {sv : Value} (hs : Stays w ok w' ok') (h : FuRow w ok l sv) : FuRow w' ok' l sv := RowW.stays h hs fun xs => FusC.stays hs l xs

theorem ExsC_snoc {w : World} {ok : Nat → Prop} {x : Ex} {c : List Value} (hx : ExC w ok x c) : ∀ (l : List Ex) (xs : List Value), ExsC w ok l xs → ExsC w ok (l ++ [x]) (xs ++ c)
  | [], xs, h => by
    simp only [ExsC] at h; subst h
    simp only [List.nil_append, ExsC]
    exact ⟨c, [], by simp, hx, rfl⟩
  | y :: l, xs, h => by
    simp only [ExsC] at h
    obtain ⟨a, d, rfl, h2, h3⟩ := h
    simp only [List.cons_append, ExsC]
    exact ⟨a, d ++ c, by simp, h2, ExsC_snoc hx l d h3⟩
theorem SmsC_snoc {w : World} {ok : Nat → Prop} {x : Sm} {c : List Value} (hx : SmC w ok x c) : ∀ (l : List Sm) (xs : List Value), SmsC w ok l xs → SmsC w ok (l ++ [x]) (xs ++ c)
  | [], xs, h => by
    simp only [SmsC] at h; subst h
    simp only [List.nil_append, SmsC]
    exact ⟨c, [], by simp, hx, rfl⟩
  | y :: l, xs, h => by
    simp only [SmsC] at h
    obtain ⟨a, d, rfl, h2, h3⟩ := h
    simp only [List.cons_append, SmsC]
    exact ⟨a, d ++ c, by simp, h2, SmsC_snoc hx l d h3⟩
theorem FusC_snoc {w : World} {ok : Nat → Prop} {x : Fu} {c : List Value} (hx : FuC w ok x c) : ∀ (l : List Fu) (xs : List Value), FusC w ok l xs → FusC w ok (l ++ [x]) (xs ++ c)
  | [], xs, h => by
    simp only [FusC] at h; subst h
    exact ⟨c, [], by simp, hx, rfl⟩
  | y :: l, xs, h => by
    obtain ⟨a, d, rfl, h2, h3⟩ := h
    exact ⟨a, d ++ c, by simp, h2, FusC_snoc hx l d h3⟩
end Go.Proofs.YtcgllooeimacdaaGreatDoor
