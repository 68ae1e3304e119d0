/-
  Joined: TRdM, TRdR, TRdE, TRdS, TRdP, TRdW, TRdW2, TRdX.
-/
import Derived.Test.YtcgllooeimacdaaGreatDoorTBal
import Derived.Test.YtcgllooeimacdaaGreatDoorTNum
import Derived.Test.YtcgllooeimacdaaGreatDoorPlain2
import Derived.Test.YtcgllooeimacdaaGreatDoorTRefS
import Derived.Test.YtcgllooeimacdaaGreatDoorTFun
import Derived.Deep.LoopGhost
/-! The reference's own parser, mirrored plainly: a reader that keeps its first fault; 'none' is what isn't gone through. -/

namespace Go.Proofs.YtcgllooeimacdaaGreatDoor.Px
open Lx (Tok)

/-- The reference's reader: its next token, how many brackets are open, how many statements have begun, the first fault and its place. -/
structure RdS where
  i : Nat
  o : Int
  n : Nat
  pl : Nat
  e : Nat
def inj (s : St) : RdS := ⟨s.i, s.o, s.n, 0, 0⟩
abbrev MO (α : Type) := Option (α × RdS)
def bindO {α β : Type} (m : MO α) (k : α → RdS → MO β) : MO β := match m with
  | none => none
  | some (a, s) => k a s
theorem bindO_some {α β : Type} (a : α) (s : RdS) (k : α → RdS → MO β) : bindO (some (a, s)) k = k a s := rfl
theorem bindO_inv {α β : Type} {m : MO α} {k : α → RdS → MO β} {p : β × RdS} (h : bindO m k = some p) : ∃ a s, m = some (a, s) ∧ k a s = some p := by
  rcases m with _ | ⟨a, s⟩
  · cases h
  · exact ⟨a, s, rfl, h⟩

def tokZ : Tok := ⟨0, 0, [], 0⟩
def exZ : Ex := .mk 0 0 [] 0 0 []
def nowM (ts : List Tok) (s : RdS) : MO Tok := if s.e = 0 then (if s.i < ts.length then some (tk ts s.i, s) else none) else some (tokZ, s)
def failM (ts : List Tok) (n : Nat) (s : RdS) : MO Unit := if s.e = 0 then (if s.i < ts.length then some ((), ⟨s.i, s.o, s.n, (tk ts s.i).pos, n⟩) else none) else some ((), s)
def isT (x : Bytes) (t : Tok) : Bool := (t.kind == 2 || t.kind == 4) && t.text == x
def isM (ts : List Tok) (x : Bytes) (s : RdS) : MO Bool := bindO (nowM ts s) fun t s => some (isT x t, s)
def skipM (ts : List Tok) (x : Bytes) (s : RdS) : MO Unit := bindO (isM ts x s) fun b s => if b = false then failM ts 4 s else
  if opensB x then (if s.o = 200 then failM ts 5 s else if s.o < 200 ∧ -1000000 < s.o then some ((), ⟨s.i + 1, s.o + 1, s.n, s.pl, s.e⟩) else none)
  else if closesB x then (if s.o ≤ 200 ∧ -1000000 < s.o then some ((), ⟨s.i + 1, s.o - 1, s.n, s.pl, s.e⟩) else none)
  else some ((), ⟨s.i + 1, s.o, s.n, s.pl, s.e⟩)
def hasM (ts : List Tok) (x : Bytes) (s : RdS) : MO Bool := bindO (isM ts x s) fun b s => if b = false then some (false, s) else bindO (skipM ts x s) fun _ s => some (s.e == 0, s)
def nameM (ts : List Tok) (s : RdS) : MO Bytes := bindO (nowM ts s) fun t s => if t.kind = 1 then some (t.text, ⟨s.i + 1, s.o, s.n, s.pl, s.e⟩) else bindO (failM ts 4 s) fun _ s => some ([], s)
def typedL (ts : List Tok) (arr : Bool) : List Nat → RdS → MO Nat
  | [], s => bindO (failM ts 4 s) fun _ s => some (0, s)
  | k :: ks, s => if (decide (k < 3) || arr) = true then bindO (hasM ts (nameOf k) s) fun b s => if b = true then some (k, s) else typedL ts arr ks s else typedL ts arr ks s
def typedM (ts : List Tok) (arr : Bool) (s : RdS) : MO Nat := typedL ts arr [1, 2, 3] s
/-- The last operation of a strength whose sign a token is. -/
def opAt (k : Nat) (t : Tok) : Nat → Nat → Nat → Nat
  | 0, _, a => a
  | n + 1, o, a => opAt k t n (o + 1) (if (signOf o).2 = k ∧ isT (signOf o).1 t = true then o else a)

mutual
def levelM (ts : List Tok) : Nat → Nat → RdS → MO Ex
  | 0, _, _ => none
  | f + 1, k, s => if s.e = 0 then (if k = 11 then unaryM ts f s else bindO (levelM ts f (k + 1) s) fun l s => levLoopM ts f k l s) else some (exZ, s)
def levLoopM (ts : List Tok) : Nat → Nat → Ex → RdS → MO Ex
  | 0, _, _, _ => none
  | f + 1, k, l, s => if s.e = 0 then (if s.i < ts.length then (if opAt k (tk ts s.i) 18 1 0 = 0 then some (l, s)
      else bindO (levelM ts f (k + 1) ⟨s.i + 1, s.o, s.n, s.pl, s.e⟩) fun r s' => levLoopM ts f k (.mk 9 (opAt k (tk ts s.i) 18 1 0) [] 0 (tk ts s.i).pos [l, r]) s') else none) else some (l, s)
def unaryM (ts : List Tok) : Nat → RdS → MO Ex
  | 0, _ => none
  | f + 1, s => bindO (nowM ts s) fun t s =>
      bindO (hasM ts [45] s) fun b s => if b = true then bindO (unaryM ts f s) fun x s => some (.mk 8 19 [] 0 t.pos [x], s) else
      bindO (hasM ts [126] s) fun b s => if b = true then bindO (unaryM ts f s) fun x s => some (.mk 8 20 [] 0 t.pos [x], s) else
      bindO (hasM ts [33] s) fun b s => if b = true then bindO (unaryM ts f s) fun x s => some (.mk 8 21 [] 0 t.pos [x], s) else operandM ts f t s
def operandM (ts : List Tok) : Nat → Tok → RdS → MO Ex
  | 0, _, _ => none
  | f + 1, t, s => if t.kind = 3 then some (.mk 1 0 [] t.num t.pos [], ⟨s.i + 1, s.o, s.n, s.pl, s.e⟩) else
      bindO (hasM ts [116, 114, 117, 101] s) fun b s => if b = true then some (.mk 2 0 [] 1 t.pos [], s) else
      bindO (hasM ts [102, 97, 108, 115, 101] s) fun b s => if b = true then some (.mk 2 0 [] 0 t.pos [], s) else
      bindO (hasM ts [114, 101, 97, 100] s) fun b s => if b = true then bindO (skipM ts [40] s) fun _ s => bindO (skipM ts [41] s) fun _ s => some (.mk 6 0 [] 0 t.pos [], s) else
      bindO (hasM ts [108, 101, 110] s) fun b s => if b = true then bindO (skipM ts [40] s) fun _ s => bindO (nameM ts s) fun nm s => bindO (skipM ts [41] s) fun _ s => some (.mk 7 0 nm 0 t.pos [], s) else
      bindO (isM ts [40] s) fun b s => if b = true then bindO (skipM ts [40] s) fun _ s => bindO (levelM ts f 1 s) fun x s => bindO (skipM ts [41] s) fun _ s => some (x, s) else
      bindO (nameM ts s) fun nm s => bindO (isM ts [91] s) fun b s => if b = true then bindO (placeM ts f s) fun x s => some (.mk 4 0 nm 0 t.pos [x], s) else
      bindO (isM ts [40] s) fun b s => if b = true then bindO (argsM ts f s) fun l s => some (.mk 5 0 nm 0 t.pos l, s) else some (.mk 3 0 nm 0 t.pos [], s)
def placeM (ts : List Tok) : Nat → RdS → MO Ex
  | 0, _ => none
  | f + 1, s => bindO (skipM ts [91] s) fun _ s => bindO (levelM ts f 1 s) fun x s => bindO (skipM ts [93] s) fun _ s => some (x, s)
def argsM (ts : List Tok) : Nat → RdS → MO (List Ex)
  | 0, _ => none
  | f + 1, s => bindO (skipM ts [40] s) fun _ s => bindO (isM ts [41] s) fun b s =>
      bindO (if b = false ∧ s.e = 0 then bindO (levelM ts f 1 s) fun x s => argLoopM ts f [x] s else some ([], s)) fun l s => bindO (skipM ts [41] s) fun _ s => some (l, s)
def argLoopM (ts : List Tok) : Nat → List Ex → RdS → MO (List Ex)
  | 0, _, _ => none
  | f + 1, l, s => bindO (hasM ts [44] s) fun b s => if b = true then (if l.length < 100000 then bindO (levelM ts f 1 s) fun x s => argLoopM ts f (l ++ [x]) s else none) else some (l, s)
end

def letM (ts : List Tok) (f id pos : Nat) (s : RdS) : MO Sm := bindO (nameM ts s) fun nm s => bindO (skipM ts [58] s) fun _ s => bindO (typedM ts true s) fun y s =>
      if y = 3 then bindO (skipM ts [91] s) fun _ s => bindO (nowM ts s) fun t2 s =>
        bindO (if t2.kind = 3 then some (t2.num, ⟨s.i + 1, s.o, s.n, s.pl, s.e⟩) else bindO (failM ts 4 s) fun _ s => some (0, s)) fun n s =>
        bindO (skipM ts [93] s) fun _ s => bindO (skipM ts [59] s) fun _ s => some (.mk 1 id nm 3 n pos [] [] [], s)
      else bindO (hasM ts [61] s) fun b s => bindO (if b = true then bindO (levelM ts f 1 s) fun x s => some ([x], s) else some ([], s)) fun l s =>
        bindO (skipM ts [59] s) fun _ s => some (.mk 1 id nm y 0 pos l [] [], s)
def namedM (ts : List Tok) (f id pos : Nat) (s : RdS) : MO Sm := bindO (nameM ts s) fun nm s => bindO (isM ts [40] s) fun b s => if b = true then bindO (argsM ts f s) fun l s => bindO (skipM ts [59] s) fun _ s => some (.mk 8 id [] 0 0 pos [.mk 5 0 nm 0 pos l] [] [], s) else
      bindO (isM ts [91] s) fun b s => if b = true then bindO (placeM ts f s) fun x s => bindO (skipM ts [61] s) fun _ s => bindO (levelM ts f 1 s) fun y s => bindO (skipM ts [59] s) fun _ s => some (.mk 3 id nm 0 0 pos [x, y] [] [], s) else
      bindO (skipM ts [61] s) fun _ s => bindO (levelM ts f 1 s) fun x s => bindO (skipM ts [59] s) fun _ s => some (.mk 2 id nm 0 0 pos [x] [] [], s)

/-- A statement behind its number and place. -/
def stmtK (ts : List Tok) (f : Nat) (blk : RdS → MO (List Sm)) (id pos : Nat) (s : RdS) : MO Sm :=
  bindO (hasM ts [108, 101, 116] s) fun b s => if b = true then letM ts f id pos s else
  bindO (hasM ts [105, 102] s) fun b s => if b = true then bindO (levelM ts f 1 s) fun x s => bindO (blk s) fun bl s => bindO (hasM ts [101, 108, 115, 101] s) fun b s =>
    bindO (if b = true then blk s else some ([], s)) fun el s => some (.mk 4 id [] 0 0 pos [x] bl el, s) else
  bindO (hasM ts [119, 104, 105, 108, 101] s) fun b s => if b = true then bindO (levelM ts f 1 s) fun x s => bindO (blk s) fun bl s => some (.mk 5 id [] 0 0 pos [x] bl [], s) else
  bindO (hasM ts [114, 101, 116, 117, 114, 110] s) fun b s => if b = true then bindO (isM ts [59] s) fun b s =>
    bindO (if b = false then bindO (levelM ts f 1 s) fun x s => some ([x], s) else some ([], s)) fun l s => bindO (skipM ts [59] s) fun _ s => some (.mk 6 id [] 0 0 pos l [] [], s) else
  bindO (hasM ts [112, 114, 105, 110, 116] s) fun b s => if b = true then bindO (levelM ts f 1 s) fun x s => bindO (skipM ts [59] s) fun _ s => some (.mk 7 id [] 0 0 pos [x] [] [], s) else
  namedM ts f id pos s

mutual
def blockM (ts : List Tok) : Nat → RdS → MO (List Sm)
  | 0, _ => none
  | f + 1, s => bindO (skipM ts [123] s) fun _ s => bindO (blkLoopM ts f [] s) fun l s => bindO (skipM ts [125] s) fun _ s => some (l, s)
def blkLoopM (ts : List Tok) : Nat → List Sm → RdS → MO (List Sm)
  | 0, _, _ => none
  | f + 1, l, s => if s.e = 0 then bindO (isM ts [125] s) fun b s => if b = false then (if l.length < 100000 then bindO (stmtM ts f s) fun x s => blkLoopM ts f (l ++ [x]) s else none) else some (l, s) else some (l, s)
def stmtM (ts : List Tok) : Nat → RdS → MO Sm
  | 0, _ => none
  | f + 1, s0 => if s0.n < 1000000 then bindO (nowM ts ⟨s0.i, s0.o, s0.n + 1, s0.pl, s0.e⟩) fun t s => stmtK ts f (blockM ts f) (s0.n + 1) t.pos s else none
end

def pmLoopM (ts : List Tok) : Nat → List Pm → RdS → MO (List Pm)
  | 0, _, _ => none
  | f + 1, l, s => if 100000 ≤ l.length then none else bindO (nowM ts s) fun t s => bindO (nameM ts s) fun nm s => bindO (skipM ts [58] s) fun _ s => bindO (typedM ts true s) fun y s =>
      bindO (hasM ts [44] s) fun b s => if b = true then pmLoopM ts f (l ++ [⟨nm, y, t.pos⟩]) s else some (l ++ [⟨nm, y, t.pos⟩], s)
def fnM (ts : List Tok) (f : Nat) (s : RdS) : MO Fu := bindO (nowM ts s) fun t s => bindO (skipM ts [102, 110] s) fun _ s => bindO (nameM ts s) fun nm s => bindO (skipM ts [40] s) fun _ s =>
  bindO (isM ts [41] s) fun b s => bindO (if b = false ∧ s.e = 0 then pmLoopM ts f [] s else some ([], s)) fun ps s => bindO (skipM ts [41] s) fun _ s =>
  bindO (hasM ts [58] s) fun b s => bindO (if b = true then typedM ts false s else some (0, s)) fun y s => bindO (blockM ts f s) fun bl s => some (⟨nm, ps, y, bl, t.pos⟩, s)
def fnsM (ts : List Tok) : Nat → List Fu → RdS → MO (List Fu)
  | 0, _, _ => none
  | f + 1, l, s => if 100000 ≤ l.length then none else bindO (fnM ts f s) fun x s => if s.e = 0 then bindO (nowM ts s) fun t s => if t.kind = 0 then some (l ++ [x], s) else fnsM ts f (l ++ [x]) s else some (l ++ [x], s)

/-! Behind a fault nothing turns. -/
section
variable {ts : List Tok} {s : RdS}
theorem now_c (h : ¬ s.e = 0) : nowM ts s = some (tokZ, s) := by unfold nowM; rw [if_neg h]
theorem fail_c (h : ¬ s.e = 0) (n : Nat) : failM ts n s = some ((), s) := by unfold failM; rw [if_neg h]
theorem is_c (h : ¬ s.e = 0) (x : Bytes) : isM ts x s = some (false, s) := by unfold isM; rw [now_c h]; rfl
theorem skip_c (h : ¬ s.e = 0) (x : Bytes) : skipM ts x s = some ((), s) := by unfold skipM; rw [is_c h]; exact fail_c h 4
theorem has_c (h : ¬ s.e = 0) (x : Bytes) : hasM ts x s = some (false, s) := by unfold hasM; rw [is_c h]; rfl
theorem name_c (h : ¬ s.e = 0) : nameM ts s = some ([], s) := by unfold nameM; rw [now_c h]; show bindO (failM ts 4 s) _ = _; rw [fail_c h]; rfl
theorem typedL_c (h : ¬ s.e = 0) (arr : Bool) : ∀ ks, typedL ts arr ks s = some (0, s)
  | [] => by unfold typedL; rw [fail_c h]; rfl
  | k :: ks => by
    unfold typedL
    split
    · rw [has_c h]; exact typedL_c h arr ks
    · exact typedL_c h arr ks
theorem typed_c (h : ¬ s.e = 0) (arr : Bool) : typedM ts arr s = some (0, s) := typedL_c h arr _
theorem level_c (h : ¬ s.e = 0) (f k : Nat) : levelM ts (f + 1) k s = some (exZ, s) := by rw [levelM, if_neg h]
theorem levLoop_c (h : ¬ s.e = 0) (f k : Nat) (l : Ex) : levLoopM ts (f + 1) k l s = some (l, s) := by rw [levLoopM, if_neg h]
theorem argLoop_c (h : ¬ s.e = 0) (f : Nat) (l : List Ex) : argLoopM ts (f + 1) l s = some (l, s) := by rw [argLoopM, has_c h]; rfl
theorem blkLoop_c (h : ¬ s.e = 0) (f : Nat) (l : List Sm) : blkLoopM ts (f + 1) l s = some (l, s) := by rw [blkLoopM, if_neg h]
theorem block_c (h : ¬ s.e = 0) (f : Nat) : blockM ts (f + 2) s = some ([], s) := by rw [blockM, skip_c h, bindO_some, blkLoop_c h, bindO_some, skip_c h]; rfl
end
end Go.Proofs.YtcgllooeimacdaaGreatDoor.Px

/-! What the program's grammar reads is what the reference's reader reads: basics. -/

namespace Go.Proofs.YtcgllooeimacdaaGreatDoor.Px
open Lx (Tok)

/-- The words and signs that are asked for. -/
def allX : List Bytes := [[102, 110], [108, 101, 116], [105, 102], [101, 108, 115, 101], [119, 104, 105, 108, 101], [114, 101, 116, 117, 114, 110], [112, 114, 105, 110, 116], [116, 114, 117, 101], [102, 97, 108, 115, 101], [114, 101, 97, 100], [108, 101, 110], [105, 110, 116], [98, 111, 111, 108], [97, 114, 114],
  [40], [41], [123], [125], [91], [93], [44], [59], [58], [61], [60], [62], [43], [45], [42], [47], [37], [38], [124], [94], [33], [126], [60, 61], [62, 61], [61, 61], [33, 61], [60, 60], [62, 62], [38, 38], [124, 124]]
/-- Tokens as a text has them. -/
structure Sane (ts : List Tok) : Prop where
  is : ∀ i, i < ts.length → ∀ x ∈ allX, isT x (tk ts i) = ((tk ts i).text == x)
  name : ∀ i, i < ts.length → (tk ts i).kind = 1 ∨ (tk ts i).kind = 3 → opensB (tk ts i).text = false ∧ closesB (tk ts i).text = false
  fin : ∀ i, i < ts.length → (tk ts i).kind ≠ 0 ∨ (tk ts i).text ≠ [] → i + 1 < ts.length
  len : ts.length ≤ 30000

def Fit (ts : List Tok) (s : St) : Prop := s.i < ts.length ∧ -(s.i : Int) ≤ s.o ∧ s.o ≤ 200
def RelN {α β : Type} (ts : List Tok) (c : α → β) (r : R α) (m : MO β) : Prop := match r with
  | .error pn => pn.2 ≠ 99 → pn.2 ≠ 0 ∧ ∃ y s', m = some (y, s') ∧ s'.pl = pn.1 ∧ s'.e = pn.2
  | .ok (x, s') => m = some (c x, inj s') ∧ Fit ts s'
def EvN {α β : Type} (ts : List Tok) (c : α → β) (r : R α) (m : Nat → MO β) : Prop := ∃ F, ∀ F', F ≤ F' → RelN ts c r (m F')

section
variable {α β γ δ : Type} {ts : List Tok}
theorem EvN.of {c : α → β} {r : R α} {m : MO β} (h : RelN ts c r m) : EvN ts c r (fun _ => m) := ⟨0, fun _ _ => h⟩
theorem EvN.gone {c : α → β} {m : Nat → MO β} : EvN ts c (gone (α := α)) m := ⟨0, fun _ _ h => absurd rfl h⟩
theorem EvN.shift {c : α → β} {r : R α} {m : Nat → MO β} (h : EvN ts c r (fun F => m (F + 1))) : EvN ts c r m := by
  obtain ⟨F, h⟩ := h
  refine ⟨F + 1, fun F' hF => ?_⟩
  obtain ⟨G, rfl⟩ : ∃ G, F' = G + 1 := ⟨F' - 1, by omega⟩
  exact h G (by omega)
theorem EvN.bind {c : α → β} {d : γ → δ} {r : R α} {m : Nat → MO β} {k : α → St → R γ} {k' : Nat → β → RdS → MO δ} (h : EvN ts c r m)
    (hk : ∀ x s', r = .ok (x, s') → Fit ts s' → EvN ts d (k x s') (fun F => k' F (c x) (inj s')))
    (hc : ∀ F a s, 4 ≤ F → ¬ s.e = 0 → ∃ z, k' F a s = some (z, s)) : EvN ts d (bindR r k) (fun F => bindO (m F) (k' F)) := by
  obtain ⟨F, h⟩ := h
  rcases r with pn | ⟨x, s'⟩
  · refine ⟨F + 4, fun F' hF hn => ?_⟩
    obtain ⟨h0, y, s', h1, h2, h3⟩ := h F' (by omega) hn
    obtain ⟨z, hz⟩ := hc F' y s' (by omega) (by rw [h3]; exact h0)
    exact ⟨h0, z, s', by show bindO (m F') (k' F') = _; rw [h1]; exact hz, h2, h3⟩
  · obtain ⟨G, hG⟩ := hk x s' rfl (h F (Nat.le_refl _)).2
    refine ⟨max F G, fun F' hF => ?_⟩
    obtain ⟨h1, h2⟩ := h F' (by omega)
    show RelN ts d (k x s') (bindO (m F') (k' F'))
    rw [h1]
    exact hG F' (by omega)
theorem EvN.ret {d : α → β} {x : α} {y : β} {s : St} (hy : y = d x) (h : Fit ts s) : EvN ts d (.ok (x, s)) (fun _ => some (y, inj s)) := ⟨0, fun _ _ => by subst hy; exact ⟨rfl, h⟩⟩

variable {s : St}
theorem now_is (h : s.i < ts.length) : nowM ts (inj s) = some (tk ts s.i, inj s) := by
  unfold nowM
  rw [if_pos (show (inj s).e = 0 from rfl), if_pos (show (inj s).i < ts.length from h)]
  rfl
theorem is_is (hS : Sane ts) (h : s.i < ts.length) {x : Bytes} (hx : x ∈ allX) : isM ts x (inj s) = some ((tk ts s.i).text == x, inj s) := by
  unfold isM
  rw [now_is h, bindO_some, hS.is _ h x hx]
theorem fail_is (h : s.i < ts.length) (n : Nat) (hn : n ≠ 0) (c : α → β) (k : Unit → RdS → MO β) (hc : ∀ s, ¬ s.e = 0 → ∃ z, k () s = some (z, s)) : RelN ts c (.error ((tk ts s.i).pos, n) : R α) (bindO (failM ts n (inj s)) k) := by
  intro _
  unfold failM
  rw [if_pos (show (inj s).e = 0 from rfl), if_pos (show (inj s).i < ts.length from h), bindO_some]
  obtain ⟨z, hz⟩ := hc ⟨s.i, s.o, s.n, (tk ts s.i).pos, n⟩ hn
  exact ⟨hn, z, _, hz, rfl, rfl⟩
theorem allX_ne {x : Bytes} (hx : x ∈ allX) : x ≠ [] := by
  rintro rfl
  exact absurd hx (by decide)
/-- What is taken of a token that stands there. -/
theorem skip_is (hS : Sane ts) (h : Fit ts s) {x : Bytes} (hx : x ∈ allX) (ht : (tk ts s.i).text = x) : RelN ts (fun _ => ()) (takeR ts s) (skipM ts x (inj s)) := by
  have hnext := hS.fin s.i h.1 (Or.inr (by rw [ht]; exact allX_ne hx))
  unfold skipM
  rw [is_is hS h.1 hx, bindO_some, if_neg (by rw [ht]; simp)]
  unfold takeR
  rw [ht]
  have h1 := h.2.1
  have h2 := h.2.2
  by_cases ho : opensB x = true
  · rw [if_pos ho, if_pos ho]
    by_cases h200 : s.o = 200
    · rw [if_pos h200, if_pos (show (inj s).o = 200 from h200)]
      intro _
      unfold failM
      rw [if_pos (show (inj s).e = 0 from rfl), if_pos (show (inj s).i < ts.length from h.1)]
      exact ⟨(show (5 : Nat) ≠ 0 by decide), _, _, rfl, rfl, rfl⟩
    · rw [if_neg h200, if_neg (show ¬ (inj s).o = 200 from h200)]
      by_cases hb : s.o < 200 ∧ -1000000 < s.o
      · rw [if_pos (show (inj s).o < 200 ∧ -1000000 < (inj s).o from hb)]
        exact ⟨rfl, hnext, by show -((s.i + 1 : Nat) : Int) ≤ s.o + 1; omega, by show s.o + 1 ≤ 200; omega⟩
      · exact absurd (show s.o < 200 ∧ -1000000 < s.o by have := h.1; have := hS.len; omega) hb
  · rw [if_neg ho, if_neg ho]
    by_cases hc : closesB x = true
    · rw [if_pos hc, if_pos hc]
      by_cases hb : s.o ≤ 200 ∧ -1000000 < s.o
      · rw [if_pos (show (inj s).o ≤ 200 ∧ -1000000 < (inj s).o from hb)]
        exact ⟨rfl, hnext, by show -((s.i + 1 : Nat) : Int) ≤ s.o - 1; omega, by show s.o - 1 ≤ 200; omega⟩
      · exact absurd (show s.o ≤ 200 ∧ -1000000 < s.o by have := h.1; have := hS.len; omega) hb
    · rw [if_neg hc, if_neg hc]
      exact ⟨rfl, hnext, by show -((s.i + 1 : Nat) : Int) ≤ s.o; omega, h2⟩
theorem wrong_is (h : s.i < ts.length) (c : α → β) (k : Unit → RdS → MO β) (hc : ∀ s, ¬ s.e = 0 → ∃ z, k () s = some (z, s)) : RelN ts c (wrongR (α := α) ts s) (bindO (failM ts 4 (inj s)) k) := fail_is h 4 (by decide) c k hc
theorem bindO_unit (m : MO Unit) : bindO m (fun _ s => some ((), s)) = m := by
  rcases m with _ | ⟨⟨⟩, s⟩ <;> rfl
theorem expect_is (hS : Sane ts) (h : Fit ts s) {x : Bytes} (hx : x ∈ allX) : RelN ts (fun _ => ()) (expectR x ts s) (skipM ts x (inj s)) := by
  unfold expectR
  by_cases ht : (tk ts s.i).text = x
  · rw [if_pos ht]; exact skip_is hS h hx ht
  · rw [if_neg ht]
    unfold skipM
    rw [is_is hS h.1 hx, bindO_some, if_pos (by simpa using ht), ← bindO_unit (failM ts 4 (inj s))]
    exact wrong_is h.1 _ _ fun s _ => ⟨(), rfl⟩
theorem EvN.expect (hS : Sane ts) (h : Fit ts s) {x : Bytes} (hx : x ∈ allX) : EvN ts (fun _ => ()) (expectR x ts s) (fun _ => skipM ts x (inj s)) := .of (expect_is hS h hx)
/-- A token that isn't a sign is taken as it is. -/
theorem take_plain (hS : Sane ts) (h : s.i < ts.length) (hk : (tk ts s.i).kind = 1 ∨ (tk ts s.i).kind = 3) : takeR ts s = .ok (tk ts s.i, ⟨s.i + 1, s.o, s.n⟩) := by
  obtain ⟨h1, h2⟩ := hS.name s.i h hk
  unfold takeR
  rw [if_neg (by rw [h1]; simp), if_neg (by rw [h2]; simp)]
theorem fit_step (hS : Sane ts) (h : Fit ts s) (hk : (tk ts s.i).kind ≠ 0 ∨ (tk ts s.i).text ≠ []) : Fit ts ⟨s.i + 1, s.o, s.n⟩ := by
  have := hS.fin s.i h.1 hk
  have := h.2.1
  have := h.2.2
  exact ⟨by assumption, by show -((s.i + 1 : Nat) : Int) ≤ s.o; omega, by assumption⟩
theorem name_is (hS : Sane ts) (h : Fit ts s) : RelN ts (fun t : Tok => t.text) (kindR 1 ts s) (nameM ts (inj s)) := by
  unfold kindR nameM
  rw [now_is h.1, bindO_some]
  by_cases hk : (tk ts s.i).kind = 1
  · rw [if_pos hk, if_pos hk, take_plain hS h.1 (Or.inl hk)]
    exact ⟨rfl, fit_step hS h (Or.inl (by omega))⟩
  · rw [if_neg hk, if_neg hk]
    exact wrong_is h.1 _ _ fun s _ => ⟨[], rfl⟩
theorem EvN.name (hS : Sane ts) (h : Fit ts s) : EvN ts (fun t : Tok => t.text) (kindR 1 ts s) (fun _ => nameM ts (inj s)) := .of (name_is hS h)
/-- A token asked for, and what follows where it stands there and where it doesn't. -/
theorem EvN.has (hS : Sane ts) (h : Fit ts s) {x : Bytes} (hx : x ∈ allX) {d : γ → δ} {A : Tok → St → R γ} {B : R γ} {k' : Nat → Bool → RdS → MO δ}
    (hA : ∀ t s', takeR ts s = .ok (t, s') → t = tk ts s.i → Fit ts s' → EvN ts d (A t s') (fun F => k' F true (inj s'))) (hB : (tk ts s.i).text ≠ x → EvN ts d B (fun F => k' F false (inj s)))
    (hc : ∀ F s, 4 ≤ F → ¬ s.e = 0 → ∃ z, k' F false s = some (z, s)) : EvN ts d (if (tk ts s.i).text = x then bindR (takeR ts s) A else B) (fun F => bindO (hasM ts x (inj s)) (k' F)) := by
  by_cases ht : (tk ts s.i).text = x
  · rw [if_pos ht]
    have hs := skip_is hS h hx ht
    unfold hasM
    rw [is_is hS h.1 hx, bindO_some, if_neg (by rw [ht]; simp)]
    rcases hr : takeR ts s with pn | ⟨t, s'⟩
    · rw [hr] at hs
      refine ⟨4, fun F hF hn => ?_⟩
      obtain ⟨h0, y, s', h1, h2, h3⟩ := hs hn
      obtain ⟨z, hz⟩ := hc F s' hF (by rw [h3]; exact h0)
      refine ⟨h0, z, s', ?_, h2, h3⟩
      have he : (s'.e == 0) = false := by rw [beq_eq_false_iff_ne, h3]; exact h0
      show bindO (bindO (skipM ts x (inj s)) _) (k' F) = _
      rw [h1, bindO_some, bindO_some, he]
      exact hz
    · rw [hr] at hs
      obtain ⟨F, hF⟩ := hA t s' hr (by
        unfold takeR at hr
        split at hr
        · split at hr
          · cases hr
          · cases hr; rfl
        · split at hr <;> (cases hr; rfl)) hs.2
      refine ⟨F, fun F' h' => ?_⟩
      show RelN ts d (A t s') (bindO (bindO (skipM ts x (inj s)) _) (k' F'))
      rw [hs.1, bindO_some, bindO_some]
      exact hF F' h'
  · rw [if_neg ht]
    unfold hasM
    rw [is_is hS h.1 hx, bindO_some, if_pos (by simpa using ht), ]
    exact hB ht
theorem EvN.is (hS : Sane ts) (h : Fit ts s) {x : Bytes} (hx : x ∈ allX) {d : γ → δ} {r : R γ} {k' : Nat → Bool → RdS → MO δ}
    (hA : EvN ts d r (fun F => k' F ((tk ts s.i).text == x) (inj s))) : EvN ts d r (fun F => bindO (isM ts x (inj s)) (k' F)) := by
  rw [is_is hS h.1 hx]
  exact hA
theorem EvN.now (h : Fit ts s) {d : γ → δ} {r : R γ} {k' : Nat → Tok → RdS → MO δ} (hA : EvN ts d r (fun F => k' F (tk ts s.i) (inj s))) : EvN ts d r (fun F => bindO (nowM ts (inj s)) (k' F)) := by
  rw [now_is h.1]
  exact hA
theorem nameOf_mem {k : Nat} (h : k = 1 ∨ k = 2 ∨ k = 3) : nameOf k ∈ allX := by rcases h with rfl | rfl | rfl <;> decide
theorem EvN.typed (hS : Sane ts) (h : Fit ts s) (arr : Bool) : ∀ (ks l : List Nat), (∀ k ∈ ks, k = 1 ∨ k = 2 ∨ k = 3) → l = ks.filter (fun k => decide (k < 3) || arr) → EvN ts (fun y : Nat => y) (typeR ts l s) (fun _ => typedL ts arr ks (inj s))
  | [], l, _, hl => by
    subst hl
    unfold typedL
    show EvN ts _ (wrongR ts s) _
    exact .of (wrong_is h.1 _ _ fun s _ => ⟨0, rfl⟩)
  | k :: ks, l, hk, hl => by
    unfold typedL
    by_cases hc : (decide (k < 3) || arr) = true
    · rw [if_pos hc]
      rw [List.filter_cons, if_pos hc] at hl
      subst hl
      show EvN ts _ (if (tk ts s.i).text = nameOf k then bindR (takeR ts s) (fun _ s' => .ok (k, s')) else typeR ts _ s) _
      refine EvN.has hS h (nameOf_mem (hk k List.mem_cons_self)) (k' := fun _ b s => if b = true then some (k, s) else typedL ts arr ks s) ?_ ?_ ?_
      · intro t s' _ _ hf
        exact ⟨0, fun _ _ => ⟨rfl, hf⟩⟩
      · intro _
        exact EvN.typed hS h arr ks _ (fun k h => hk k (List.mem_cons_of_mem _ h)) rfl
      · intro F s _ hs
        exact ⟨0, typedL_c hs arr ks⟩
    · rw [if_neg hc]
      rw [List.filter_cons, if_neg hc] at hl
      exact EvN.typed hS h arr ks _ (fun k h => hk k (List.mem_cons_of_mem _ h)) hl
theorem EvN.typedT (hS : Sane ts) (h : Fit ts s) : EvN ts (fun y : Nat => y) (typeR ts [1, 2, 3] s) (fun _ => typedM ts true (inj s)) := EvN.typed hS h true [1, 2, 3] _ (by decide) (by decide)
theorem EvN.typedF (hS : Sane ts) (h : Fit ts s) : EvN ts (fun y : Nat => y) (typeR ts [1, 2] s) (fun _ => typedM ts false (inj s)) := EvN.typed hS h false [1, 2, 3] _ (by decide) (by decide)
end
end Go.Proofs.YtcgllooeimacdaaGreatDoor.Px

/-! What the program's grammar reads of expressions is what the reference's reader reads, level by level. -/

namespace Go.Proofs.YtcgllooeimacdaaGreatDoor.Px
open Lx (Tok)

section
variable {ts : List Tok} {s : RdS} {F : Nat}
theorem level_c4 (hF : 4 ≤ F) (h : ¬ s.e = 0) (k : Nat) : levelM ts F k s = some (exZ, s) := by obtain ⟨G, rfl⟩ : ∃ G, F = G + 1 := ⟨F - 1, by omega⟩; exact level_c h G k
theorem levLoop_c4 (hF : 4 ≤ F) (h : ¬ s.e = 0) (k : Nat) (l : Ex) : levLoopM ts F k l s = some (l, s) := by obtain ⟨G, rfl⟩ : ∃ G, F = G + 1 := ⟨F - 1, by omega⟩; exact levLoop_c h G k l
theorem argLoop_c4 (hF : 4 ≤ F) (h : ¬ s.e = 0) (l : List Ex) : argLoopM ts F l s = some (l, s) := by obtain ⟨G, rfl⟩ : ∃ G, F = G + 1 := ⟨F - 1, by omega⟩; exact argLoop_c h G l
theorem blkLoop_c4 (hF : 4 ≤ F) (h : ¬ s.e = 0) (l : List Sm) : blkLoopM ts F l s = some (l, s) := by obtain ⟨G, rfl⟩ : ∃ G, F = G + 1 := ⟨F - 1, by omega⟩; exact blkLoop_c h G l
theorem block_c4 (hF : 4 ≤ F) (h : ¬ s.e = 0) : blockM ts F s = some ([], s) := by obtain ⟨G, rfl⟩ : ∃ G, F = G + 2 := ⟨F - 2, by omega⟩; exact block_c h G
end

/-! More fuel turns nothing. -/
theorem bindR_mono {α β : Type} {r r' : R α} {k k' : α → St → R β} (h : bindR r k ≠ gone) (hr : r ≠ gone → r' = r) (hk : ∀ x s', k x s' ≠ gone → k' x s' = k x s') : bindR r' k' = bindR r k := by
  rw [hr (bindR_gone h)]
  rcases r with e | ⟨x, s'⟩
  · rfl
  · exact hk x s' h
theorem placeB_mono {α : Type} {ts : List Tok} {it it' : St → R α} (hi : ∀ s, it s ≠ gone → it' s = it s) {s : St} (h : placeB ts it s ≠ gone) : placeB ts it' s = placeB ts it s := by
  unfold placeB at h ⊢
  exact bindR_mono h (fun _ => rfl) fun _ s' h => bindR_mono h (hi s') fun _ _ _ => rfl
theorem itemsB_mono {α : Type} {ts : List Tok} {it it' : St → R α} (hi : ∀ s, it s ≠ gone → it' s = it s) : ∀ (n : Nat) (l : List α) (s : St), itemsB ts it n l s ≠ gone → itemsB ts it' (n + 1) l s = itemsB ts it n l s
  | 0, _, _, h => absurd rfl h
  | n + 1, l, s, h => by
    rw [itemsB] at h ⊢
    rw [itemsB]
    split
    · rename_i hc
      rw [if_pos hc] at h
      exact bindR_mono h (fun _ => rfl) fun _ s' h => bindR_mono h (hi s') fun x s'' h => itemsB_mono hi n _ _ h
    · rfl
theorem listB_mono {α : Type} {ts : List Tok} {it it' : St → R α} (hi : ∀ s, it s ≠ gone → it' s = it s) {n : Nat} {s : St} (h : listB ts it n s ≠ gone) : listB ts it' (n + 1) s = listB ts it n s := by
  unfold listB at h ⊢
  refine bindR_mono h (fun _ => rfl) fun _ s' h => bindR_mono h ?_ fun _ _ _ => rfl
  intro h
  split
  · rfl
  · rename_i hc
    rw [if_neg hc] at h
    exact bindR_mono h (hi s') fun x s'' h => itemsB_mono hi n _ _ h

theorem exprs_mono (ts : List Tok) : ∀ f, (∀ least s, binF ts f least s ≠ gone → binF ts (f + 1) least s = binF ts f least s) ∧ (∀ least l s, loopF ts f least l s ≠ gone → loopF ts (f + 1) least l s = loopF ts f least l s) ∧
    (∀ s, unF ts f s ≠ gone → unF ts (f + 1) s = unF ts f s) ∧ (∀ s, opF ts f s ≠ gone → opF ts (f + 1) s = opF ts f s) ∧ (∀ u s, useF ts f u s ≠ gone → useF ts (f + 1) u s = useF ts f u s)
  | 0 => ⟨(fun _ _ h => absurd (by rw [binF]) h), (fun _ _ _ h => absurd (by rw [loopF]) h), (fun _ h => absurd (by rw [unF]) h), (fun _ h => absurd (by rw [opF]) h), (fun _ _ h => absurd (by rw [useF]) h)⟩
  | f + 1 => by
    obtain ⟨h1, h2, h3, h4, h5⟩ := exprs_mono ts f
    refine ⟨?_, ?_, ?_, ?_, ?_⟩
    · intro least s h
      rw [binF] at h
      rw [binF, binF]
      exact bindR_mono h (h3 s) fun l s' h => h2 least l s' h
    · intro least l s h
      rw [loopF] at h
      rw [loopF, loopF]
      split
      · rfl
      · rename_i hc
        rw [if_neg hc] at h
        exact bindR_mono h (fun _ => rfl) fun t s' h => bindR_mono h (h1 _ s') fun r s'' h => h2 _ _ _ h
    · intro s h
      rw [unF] at h
      rw [unF, unF]
      split
      · rename_i hc
        rw [if_pos hc] at h
        exact h4 s h
      · rename_i hc
        rw [if_neg hc] at h
        exact bindR_mono h (fun _ => rfl) fun t s' h => bindR_mono h (h3 s') fun _ _ _ => rfl
    · intro s h
      rw [opF] at h
      rw [opF, opF]
      split
      · rfl
      rename_i c1
      rw [if_neg c1] at h
      split
      · rename_i c2
        rw [if_pos c2] at h
        exact bindR_mono h (fun _ => rfl) fun t s' h => h5 t s' h
      rename_i c2
      rw [if_neg c2] at h
      split
      · rfl
      rename_i c3
      rw [if_neg c3] at h
      split
      · rfl
      rename_i c4
      rw [if_neg c4] at h
      split
      · rfl
      rename_i c5
      rw [if_neg c5] at h
      split
      · rfl
      rename_i c6
      rw [if_neg c6] at h
      split
      · rename_i c7
        rw [if_pos c7] at h
        exact bindR_mono h (fun _ => rfl) fun t s' h => bindR_mono h (h1 1 s') fun _ _ _ => rfl
      · rfl
    · intro u s h
      rw [useF] at h
      rw [useF, useF]
      split
      · rename_i c1
        rw [if_pos c1] at h
        exact bindR_mono h (placeB_mono (h1 1)) fun _ _ _ => rfl
      rename_i c1
      rw [if_neg c1] at h
      split
      · rename_i c2
        rw [if_pos c2] at h
        exact bindR_mono h (listB_mono (h1 1)) fun _ _ _ => rfl
      · rfl
theorem binF_mono {ts : List Tok} {f k : Nat} {s : St} (h : binF ts f k s ≠ gone) : ∀ g, f ≤ g → binF ts g k s = binF ts f k s := by
  intro g hg
  obtain ⟨d, rfl⟩ : ∃ d, g = f + d := ⟨g - f, by omega⟩
  induction d with
  | zero => rfl
  | succ d ih =>
    have e := ih (by omega)
    rw [← Nat.add_assoc, (exprs_mono ts (f + d)).1 k s (by rw [e]; exact h), e]

/-! Operations of one strength alone. -/
def eqL (ts : List Tok) : Nat → Nat → Ex → St → R Ex
  | 0, _, _, _ => gone
  | f + 1, k, l, s =>
    if (infixOf (tk ts s.i).text).1 = 0 ∨ (infixOf (tk ts s.i).text).2 ≠ k then .ok (l, s)
    else bindR (takeR ts s) fun t s' => bindR (binF ts f (k + 1) s') fun r s'' => eqL ts f k (.mk 9 (infixOf (tk ts s.i).text).1 [] 0 t.pos [l, r]) s''
theorem loopF_stop {ts : List Tok} : ∀ (f k : Nat) (l : Ex) (s : St) (x : Ex) (s' : St), loopF ts f k l s = .ok (x, s') → (infixOf (tk ts s'.i).text).1 = 0 ∨ (infixOf (tk ts s'.i).text).2 < k
  | 0, _, _, _, _, _, h => by rw [loopF] at h; cases h
  | f + 1, k, l, s, x, s', h => by
    rw [loopF] at h
    split at h
    · cases h; assumption
    · obtain ⟨t, s1, _, e2⟩ := bindR_inv h
      obtain ⟨r, s2, _, e4⟩ := bindR_inv e2
      exact loopF_stop f k _ _ _ _ e4
theorem binF_stop {ts : List Tok} {f k : Nat} {s s' : St} {x : Ex} (h : binF ts f k s = .ok (x, s')) : (infixOf (tk ts s'.i).text).1 = 0 ∨ (infixOf (tk ts s'.i).text).2 < k := by
  match f, h with
  | 0, h => rw [binF] at h; cases h
  | f + 1, h =>
    rw [binF] at h
    obtain ⟨l, s1, _, e2⟩ := bindR_inv h
    exact loopF_stop _ _ _ _ _ _ e2
/-- A loop over operations of some strength and more: first those of more, then those of that one. -/
theorem loop_parts (ts : List Tok) : ∀ (f k : Nat) (l : Ex) (s : St), loopF ts f k l s ≠ gone → ∃ F, ∀ F', F ≤ F' → bindR (loopF ts F' (k + 1) l s) (fun l s => eqL ts F' k l s) = loopF ts f k l s
  | 0, _, _, _, h => absurd (by rw [loopF]) h
  | f + 1, k, l, s, h => by
    rw [loopF] at h
    by_cases hst : (infixOf (tk ts s.i).text).1 = 0 ∨ (infixOf (tk ts s.i).text).2 < k
    · refine ⟨1, fun F' hF => ?_⟩
      obtain ⟨G, rfl⟩ : ∃ G, F' = G + 1 := ⟨F' - 1, by omega⟩
      rw [loopF, if_pos (by omega), bindR_ok, eqL, if_pos (by omega), loopF, if_pos hst]
    · rw [if_neg hst] at h
      have hstep : loopF ts (f + 1) k l s = bindR (takeR ts s) fun t s' => bindR (binF ts f ((infixOf (tk ts s.i).text).2 + 1) s') fun r s'' => loopF ts f k (.mk 9 (infixOf (tk ts s.i).text).1 [] 0 t.pos [l, r]) s'' := by rw [loopF, if_neg hst]
      rw [hstep]
      by_cases heq : (infixOf (tk ts s.i).text).2 = k
      · -- of just that strength
        have key : ∀ G, bindR (loopF ts (G + 1) (k + 1) l s) (fun l s => eqL ts (G + 1) k l s) = bindR (takeR ts s) fun t s' => bindR (binF ts G (k + 1) s') fun r s'' => eqL ts G k (.mk 9 (infixOf (tk ts s.i).text).1 [] 0 t.pos [l, r]) s'' := by
          intro G
          rw [loopF, if_pos (by omega), bindR_ok, eqL, if_neg (by omega)]
        rw [heq]
        rcases htk : takeR ts s with pn | ⟨t, s'⟩
        · refine ⟨1, fun F' hF => ?_⟩
          obtain ⟨G, rfl⟩ : ∃ G, F' = G + 1 := ⟨F' - 1, by omega⟩
          rw [key G, htk]; rfl
        · rw [heq, htk, bindR_ok] at h
          have hb := bindR_gone h
          rcases hbr : binF ts f (k + 1) s' with pn | ⟨r, s''⟩
          · refine ⟨f + 1, fun F' hF => ?_⟩
            obtain ⟨G, rfl⟩ : ∃ G, F' = G + 1 := ⟨F' - 1, by omega⟩
            rw [key G, htk, bindR_ok, bindR_ok, binF_mono hb G (by omega), hbr]; rfl
          · rw [hbr, bindR_ok] at h
            obtain ⟨F, hF⟩ := loop_parts ts f k _ s'' h
            refine ⟨f + F + 2, fun F' hF' => ?_⟩
            obtain ⟨G, rfl⟩ : ∃ G, F' = G + 1 := ⟨F' - 1, by omega⟩
            rw [key G, htk, bindR_ok, bindR_ok, binF_mono hb G (by omega), hbr, bindR_ok, bindR_ok, ← hF G (by omega)]
            have hs := binF_stop hbr
            obtain ⟨H, rfl⟩ : ∃ H, G = H + 1 := ⟨G - 1, by omega⟩
            rw [loopF, if_pos hs, bindR_ok]
      · -- of more
        have key : ∀ G, bindR (loopF ts (G + 1) (k + 1) l s) (fun l s => eqL ts (G + 1) k l s) = bindR (takeR ts s) fun t s' => bindR (binF ts G ((infixOf (tk ts s.i).text).2 + 1) s') fun r s'' =>
            bindR (loopF ts G (k + 1) (.mk 9 (infixOf (tk ts s.i).text).1 [] 0 t.pos [l, r]) s'') (fun l s => eqL ts (G + 1) k l s) := by
          intro G
          rw [loopF, if_neg (by omega)]
          rcases takeR ts s with pn | ⟨t, s'⟩
          · rfl
          · rw [bindR_ok, bindR_ok]
            rcases binF ts G ((infixOf (tk ts s.i).text).2 + 1) s' with pn | ⟨r, s''⟩ <;> rfl
        rcases htk : takeR ts s with pn | ⟨t, s'⟩
        · refine ⟨1, fun F' hF => ?_⟩
          obtain ⟨G, rfl⟩ : ∃ G, F' = G + 1 := ⟨F' - 1, by omega⟩
          rw [key G, htk]; rfl
        · rw [htk, bindR_ok] at h
          have hb := bindR_gone h
          rcases hbr : binF ts f ((infixOf (tk ts s.i).text).2 + 1) s' with pn | ⟨r, s''⟩
          · refine ⟨f + 1, fun F' hF => ?_⟩
            obtain ⟨G, rfl⟩ : ∃ G, F' = G + 1 := ⟨F' - 1, by omega⟩
            rw [key G, htk, bindR_ok, bindR_ok, binF_mono hb G (by omega), hbr]; rfl
          · rw [hbr, bindR_ok] at h
            obtain ⟨F, hF⟩ := loop_parts ts f k _ s'' h
            refine ⟨f + F + 2, fun F' hF' => ?_⟩
            obtain ⟨G, rfl⟩ : ∃ G, F' = G + 1 := ⟨F' - 1, by omega⟩
            rw [key G, htk, bindR_ok, bindR_ok, binF_mono hb G (by omega), hbr, bindR_ok, bindR_ok]
            have e1 := hF G (by omega)
            have e2 := hF (G + 1) (by omega)
            have hng : loopF ts G (k + 1) (.mk 9 (infixOf (tk ts s.i).text).1 [] 0 t.pos [l, r]) s'' ≠ gone := fun hc => by
              rw [hc] at e1
              exact h e1.symm
            rw [← (exprs_mono ts G).2.1 _ _ _ hng]
            exact e2

/-! The operation of a token. -/
theorem findOp_has (t : Bytes) : ∀ n op, (findOp t n op).1 ≠ 0 → (signOf (findOp t n op).1).1 = t ∧ op ≤ (findOp t n op).1 ∧ (findOp t n op).1 < op + n
  | 0, op, h => absurd rfl h
  | n + 1, op, h => by
    rw [findOp] at h ⊢
    by_cases hc : (signOf op).1 = t
    · rw [if_pos hc]
      exact ⟨hc, Nat.le_refl _, by omega⟩
    · rw [if_neg hc] at h ⊢
      obtain ⟨h1, h2, h3⟩ := findOp_has t n (op + 1) h
      exact ⟨h1, by omega, by omega⟩
theorem signs_apart : ∀ o : Fin 19, ∀ p : Fin 19, 0 < o.val → o.val < p.val → (signOf o.val).1 ≠ (signOf p.val).1 := by decide
theorem opAt_gen {k : Nat} {t : Tok} (ht : ∀ o, 1 ≤ o → o ≤ 18 → isT (signOf o).1 t = (t.text == (signOf o).1)) : ∀ n o a, o + n = 19 → 1 ≤ o →
    opAt k t n o a = if (findOp t.text n o).1 = 0 then a else if (findOp t.text n o).2 = k then (findOp t.text n o).1 else a
  | 0, o, a, _, _ => by rw [opAt, findOp, if_pos rfl]
  | n + 1, o, a, h1, h2 => by
    rw [opAt, opAt_gen ht n (o + 1) _ (by omega) (by omega), findOp, ht o h2 (by omega)]
    by_cases hc : (signOf o).1 = t.text
    · have hz : (findOp t.text n (o + 1)).1 = 0 := by
        by_cases h0 : (findOp t.text n (o + 1)).1 = 0
        · exact h0
        · obtain ⟨e1, e2, e3⟩ := findOp_has _ _ _ h0
          exact absurd (hc.trans e1.symm) (signs_apart ⟨o, by omega⟩ ⟨(findOp t.text n (o + 1)).1, by omega⟩ (by show 0 < o; omega) (Nat.lt_of_lt_of_le (Nat.lt_succ_self o) e2))
      rw [if_pos hz, if_pos hc, if_neg (show ¬ o = 0 by omega)]
      by_cases hl : (signOf o).2 = k
      · rw [if_pos ⟨hl, by rw [hc]; simp⟩, if_pos hl]
      · rw [if_neg (fun hh => hl hh.1), if_neg hl]
    · rw [if_neg hc, if_neg (show ¬ ((signOf o).2 = k ∧ (t.text == (signOf o).1) = true) from fun hh => hc (by simpa using hh.2 : t.text = (signOf o).1).symm)]
theorem opAt_is {ts : List Tok} (hS : Sane ts) {i : Nat} (hi : i < ts.length) (k : Nat) : opAt k (tk ts i) 18 1 0 = if (infixOf (tk ts i).text).2 = k then (infixOf (tk ts i).text).1 else 0 := by
  rw [opAt_gen (fun o h1 h2 => hS.is i hi _ (by
    have : ∀ o : Fin 19, 0 < o.val → (signOf o.val).1 ∈ allX := by decide
    exact this ⟨o, by omega⟩ h1)) 18 1 0 rfl (by omega)]
  unfold infixOf
  split
  · rename_i h
    rw [h]; simp
  · rfl

theorem has_no {ts : List Tok} {s : St} (hS : Sane ts) (h : s.i < ts.length) {x : Bytes} (hx : x ∈ allX) (ht : (tk ts s.i).text ≠ x) : hasM ts x (inj s) = some (false, inj s) := by
  unfold hasM
  rw [is_is hS h hx, bindO_some, if_pos (by simpa using ht)]
/-- A name, or a number, is none of the words and signs. -/
theorem plain_ne {ts : List Tok} (hS : Sane ts) {i : Nat} (h : i < ts.length) (hk : (tk ts i).kind ≠ 2 ∧ (tk ts i).kind ≠ 4) {x : Bytes} (hx : x ∈ allX) : (tk ts i).text ≠ x := by
  intro e
  have := hS.is i h x hx
  rw [e] at this
  unfold isT at this
  have h2 : ((tk ts i).kind == 2) = false := by simpa using hk.1
  have h4 : ((tk ts i).kind == 4) = false := by simpa using hk.2
  rw [h2, h4] at this
  simp at this

section
variable {ts : List Tok} {f : Nat}
/-- What is known of expressions behind a place. -/
def ExIH (ts : List Tok) (i : Nat) : Prop := ∀ s', Fit ts s' → i < s'.i → (∀ f k, 1 ≤ k → k ≤ 11 → EvN ts (fun x : Ex => x) (binF ts f k s') (fun F => levelM ts F k (inj s'))) ∧ (∀ f, EvN ts (fun x : Ex => x) (unF ts f s') (fun F => unaryM ts F (inj s')))
theorem EvN.items (hS : Sane ts) {i : Nat} (ih : ExIH ts i) (f : Nat) : ∀ (n : Nat) (l : List Ex) (s : St), Fit ts s → i < s.i → l.length ≤ s.i → EvN ts (fun x : List Ex => x) (itemsB ts (binF ts f 1) n l s) (fun F => argLoopM ts F l (inj s))
  | 0, l, s, _, _, _ => EvN.gone
  | n + 1, l, s, hf, hi, hl => by
    refine EvN.shift ?_
    have hl5 : l.length < 100000 := by have := hf.1; have := hS.len; omega
    simp only [argLoopM, itemsB, if_pos hl5]
    refine EvN.has hS hf (x := [44]) (by decide) (k' := fun F b s => if b = true then bindO (levelM ts F 1 s) fun x s => argLoopM ts F (l ++ [x]) s else some (l, s)) ?_ ?_ ?_
    · intro t s1 ht _ hf1
      have hi1 := takeR_i ht
      refine EvN.bind ((ih s1 hf1 (by omega)).1 f 1 (by omega) (by omega)) (fun x s2 hr hf2 => ?_) (fun F a s hF hs => ⟨_, argLoop_c4 hF hs _⟩)
      have := ((exprs_adv ts f).1 _ _ _ _ hr).2
      exact EvN.items hS ih f n _ s2 hf2 (by omega) (by simp; omega)
    · intro _; exact EvN.ret rfl hf
    · intro F s _ _; exact ⟨l, rfl⟩
theorem EvN.list (hS : Sane ts) {s : St} (hf : Fit ts s) (ih : ExIH ts s.i) (f n : Nat) : EvN ts (fun x : List Ex => x) (listB ts (binF ts f 1) n s) (fun F => argsM ts F (inj s)) := by
  refine EvN.shift ?_
  simp only [argsM]
  unfold listB
  refine EvN.bind (EvN.expect hS hf (by decide)) (fun _ s1 hr hf1 => ?_) ?_
  · have hi1 := expectR_i hr
    refine EvN.is hS hf1 (by decide) ?_
    refine EvN.bind (c := fun x : List Ex => x) ?_ (fun l s2 _ hf2 => ?_) (fun F a s _ hs => ⟨a, by rw [skip_c hs]; rfl⟩)
    · by_cases ht : (tk ts s1.i).text = [41]
      · rw [if_pos ht]
        simp only [ht, beq_self_eq_true, Bool.true_eq_false, false_and, if_false]
        exact EvN.ret rfl hf1
      · rw [if_neg ht]
        have hb : ((tk ts s1.i).text == [41]) = false := by simpa using ht
        simp only [hb, true_and, show (inj s1).e = 0 from rfl, if_true]
        refine EvN.bind ((ih s1 hf1 (by omega)).1 f 1 (by omega) (by omega)) (fun x s2 hr2 hf2 => ?_) (fun F a s hF hs => ⟨_, argLoop_c4 hF hs _⟩)
        have := ((exprs_adv ts f).1 _ _ _ _ hr2).2
        exact EvN.items hS ih f n _ s2 hf2 (by omega) (by simp; omega)
    · exact EvN.bind (EvN.expect hS hf2 (by decide)) (fun _ s3 _ hf3 => EvN.ret rfl hf3) (fun F a s _ hs => ⟨_, rfl⟩)
  · intro F a s hF hs
    exact ⟨[], by rw [is_c hs, bindO_some, if_neg (fun h => hs h.2), bindO_some, skip_c hs]; rfl⟩
theorem EvN.place (hS : Sane ts) {s : St} (hf : Fit ts s) (ih : ExIH ts s.i) (f : Nat) : EvN ts (fun x : Ex => x) (placeB ts (binF ts f 1) s) (fun F => placeM ts F (inj s)) := by
  refine EvN.shift ?_
  simp only [placeM]
  unfold placeB
  refine EvN.bind (EvN.expect hS hf (by decide)) (fun _ s1 hr hf1 => ?_) (fun F a s hF hs => ⟨_, by rw [level_c4 hF hs, bindO_some, skip_c hs]; rfl⟩)
  have hi1 := expectR_i hr
  refine EvN.bind ((ih s1 hf1 (by omega)).1 f 1 (by omega) (by omega)) (fun x s2 _ hf2 => ?_) (fun F a s hF hs => ⟨_, by rw [skip_c hs]; rfl⟩)
  exact EvN.bind (EvN.expect hS hf2 (by decide)) (fun _ s3 _ hf3 => EvN.ret rfl hf3) (fun F a s _ hs => ⟨_, rfl⟩)

theorem EvN.operand (hS : Sane ts) {s : St} (hf : Fit ts s) (ih : ExIH ts s.i) : ∀ f, EvN ts (fun x : Ex => x) (opF ts f s) (fun F => operandM ts F (tk ts s.i) (inj s))
  | 0 => by rw [opF]; exact EvN.gone
  | f + 1 => by
    refine EvN.shift ?_
    simp only [operandM, opF]
    by_cases k3 : (tk ts s.i).kind = 3
    · simp only [if_pos k3, take_plain hS hf.1 (Or.inr k3), bindR_ok]
      exact EvN.ret rfl (fit_step hS hf (Or.inl (by omega)))
    simp only [if_neg k3]
    by_cases k1 : (tk ts s.i).kind = 1
    · have hno : ∀ x ∈ allX, (tk ts s.i).text ≠ x := fun x hx => plain_ne hS hf.1 (by omega) hx
      simp only [if_pos k1]
      have e1 := has_no hS hf.1 (by decide) (hno [116, 114, 117, 101] (by decide))
      have e2 := has_no hS hf.1 (by decide) (hno [102, 97, 108, 115, 101] (by decide))
      have e3 := has_no hS hf.1 (by decide) (hno [114, 101, 97, 100] (by decide))
      have e4 := has_no hS hf.1 (by decide) (hno [108, 101, 110] (by decide))
      have e5 := is_is hS hf.1 (x := [40]) (by decide)
      have h40 : ((tk ts s.i).text == [40]) = false := by simpa using hno [40] (by decide)
      simp only [e1, e2, e3, e4, e5, bindO_some, Bool.false_eq_true, if_false, h40]
      have hn := name_is hS hf
      unfold kindR at hn
      rw [if_pos k1, take_plain hS hf.1 (Or.inl k1)] at hn
      rw [take_plain hS hf.1 (Or.inl k1), bindR_ok, hn.1]
      have hf1 := hn.2
      simp only [bindO_some]
      match f with
      | 0 => rw [useF]; exact EvN.gone
      | f + 1 =>
        rw [useF]
        refine EvN.is hS hf1 (by decide) ?_
        have ih1 : ExIH ts (s.i + 1) := fun s' h1 h2 => ih s' h1 (by omega)
        by_cases h91 : (tk ts (s.i + 1)).text = [91]
        · simp only [h91, if_true, beq_self_eq_true]
          exact EvN.bind (EvN.place hS hf1 ih1 f) (fun x s2 _ hf2 => EvN.ret rfl hf2) (fun F a s _ hs => ⟨_, rfl⟩)
        · have hb : ((tk ts (s.i + 1)).text == [91]) = false := by simpa using h91
          simp only [if_neg h91, hb, Bool.false_eq_true, if_false]
          refine EvN.is hS hf1 (by decide) ?_
          by_cases h4 : (tk ts (s.i + 1)).text = [40]
          · simp only [h4, if_true, beq_self_eq_true]
            exact EvN.bind (EvN.list hS hf1 ih1 f f) (fun x s2 _ hf2 => EvN.ret rfl hf2) (fun F a s _ hs => ⟨_, rfl⟩)
          · have hb : ((tk ts (s.i + 1)).text == [40]) = false := by simpa using h4
            simp only [if_neg h4, hb, Bool.false_eq_true, if_false]
            exact EvN.ret rfl hf1
    simp only [if_neg k1]
    have calm : ∀ (F : Nat) (s' : RdS), 4 ≤ F → ¬ s'.e = 0 → ∃ z, (bindO (nameM ts s') fun nm s => bindO (isM ts [91] s) fun b s => if b = true then bindO (placeM ts F s) fun x s => some (Ex.mk 4 0 nm 0 (tk ts s.i).pos [x], s) else
      bindO (isM ts [40] s) fun b s => if b = true then bindO (argsM ts F s) fun l s => some (Ex.mk 5 0 nm 0 0 l, s) else some (Ex.mk 3 0 nm 0 0 [], s)) = some (z, s') := fun F s' _ hs => by
      simp only [name_c hs, is_c hs, bindO_some, Bool.false_eq_true, if_false]
      exact ⟨_, rfl⟩
    refine EvN.has hS hf (by decide) (k' := fun F b s => if b = true then some _ else _) ?_ ?_ ?_
    · intro t s1 _ _ hf1; exact EvN.ret rfl hf1
    · intro _
      refine EvN.has hS hf (by decide) (k' := fun F b s => if b = true then some _ else _) ?_ ?_ ?_
      · intro t s1 _ _ hf1; exact EvN.ret rfl hf1
      · intro _
        refine EvN.has hS hf (by decide) (k' := fun F b s => if b = true then bindO _ _ else _) ?_ ?_ ?_
        · intro t s1 _ _ hf1
          exact EvN.bind (EvN.expect hS hf1 (by decide)) (fun _ s2 _ hf2 => EvN.bind (EvN.expect hS hf2 (by decide)) (fun _ s3 _ hf3 => EvN.ret rfl hf3) (fun F a s _ hs => ⟨_, rfl⟩)) (fun F a s _ hs => ⟨_, by rw [skip_c hs]; rfl⟩)
        · intro _
          refine EvN.has hS hf (by decide) (k' := fun F b s => if b = true then bindO _ _ else _) ?_ ?_ ?_
          · intro t s1 _ _ hf1
            refine EvN.bind (EvN.expect hS hf1 (by decide)) (fun _ s2 _ hf2 => EvN.bind (EvN.name hS hf2) (fun u s3 _ hf3 => EvN.bind (EvN.expect hS hf3 (by decide)) (fun _ s4 _ hf4 => EvN.ret rfl hf4) (fun F a s _ hs => ⟨_, rfl⟩)) (fun F a s _ hs => ⟨_, by rw [skip_c hs]; rfl⟩)) (fun F a s _ hs => ⟨_, by rw [name_c hs, bindO_some, skip_c hs]; rfl⟩)
          · intro _
            refine EvN.is hS hf (by decide) ?_
            by_cases h40 : (tk ts s.i).text = [40]
            · simp only [h40, if_true, beq_self_eq_true]
              refine EvN.bind (c := fun _ => ()) (.of (skip_is hS hf (by decide) h40)) (fun t s1 hr hf1 => ?_) (fun F a s hF hs => ⟨_, by rw [level_c4 hF hs, bindO_some, skip_c hs]; rfl⟩)
              have hi1 := takeR_i hr
              refine EvN.bind ((ih s1 hf1 (by omega)).1 f 1 (by omega) (by omega)) (fun x s2 _ hf2 => ?_) (fun F a s hF hs => ⟨_, by rw [skip_c hs]; rfl⟩)
              exact EvN.bind (EvN.expect hS hf2 (by decide)) (fun _ s3 _ hf3 => EvN.ret rfl hf3) (fun F a s _ hs => ⟨_, rfl⟩)
            · have hb : ((tk ts s.i).text == [40]) = false := by simpa using h40
              simp only [if_neg h40, hb, Bool.false_eq_true, if_false]
              have hn := name_is hS hf
              unfold kindR at hn
              rw [if_neg k1] at hn
              refine ⟨4, fun F hF hne => ?_⟩
              obtain ⟨h0, y, s', h1, h2, h3⟩ := hn hne
              refine ⟨h0, .mk 3 0 y 0 (tk ts s.i).pos [], s', ?_, h2, h3⟩
              have hs : ¬ s'.e = 0 := by rw [h3]; exact h0
              show bindO (nameM ts (inj s)) _ = _
              rw [h1]
              simp only [bindO_some, is_c hs, Bool.false_eq_true, if_false]
          · intro F s' hF hs
            simp only [is_c hs, name_c hs, bindO_some, Bool.false_eq_true, if_false]
            exact ⟨_, rfl⟩
        · intro F s' hF hs
          simp only [has_c hs, is_c hs, name_c hs, bindO_some, Bool.false_eq_true, if_false]
          exact ⟨_, rfl⟩
      · intro F s' hF hs
        simp only [has_c hs, is_c hs, name_c hs, bindO_some, Bool.false_eq_true, if_false]
        exact ⟨_, rfl⟩
    · intro F s' hF hs
      simp only [has_c hs, is_c hs, name_c hs, bindO_some, Bool.false_eq_true, if_false]
      exact ⟨_, rfl⟩

theorem prefix_cases (t : Bytes) : prefixOf t = (if t = [45] then 19 else if t = [126] then 20 else if t = [33] then 21 else 0) := by
  unfold prefixOf
  rw [findOp, findOp, findOp, findOp]
  have h19 : signOf 19 = ([45], 11) := by decide
  have h20 : signOf (19 + 1) = ([126], 11) := by decide
  have h21 : signOf (19 + 1 + 1) = ([33], 11) := by decide
  rw [h19, h20, h21]
  by_cases h1 : t = [45]
  · subst h1; rfl
  · rw [if_neg (fun h => h1 h.symm), if_neg h1]
    by_cases h2 : t = [126]
    · subst h2; rfl
    · rw [if_neg (fun h => h2 h.symm), if_neg h2]
      by_cases h3 : t = [33]
      · subst h3; rfl
      · rw [if_neg (fun h => h3 h.symm), if_neg h3]
theorem EvN.unary (hS : Sane ts) {s : St} (hf : Fit ts s) (ih : ExIH ts s.i) : ∀ f, EvN ts (fun x : Ex => x) (unF ts f s) (fun F => unaryM ts F (inj s))
  | 0 => by rw [unF]; exact EvN.gone
  | f + 1 => by
    refine EvN.shift ?_
    simp only [unaryM, unF]
    refine EvN.now hf ?_
    have hu : ∀ (p : Nat) (t : Tok) (s1 : St), takeR ts s = .ok (t, s1) → Fit ts s1 → EvN ts (fun x : Ex => x) (bindR (unF ts f s1) fun x s'' => .ok (Ex.mk 8 p [] 0 (tk ts s.i).pos [x], s'')) (fun F => bindO (unaryM ts F (inj s1)) fun x s5 => some (Ex.mk 8 p [] 0 (tk ts s.i).pos [x], s5)) := by
      intro p t s1 hr hf1
      have hi1 := takeR_i hr
      exact EvN.bind ((ih s1 hf1 (by omega)).2 f) (fun x s2 _ hf2 => EvN.ret rfl hf2) (fun F a s _ hs => ⟨_, rfl⟩)
    have calm0 : ∀ (F : Nat) (t : Tok) (s' : RdS), 4 ≤ F → ¬ s'.e = 0 → ∃ z, operandM ts F t s' = some (z, s') ∨ t.kind = 3 := fun F t s' hF hs => by
      obtain ⟨G, rfl⟩ : ∃ G, F = G + 1 := ⟨F - 1, by omega⟩
      by_cases h3 : t.kind = 3
      · exact ⟨exZ, Or.inr h3⟩
      · refine ⟨.mk 3 0 [] 0 t.pos [], Or.inl ?_⟩
        rw [operandM, if_neg h3]
        simp only [has_c hs, is_c hs, name_c hs, bindO_some, Bool.false_eq_true, if_false]
    by_cases h45 : (tk ts s.i).text = [45]
    · have hp : prefixOf (tk ts s.i).text = 19 := by rw [prefix_cases, if_pos h45]
      have hk3 : ¬ (tk ts s.i).kind = 3 := fun h => plain_ne hS hf.1 (by omega) (x := [45]) (by decide) h45
      rw [hp, if_neg (by decide)]
      have e : (bindR (takeR ts s) fun _ s' => bindR (unF ts f s') fun x s'' => (.ok (Ex.mk 8 19 [] 0 (tk ts s.i).pos [x], s'') : R Ex)) = if (tk ts s.i).text = [45] then bindR (takeR ts s) fun _ s' => bindR (unF ts f s') fun x s'' => .ok (Ex.mk 8 19 [] 0 (tk ts s.i).pos [x], s'') else Px.gone := by rw [if_pos h45]
      rw [e]
      refine EvN.has hS hf (by decide) (k' := fun F b s => if b = true then bindO _ _ else _) (fun t s1 hr _ hf1 => by simp only [if_true]; exact hu 19 t s1 hr hf1) (fun h => absurd h45 h) ?_
      intro F s' hF hs
      obtain ⟨z, hz | hz⟩ := calm0 F (tk ts s.i) s' hF hs
      · simp only [has_c hs, bindO_some, Bool.false_eq_true, if_false, hz]; exact ⟨_, rfl⟩
      · exact absurd hz hk3
    · have e1 := has_no hS hf.1 (by decide) h45
      simp only [e1, bindO_some, Bool.false_eq_true, if_false]
      by_cases h126 : (tk ts s.i).text = [126]
      · have hp : prefixOf (tk ts s.i).text = 20 := by rw [prefix_cases, if_neg h45, if_pos h126]
        have hk3 : ¬ (tk ts s.i).kind = 3 := fun h => plain_ne hS hf.1 (by omega) (x := [126]) (by decide) h126
        rw [hp, if_neg (by decide)]
        have e : (bindR (takeR ts s) fun _ s' => bindR (unF ts f s') fun x s'' => (.ok (Ex.mk 8 20 [] 0 (tk ts s.i).pos [x], s'') : R Ex)) = if (tk ts s.i).text = [126] then bindR (takeR ts s) fun _ s' => bindR (unF ts f s') fun x s'' => .ok (Ex.mk 8 20 [] 0 (tk ts s.i).pos [x], s'') else Px.gone := by rw [if_pos h126]
        rw [e]
        refine EvN.has hS hf (by decide) (k' := fun F b s => if b = true then bindO _ _ else _) (fun t s1 hr _ hf1 => by simp only [if_true]; exact hu 20 t s1 hr hf1) (fun h => absurd h126 h) ?_
        intro F s' hF hs
        obtain ⟨z, hz | hz⟩ := calm0 F (tk ts s.i) s' hF hs
        · simp only [has_c hs, bindO_some, Bool.false_eq_true, if_false, hz]; exact ⟨_, rfl⟩
        · exact absurd hz hk3
      · have e2 := has_no hS hf.1 (by decide) h126
        simp only [e2, bindO_some, Bool.false_eq_true, if_false]
        by_cases h33 : (tk ts s.i).text = [33]
        · have hp : prefixOf (tk ts s.i).text = 21 := by rw [prefix_cases, if_neg h45, if_neg h126, if_pos h33]
          have hk3 : ¬ (tk ts s.i).kind = 3 := fun h => plain_ne hS hf.1 (by omega) (x := [33]) (by decide) h33
          rw [hp, if_neg (by decide)]
          have e : (bindR (takeR ts s) fun _ s' => bindR (unF ts f s') fun x s'' => (.ok (Ex.mk 8 21 [] 0 (tk ts s.i).pos [x], s'') : R Ex)) = if (tk ts s.i).text = [33] then bindR (takeR ts s) fun _ s' => bindR (unF ts f s') fun x s'' => .ok (Ex.mk 8 21 [] 0 (tk ts s.i).pos [x], s'') else Px.gone := by rw [if_pos h33]
          rw [e]
          refine EvN.has hS hf (by decide) (k' := fun F b s => if b = true then bindO _ _ else _) (fun t s1 hr _ hf1 => by simp only [if_true]; exact hu 21 t s1 hr hf1) (fun h => absurd h33 h) ?_
          intro F s' hF hs
          obtain ⟨z, hz | hz⟩ := calm0 F (tk ts s.i) s' hF hs
          · simp only [Bool.false_eq_true, if_false, hz]; exact ⟨_, rfl⟩
          · exact absurd hz hk3
        · have hp : prefixOf (tk ts s.i).text = 0 := by rw [prefix_cases, if_neg h45, if_neg h126, if_neg h33]
          have e3 := has_no hS hf.1 (by decide) h33
          simp only [e3, bindO_some, Bool.false_eq_true, if_false]
          rw [if_pos hp]
          exact EvN.operand hS hf ih f

theorem EvN.eqL (hS : Sane ts) {i : Nat} (ih : ExIH ts i) {k : Nat} (hk1 : 1 ≤ k) (hk : k ≤ 10) : ∀ (f : Nat) (l : Ex) (s : St), Fit ts s → i < s.i → EvN ts (fun x : Ex => x) (Px.eqL ts f k l s) (fun F => levLoopM ts F k l (inj s))
  | 0, l, s, _, _ => by rw [Px.eqL]; exact EvN.gone
  | f + 1, l, s, hf, hi => by
    refine EvN.shift ?_
    simp only [levLoopM, show (inj s).e = 0 from rfl, show (inj s).i = s.i from rfl, if_true, hf.1, opAt_is hS hf.1, Px.eqL]
    by_cases hst : (infixOf (tk ts s.i).text).1 = 0 ∨ (infixOf (tk ts s.i).text).2 ≠ k
    · rw [if_pos hst]
      have e : (if (infixOf (tk ts s.i).text).2 = k then (infixOf (tk ts s.i).text).1 else 0) = 0 := by
        split
        · rename_i h; rcases hst with h1 | h1
          · exact h1
          · exact absurd h h1
        · rfl
      simp only [e, if_true]
      exact EvN.ret rfl hf
    · rw [if_neg hst]
      have h1 : (infixOf (tk ts s.i).text).1 ≠ 0 := fun h => hst (Or.inl h)
      have h2 : (infixOf (tk ts s.i).text).2 = k := by
        by_cases h : (infixOf (tk ts s.i).text).2 = k
        · exact h
        · exact absurd (Or.inr h) hst
      simp only [h2, if_true, if_neg h1]
      obtain ⟨e1, e2, e3⟩ := findOp_has _ _ _ h1
      have hplain : opensB (tk ts s.i).text = false ∧ closesB (tk ts s.i).text = false := by
        have : ∀ o : Fin 19, 0 < o.val → opensB (signOf o.val).1 = false ∧ closesB (signOf o.val).1 = false := by decide
        have := this ⟨(findOp (tk ts s.i).text 18 1).1, by omega⟩ (by show 0 < (findOp (tk ts s.i).text 18 1).1; omega)
        rw [show (signOf (findOp (tk ts s.i).text 18 1).1).1 = (tk ts s.i).text from e1] at this
        exact this
      have htk : takeR ts s = .ok (tk ts s.i, ⟨s.i + 1, s.o, s.n⟩) := by
        unfold takeR
        rw [if_neg (by rw [hplain.1]; simp), if_neg (by rw [hplain.2]; simp)]
      rw [htk, bindR_ok]
      have hne : (tk ts s.i).text ≠ [] := by
        intro h
        have : ∀ o : Fin 19, 0 < o.val → (signOf o.val).1 ≠ [] := by decide
        exact this ⟨(findOp (tk ts s.i).text 18 1).1, by omega⟩ (by show 0 < (findOp (tk ts s.i).text 18 1).1; omega) (by rw [← h]; exact e1)
      have hf1 := fit_step hS hf (Or.inr hne)
      refine EvN.bind ((ih _ hf1 (by show i < s.i + 1; omega)).1 f (k + 1) (by omega) (by omega)) (fun x s2 hr hf2 => ?_) (fun F a s hF hs => ⟨_, levLoop_c4 hF hs _ _⟩)
      have h3 : s.i + 1 ≤ s2.i := ((exprs_adv ts f).1 _ _ _ _ hr).2
      exact EvN.eqL hS ih hk1 hk f _ s2 hf2 (by omega)

theorem unF_i {f : Nat} {s s' : St} {x : Ex} (hS : Sane ts) (hf : Fit ts s) (h : unF ts f s = .ok (x, s')) : s.i < s'.i := by
  match f, h with
  | 0, h => rw [unF] at h; cases h
  | f + 1, h =>
    rw [unF] at h
    split at h
    · match f, h with
      | 0, h => rw [opF] at h; cases h
      | f + 1, h =>
        have hadv : ∀ {r : R Ex} {A : Tok → St → R Ex}, r = bindR (takeR ts s) A → (∀ t s1 y s2, A t s1 = .ok (y, s2) → s1.i ≤ s2.i) → r = .ok (x, s') → s.i < s'.i := by
          intro r A e hA hr
          rw [e] at hr
          obtain ⟨t, s1, h1, h2⟩ := bindR_inv hr
          have := takeR_i h1
          have := hA _ _ _ _ h2
          omega
        rw [opF] at h
        split at h
        · exact hadv rfl (fun t s1 y s2 h => by cases h; exact Nat.le_refl _) h
        split at h
        · exact hadv rfl (fun t s1 y s2 h => ((exprs_adv ts f).2.2.2.2 _ _ _ _ h).2) h
        split at h
        · exact hadv rfl (fun t s1 y s2 h => by cases h; exact Nat.le_refl _) h
        split at h
        · exact hadv rfl (fun t s1 y s2 h => by cases h; exact Nat.le_refl _) h
        split at h
        · refine hadv rfl (fun t s1 y s2 h => ?_) h
          obtain ⟨_, s3, h1, h2⟩ := bindR_inv h
          obtain ⟨_, s4, h3, h4⟩ := bindR_inv h2
          cases h4
          have := expectR_i h1; have := expectR_i h3; omega
        split at h
        · refine hadv rfl (fun t s1 y s2 h => ?_) h
          obtain ⟨_, s3, h1, h2⟩ := bindR_inv h
          obtain ⟨_, s4, h3, h4⟩ := bindR_inv h2
          obtain ⟨_, s5, h5, h6⟩ := bindR_inv h4
          cases h6
          have := expectR_i h1; have := kindR_i h3; have := expectR_i h5; omega
        split at h
        · refine hadv rfl (fun t s1 y s2 h => ?_) h
          obtain ⟨_, s3, h1, h2⟩ := bindR_inv h
          obtain ⟨_, s4, h3, h4⟩ := bindR_inv h2
          cases h4
          have := ((exprs_adv ts f).1 _ _ _ _ h1).2; have := expectR_i h3; omega
        · cases h
    · obtain ⟨t, s1, h1, h2⟩ := bindR_inv h
      obtain ⟨y, s2, h3, h4⟩ := bindR_inv h2
      cases h4
      have := takeR_i h1
      have := ((exprs_adv ts f).2.2.1 _ _ _ h3).2
      omega

theorem levels (hS : Sane ts) {s : St} (hf : Fit ts s) (ih : ExIH ts s.i) (f : Nat) : ∀ (d F0 k : Nat), k + d = 11 → 1 ≤ k → EvN ts (fun x : Ex => x) (bindR (unF ts f s) fun l s => loopF ts F0 k l s) (fun F => levelM ts F k (inj s))
  | 0, F0, k, hk, _ => by
    obtain rfl : k = 11 := by omega
    refine EvN.shift ?_
    simp only [levelM, show (inj s).e = 0 from rfl, if_true]
    have hu := EvN.unary hS hf ih f
    match F0 with
    | 0 =>
      rcases hr : unF ts f s with pn | ⟨l, s1⟩
      · rw [hr] at hu; exact hu
      · rw [bindR_ok, loopF]; exact EvN.gone
    | F0 + 1 =>
      have e : (bindR (unF ts f s) fun l s => loopF ts (F0 + 1) 11 l s) = unF ts f s := by
        rcases unF ts f s with pn | ⟨l, s1⟩
        · rfl
        · rw [bindR_ok, loopF, if_pos]
          by_cases h0 : (infixOf (tk ts s1.i).text).1 = 0
          · exact Or.inl h0
          · right
            obtain ⟨e1, e2, e3⟩ := findOp_has _ _ _ h0
            have hlv : ∀ (t : Bytes) (n op : Nat), (findOp t n op).1 ≠ 0 → (findOp t n op).2 = (signOf (findOp t n op).1).2 := by
              intro t n
              induction n with
              | zero => intro op h; exact absurd rfl h
              | succ n ih =>
                intro op h
                rw [findOp] at h ⊢
                split
                · rfl
                · rename_i hc
                  rw [if_neg hc] at h
                  exact ih _ h
            unfold infixOf
            rw [hlv _ _ _ h0]
            have : ∀ o : Fin 19, (signOf o.val).2 < 11 := by decide
            exact this ⟨(findOp (tk ts s1.i).text 18 1).1, by omega⟩
      rw [e]
      exact hu
  | d + 1, F0, k, hk, h1 => by
    refine EvN.shift ?_
    simp only [levelM, show (inj s).e = 0 from rfl, if_true, if_neg (show ¬ k = 11 by omega)]
    rcases hr : unF ts f s with pn | ⟨l, s1⟩
    · have := levels hS hf ih f d 0 (k + 1) (by omega) (by omega)
      rw [hr] at this
      exact EvN.bind (k := fun (_ : Ex) s => (Px.gone : R Ex)) this (fun x s' h => by cases h) (fun F a s hF hs => ⟨_, levLoop_c4 hF hs _ _⟩)
    · rw [bindR_ok]
      by_cases hg : loopF ts F0 k l s1 = Px.gone
      · rw [hg]; exact EvN.gone
      obtain ⟨F1, hF1⟩ := loop_parts ts F0 k l s1 hg
      rw [← hF1 F1 (Nat.le_refl _)]
      have h2 := levels hS hf ih f d F1 (k + 1) (by omega) (by omega)
      rw [hr, bindR_ok] at h2
      refine EvN.bind h2 (fun x s2 hr2 hf2 => ?_) (fun F a s hF hs => ⟨_, levLoop_c4 hF hs _ _⟩)
      have i1 := unF_i hS hf hr
      have i2 := ((exprs_adv ts F1).2.1 _ _ _ _ _ hr2).2
      exact EvN.eqL hS ih h1 (by omega) F1 _ s2 hf2 (by omega)

theorem EvN.exprs (hS : Sane ts) : ∀ (m : Nat) (s : St), Fit ts s → ts.length - s.i ≤ m → (∀ f k, 1 ≤ k → k ≤ 11 → EvN ts (fun x : Ex => x) (binF ts f k s) (fun F => levelM ts F k (inj s))) ∧ (∀ f, EvN ts (fun x : Ex => x) (unF ts f s) (fun F => unaryM ts F (inj s)))
  | 0, s, hf, hm => by have := hf.1; omega
  | m + 1, s, hf, hm => by
    have ih : ExIH ts s.i := fun s' hf' hi => EvN.exprs hS m s' hf' (by omega)
    refine ⟨fun f k h1 h2 => ?_, EvN.unary hS hf ih⟩
    match f with
    | 0 => rw [binF]; exact EvN.gone
    | f + 1 =>
      rw [binF]
      exact levels hS hf ih f (11 - k) f k (by omega) h1
theorem EvN.bin (hS : Sane ts) {s : St} (hf : Fit ts s) (f : Nat) : EvN ts (fun x : Ex => x) (binF ts f 1 s) (fun F => levelM ts F 1 (inj s)) := (EvN.exprs hS _ s hf (Nat.le_refl _)).1 f 1 (by omega) (by omega)
theorem ex_ih (hS : Sane ts) (i : Nat) : ExIH ts i := fun s' hf _ => EvN.exprs hS _ s' hf (Nat.le_refl _)
end
end Go.Proofs.YtcgllooeimacdaaGreatDoor.Px

/-! What the program's grammar reads of statements, functions, programs is what the reference's reader reads. -/

namespace Go.Proofs.YtcgllooeimacdaaGreatDoor.Px
open Lx (Tok)

theorem bindO_assoc {α β γ : Type} (m : MO α) (f : α → RdS → MO β) (g : β → RdS → MO γ) : bindO (bindO m f) g = bindO m fun a s => bindO (f a s) g := by
  rcases m with _ | ⟨a, s⟩ <;> rfl
theorem exp_take {α : Type} {ts : List Tok} {s : St} {x : Bytes} (h : (tk ts s.i).text = x) (A : Tok → St → R α) : bindR (expectR x ts s) A = bindR (takeR ts s) A := by unfold expectR; rw [if_pos h]

section
variable {ts : List Tok} {f id pos : Nat} {s : St}
theorem EvN.number (hS : Sane ts) (hf : Fit ts s) : EvN ts (fun t : Tok => t.num) (kindR 3 ts s) (fun _ => if (tk ts s.i).kind = 3 then some ((tk ts s.i).num, ⟨(inj s).i + 1, (inj s).o, (inj s).n, (inj s).pl, (inj s).e⟩) else bindO (failM ts 4 (inj s)) fun _ s => some (0, s)) := by
  refine .of ?_
  unfold kindR
  by_cases hk : (tk ts s.i).kind = 3
  · rw [if_pos hk, if_pos hk, take_plain hS hf.1 (Or.inr hk)]
    exact ⟨rfl, fit_step hS hf (Or.inl (by omega))⟩
  · rw [if_neg hk, if_neg hk]
    exact wrong_is hf.1 _ _ fun s _ => ⟨0, rfl⟩
/-- The last token of a statement. -/
theorem EvN.last {α β : Type} (hS : Sane ts) (hf : Fit ts s) {x : Bytes} (hx : x ∈ allX) {a : α} {b : β} {c : α → β} (h : b = c a) : EvN ts c (bindR (expectR x ts s) fun _ s => .ok (a, s)) (fun _ => bindO (skipM ts x (inj s)) fun _ s => some (b, s)) :=
  EvN.bind (EvN.expect hS hf hx) (fun _ _ _ hf => EvN.ret h hf) (fun _ _ _ _ _ => ⟨_, rfl⟩)

theorem named_c {F id pos : Nat} {s : RdS} (hF : 4 ≤ F) (hs : ¬ s.e = 0) : ∃ z, namedM ts F id pos s = some (z, s) := by
  unfold namedM
  simp only [name_c hs, skip_c hs, is_c hs, level_c4 hF hs, bindO_some, if_false, Bool.false_eq_true]
  exact ⟨_, rfl⟩

theorem takeR_t {s s' : St} {t : Tok} (h : takeR ts s = .ok (t, s')) : t = tk ts s.i := by
  unfold takeR at h
  split at h
  · split at h
    · cases h
    · cases h; rfl
  · split at h <;> (cases h; rfl)
theorem EvN.named (hS : Sane ts) (hf : Fit ts s) (hpos : pos = (tk ts s.i).pos) : EvN ts (fun x : Sm => x) (namedF ts f id pos s) (fun F => namedM ts F id pos (inj s)) := by
  unfold namedF namedM
  refine EvN.bind (EvN.name hS hf) (fun t s1 hr hf1 => ?_) ?_
  · have ht : t.pos = pos := by rw [takeR_t (kindR_take hr).2, hpos]
    refine EvN.is hS hf1 (by decide) ?_
    by_cases h40 : (tk ts s1.i).text = [40]
    · have h61 : ¬ (tk ts s1.i).text = [61] := by rw [h40]; decide
      have h91 : ¬ (tk ts s1.i).text = [91] := by rw [h40]; decide
      simp only [if_neg h61, if_neg h91, if_pos h40, beq_iff_eq, h40, callF, ht]
      rw [show (bindR (bindR (listB ts (binF ts f 1) f s1) fun l s => (.ok (Ex.mk 5 0 t.text 0 pos l, s) : R Ex)) fun x s => bindR (expectR [59] ts s) fun _ s => (.ok (Sm.mk 8 id [] 0 0 pos [x] [] [], s) : R Sm)) =
        bindR (listB ts (binF ts f 1) f s1) fun l s => bindR (expectR [59] ts s) fun _ s => .ok (Sm.mk 8 id [] 0 0 pos [Ex.mk 5 0 t.text 0 pos l] [] [], s) by
          rcases listB ts (binF ts f 1) f s1 with pn | ⟨l, s2⟩ <;> rfl]
      exact EvN.bind (EvN.list hS hf1 (ex_ih hS _) f f) (fun l s2 _ hf2 => EvN.last hS hf2 (by decide) rfl) (fun F a s _ hs => ⟨_, by rw [skip_c hs]; rfl⟩)
    · have b40 : ((tk ts s1.i).text == [40]) = false := by simpa using h40
      simp only [b40, Bool.false_eq_true, if_false]
      refine EvN.is hS hf1 (by decide) ?_
      by_cases h91 : (tk ts s1.i).text = [91]
      · have h61 : ¬ (tk ts s1.i).text = [61] := by rw [h91]; decide
        simp only [if_neg h61, if_pos h91, beq_iff_eq, h91, placeF]
        refine EvN.bind (EvN.place hS hf1 (ex_ih hS _) f) (fun x s2 _ hf2 => ?_) (fun F a s hF hs => ⟨_, by rw [skip_c hs, bindO_some, level_c4 hF hs, bindO_some, skip_c hs]; rfl⟩)
        refine EvN.bind (EvN.expect hS hf2 (by decide)) (fun _ s3 _ hf3 => ?_) (fun F a s hF hs => ⟨_, by rw [level_c4 hF hs, bindO_some, skip_c hs]; rfl⟩)
        exact EvN.bind (EvN.bin hS hf3 f) (fun y s4 _ hf4 => EvN.last hS hf4 (by decide) rfl) (fun F a s _ hs => ⟨_, by rw [skip_c hs]; rfl⟩)
      · have b91 : ((tk ts s1.i).text == [91]) = false := by simpa using h91
        simp only [b91, Bool.false_eq_true, if_false, if_neg h91, if_neg h40]
        have e : (if (tk ts s1.i).text = [61] then bindR (takeR ts s1) fun _ s => bindR (binF ts f 1 s) fun x s => bindR (expectR [59] ts s) fun _ s => (.ok (Sm.mk 2 id t.text 0 0 pos [x] [] [], s) : R Sm) else wrongR ts s1) =
          bindR (expectR [61] ts s1) fun _ s => bindR (binF ts f 1 s) fun x s => bindR (expectR [59] ts s) fun _ s => .ok (Sm.mk 2 id t.text 0 0 pos [x] [] [], s) := by
          unfold expectR
          split <;> rfl
        rw [e]
        refine EvN.bind (EvN.expect hS hf1 (by decide)) (fun _ s3 _ hf3 => ?_) (fun F a s hF hs => ⟨_, by rw [level_c4 hF hs, bindO_some, skip_c hs]; rfl⟩)
        exact EvN.bind (EvN.bin hS hf3 f) (fun y s4 _ hf4 => EvN.last hS hf4 (by decide) rfl) (fun F a s _ hs => ⟨_, by rw [skip_c hs]; rfl⟩)
  · intro F a s hF hs
    simp only [skip_c hs, is_c hs, level_c4 hF hs, bindO_some, if_false, Bool.false_eq_true]
    exact ⟨_, rfl⟩

/-- A declaration behind its first word. -/
theorem EvN.decl (hS : Sane ts) (hf : Fit ts s) : EvN ts (fun x : Sm => x) (bindR (kindR 1 ts s) fun t s => bindR (expectR [58] ts s) fun _ s => bindR (typeR ts [1, 2, 3] s) fun y s =>
    if y = 3 then bindR (expectR [91] ts s) fun _ s => bindR (kindR 3 ts s) fun u s => bindR (expectR [93] ts s) fun _ s => bindR (expectR [59] ts s) fun _ s => .ok (.mk 1 id t.text 3 u.num pos [] [] [], s)
    else if (tk ts s.i).text = [61] then bindR (takeR ts s) fun _ s => bindR (binF ts f 1 s) fun x s => bindR (expectR [59] ts s) fun _ s => .ok (.mk 1 id t.text y 0 pos [x] [] [], s)
    else bindR (expectR [59] ts s) fun _ s => .ok (.mk 1 id t.text y 0 pos [] [] [], s)) (fun F => letM ts F id pos (inj s)) := by
  unfold letM
  refine EvN.bind (EvN.name hS hf) (fun t s1 _ hf1 => ?_) ?_
  · refine EvN.bind (EvN.expect hS hf1 (by decide)) (fun _ s2 _ hf2 => ?_) ?_
    · refine EvN.bind (EvN.typedT hS hf2) (fun y s3 _ hf3 => ?_) ?_
      · by_cases hy : y = 3
        · subst hy
          simp only [if_true]
          refine EvN.bind (EvN.expect hS hf3 (by decide)) (fun _ s4 _ hf4 => ?_) ?_
          · refine EvN.now hf4 ?_
            refine EvN.bind (EvN.number hS hf4) (fun u s5 _ hf5 => ?_) (fun F a s _ hs => ⟨_, by rw [skip_c hs, bindO_some, skip_c hs]; rfl⟩)
            exact EvN.bind (EvN.expect hS hf5 (by decide)) (fun _ s6 _ hf6 => EvN.last hS hf6 (by decide) rfl) (fun F a s _ hs => ⟨_, by rw [skip_c hs]; rfl⟩)
          · intro F a s _ hs
            simp only [now_c hs, fail_c hs, skip_c hs, bindO_some, show ¬ tokZ.kind = 3 by decide, if_false]
            exact ⟨_, rfl⟩
        · simp only [if_neg hy]
          refine EvN.has hS hf3 (by decide) (k' := fun F b s => bindO (if b = true then bindO (levelM ts F 1 s) fun x s => some ([x], s) else some ([], s)) fun l s => bindO (skipM ts [59] s) fun _ s => some (Sm.mk 1 id t.text y 0 pos l [] [], s)) ?_ ?_ ?_
          · intro t2 s4 _ _ hf4
            simp only [if_true, bindO_assoc, bindO_some]
            exact EvN.bind (EvN.bin hS hf4 f) (fun x s5 _ hf5 => EvN.last hS hf5 (by decide) rfl) (fun F a s _ hs => ⟨_, by rw [skip_c hs]; rfl⟩)
          · intro _
            simp only [Bool.false_eq_true, if_false, bindO_some]
            exact EvN.last hS hf3 (by decide) rfl
          · intro F s _ hs
            simp only [Bool.false_eq_true, if_false, bindO_some, skip_c hs]
            exact ⟨_, rfl⟩
      · intro F a s _ hs
        by_cases hy : a = 3
        · subst hy
          simp only [now_c hs, fail_c hs, skip_c hs, bindO_some, show ¬ tokZ.kind = 3 by decide, if_false, if_true]
          exact ⟨_, rfl⟩
        · simp only [if_neg hy, has_c hs, Bool.false_eq_true, if_false, bindO_some, skip_c hs]
          exact ⟨_, rfl⟩
    · intro F a s _ hs
      simp only [typed_c hs, has_c hs, Bool.false_eq_true, if_false, bindO_some, skip_c hs, show ¬ (0 : Nat) = 3 by decide]
      exact ⟨_, rfl⟩
  · intro F a s _ hs
    simp only [typed_c hs, has_c hs, Bool.false_eq_true, if_false, bindO_some, skip_c hs, show ¬ (0 : Nat) = 3 by decide]
    exact ⟨_, rfl⟩

theorem stmt_rd (hS : Sane ts) (hf : Fit ts s) (hsn : s.n ≤ s.i + 1) (h1 : ∀ s, Fit ts s → s.n ≤ s.i → EvN ts (fun x : List Sm => x) (blockF ts f s) (fun F => blockM ts F (inj s))) :
    EvN ts (fun x : Sm => x) (if (tk ts s.i).kind = 1 then namedF ts f id (tk ts s.i).pos s
      else if (tk ts s.i).text = [108, 101, 116] then letF ts f id (tk ts s.i).pos s
      else if (tk ts s.i).text = [105, 102] then choiceB ts f id (tk ts s.i).pos (blockF ts f) s
      else if (tk ts s.i).text = [119, 104, 105, 108, 101] then whileB ts f id (tk ts s.i).pos (blockF ts f) s
      else if (tk ts s.i).text = [114, 101, 116, 117, 114, 110] then returnF ts f id (tk ts s.i).pos s
      else if (tk ts s.i).text = [112, 114, 105, 110, 116] then printF ts f id (tk ts s.i).pos s
      else wrongR ts s) (fun F => stmtK ts F (blockM ts F) id (tk ts s.i).pos (inj s)) := by
  unfold stmtK
  have c5 : ∀ (F : Nat) (s' : RdS), 4 ≤ F → ¬ s'.e = 0 → ∃ z, namedM ts F id (tk ts s.i).pos s' = some (z, s') := fun F s' hF hs => named_c hF hs
  have blk : ∀ {s1 s2 : St}, Fit ts s2 → s.i + 1 ≤ s1.i → s1.n = s.n → Bal 0 s1 s2 → EvN ts (fun x : List Sm => x) (blockF ts f s2) (fun F => blockM ts F (inj s2)) := fun {s1 s2} hf2 hi hnn hb => h1 s2 hf2 (by unfold Bal at hb; omega)
  by_cases k1 : (tk ts s.i).kind = 1
  · have hno : ∀ x ∈ allX, (tk ts s.i).text ≠ x := fun x hx => plain_ne hS hf.1 (by omega) hx
    have e1 := has_no hS hf.1 (by decide) (hno [108, 101, 116] (by decide))
    have e2 := has_no hS hf.1 (by decide) (hno [105, 102] (by decide))
    have e3 := has_no hS hf.1 (by decide) (hno [119, 104, 105, 108, 101] (by decide))
    have e4 := has_no hS hf.1 (by decide) (hno [114, 101, 116, 117, 114, 110] (by decide))
    have e5 := has_no hS hf.1 (by decide) (hno [112, 114, 105, 110, 116] (by decide))
    simp only [if_pos k1, e1, e2, e3, e4, e5, bindO_some, Bool.false_eq_true, if_false]
    exact EvN.named hS hf rfl
  rw [if_neg k1]
  -- let
  by_cases hx : (tk ts s.i).text = [108, 101, 116]
  · rw [if_pos hx, show letF ts f id (tk ts s.i).pos s = bindR (expectR [108, 101, 116] ts s) _ from rfl, exp_take hx]
    have e : ∀ A : Tok → St → R Sm, bindR (takeR ts s) A = if (tk ts s.i).text = [108, 101, 116] then bindR (takeR ts s) A else Px.gone := fun A => by rw [if_pos hx]
    rw [e]
    refine EvN.has hS hf (by decide) (k' := fun F b s => if b = true then letM ts F id _ s else _) (fun t s1 hr _ hf1 => ?_) (fun h => absurd hx h) ?_
    · simp only [if_true]
      exact EvN.decl hS hf1
    · intro F s' hF hs
      simp only [has_c hs, Bool.false_eq_true, if_false, bindO_some]
      exact c5 F s' hF hs
  have e1 := has_no hS hf.1 (by decide) hx
  simp only [if_neg hx, e1, bindO_some, Bool.false_eq_true, if_false]
  -- if
  by_cases hx : (tk ts s.i).text = [105, 102]
  · rw [if_pos hx, show choiceB ts f id (tk ts s.i).pos (blockF ts f) s = bindR (expectR [105, 102] ts s) _ from rfl, exp_take hx]
    have e : ∀ A : Tok → St → R Sm, bindR (takeR ts s) A = if (tk ts s.i).text = [105, 102] then bindR (takeR ts s) A else Px.gone := fun A => by rw [if_pos hx]
    rw [e]
    refine EvN.has hS hf (by decide) (k' := fun F b s => if b = true then bindO (levelM ts F 1 s) fun x s => bindO (blockM ts F s) fun bl s => bindO (hasM ts [101, 108, 115, 101] s) fun b s => bindO (if b = true then blockM ts F s else some ([], s)) fun el s => some (Sm.mk 4 id [] 0 0 _ [x] bl el, s) else _) (fun t s1 hr _ hf1 => ?_) (fun h => absurd hx h) ?_
    · simp only [if_true]
      have i1 := takeR_i hr
      have n1 := takeR_n hr
      refine EvN.bind (EvN.bin hS hf1 f) (fun x s2 hr2 hf2 => ?_) ?_
      · have b2 := bin_bal hr2
        refine EvN.bind (blk hf2 (by omega) n1 b2) (fun bl s3 hr3 hf3 => ?_) ?_
        · have b3 := b2.trans ((stmts_bal ts f).1 _ _ _ hr3)
          refine EvN.has hS hf3 (by decide) (k' := fun F b s => bindO (if b = true then blockM ts F s else some ([], s)) fun el s => some (Sm.mk 4 id [] 0 0 _ [x] bl el, s)) (fun t s4 hr4 _ hf4 => ?_) (fun _ => ?_) ?_
          · simp only [if_true]
            exact EvN.bind (blk hf4 (by omega) n1 ((b3.trans (takeR_bal hr4)).le (by omega))) (fun el s5 _ hf5 => EvN.ret rfl hf5) (fun F a s _ hs => ⟨_, rfl⟩)
          · simp only [Bool.false_eq_true, if_false, bindO_some]
            exact EvN.ret rfl hf3
          · intro F s _ hs
            exact ⟨_, rfl⟩
        · intro F a s _ hs
          simp only [has_c hs, Bool.false_eq_true, if_false, bindO_some]
          exact ⟨_, rfl⟩
      · intro F a s hF hs
        simp only [block_c4 hF hs, has_c hs, Bool.false_eq_true, if_false, bindO_some]
        exact ⟨_, rfl⟩
    · intro F s' hF hs
      simp only [has_c hs, Bool.false_eq_true, if_false, bindO_some]
      exact c5 F s' hF hs
  have e2 := has_no hS hf.1 (by decide) hx
  simp only [if_neg hx, e2, bindO_some, Bool.false_eq_true, if_false]
  -- while
  by_cases hx : (tk ts s.i).text = [119, 104, 105, 108, 101]
  · rw [if_pos hx, show whileB ts f id (tk ts s.i).pos (blockF ts f) s = bindR (takeR ts s) _ from rfl]
    have e : ∀ A : Tok → St → R Sm, bindR (takeR ts s) A = if (tk ts s.i).text = [119, 104, 105, 108, 101] then bindR (takeR ts s) A else Px.gone := fun A => by rw [if_pos hx]
    rw [e]
    refine EvN.has hS hf (by decide) (k' := fun F b s => if b = true then bindO (levelM ts F 1 s) fun x s => bindO (blockM ts F s) fun bl s => some (Sm.mk 5 id [] 0 0 _ [x] bl [], s) else _) (fun t s1 hr _ hf1 => ?_) (fun h => absurd hx h) ?_
    · simp only [if_true]
      have i1 := takeR_i hr
      have n1 := takeR_n hr
      refine EvN.bind (EvN.bin hS hf1 f) (fun x s2 hr2 hf2 => ?_) (fun F a s hF hs => ⟨_, by rw [block_c4 hF hs]; rfl⟩)
      exact EvN.bind (blk hf2 (by omega) n1 (bin_bal hr2)) (fun bl s3 hr3 hf3 => EvN.ret rfl hf3) (fun F a s _ hs => ⟨_, rfl⟩)
    · intro F s' hF hs
      simp only [has_c hs, Bool.false_eq_true, if_false, bindO_some]
      exact c5 F s' hF hs
  have e3 := has_no hS hf.1 (by decide) hx
  simp only [if_neg hx, e3, bindO_some, Bool.false_eq_true, if_false]
  -- return
  by_cases hx : (tk ts s.i).text = [114, 101, 116, 117, 114, 110]
  · rw [if_pos hx, show returnF ts f id (tk ts s.i).pos s = bindR (takeR ts s) _ from rfl]
    have e : ∀ A : Tok → St → R Sm, bindR (takeR ts s) A = if (tk ts s.i).text = [114, 101, 116, 117, 114, 110] then bindR (takeR ts s) A else Px.gone := fun A => by rw [if_pos hx]
    rw [e]
    refine EvN.has hS hf (by decide) (k' := fun F b s => if b = true then bindO (isM ts [59] s) fun b s => bindO (if b = false then bindO (levelM ts F 1 s) fun x s => some ([x], s) else some ([], s)) fun l s => bindO (skipM ts [59] s) fun _ s => some (Sm.mk 6 id [] 0 0 _ l [] [], s) else _) (fun t s1 hr _ hf1 => ?_) (fun h => absurd hx h) ?_
    · simp only [if_true]
      refine EvN.is hS hf1 (by decide) ?_
      by_cases h59 : (tk ts s1.i).text = [59]
      · simp only [h59, beq_self_eq_true, Bool.true_eq_false, if_false, if_true, bindO_some]
        exact EvN.last hS hf1 (by decide) rfl
      · have hb : ((tk ts s1.i).text == [59]) = false := by simpa using h59
        simp only [if_neg h59, hb, if_true, bindO_assoc, bindO_some]
        exact EvN.bind (EvN.bin hS hf1 f) (fun x s5 _ hf5 => EvN.last hS hf5 (by decide) rfl) (fun F a s _ hs => ⟨_, by rw [skip_c hs]; rfl⟩)
    · intro F s' hF hs
      simp only [has_c hs, Bool.false_eq_true, if_false, bindO_some]
      exact c5 F s' hF hs
  have e4 := has_no hS hf.1 (by decide) hx
  simp only [if_neg hx, e4, bindO_some, Bool.false_eq_true, if_false]
  -- print
  by_cases hx : (tk ts s.i).text = [112, 114, 105, 110, 116]
  · rw [if_pos hx, show printF ts f id (tk ts s.i).pos s = bindR (takeR ts s) _ from rfl]
    have e : ∀ A : Tok → St → R Sm, bindR (takeR ts s) A = if (tk ts s.i).text = [112, 114, 105, 110, 116] then bindR (takeR ts s) A else Px.gone := fun A => by rw [if_pos hx]
    rw [e]
    refine EvN.has hS hf (by decide) (k' := fun F b s => if b = true then bindO (levelM ts F 1 s) fun x s => bindO (skipM ts [59] s) fun _ s => some (Sm.mk 7 id [] 0 0 _ [x] [] [], s) else _) (fun t s1 hr _ hf1 => ?_) (fun h => absurd hx h) ?_
    · simp only [if_true]
      exact EvN.bind (EvN.bin hS hf1 f) (fun x s5 _ hf5 => EvN.last hS hf5 (by decide) rfl) (fun F a s _ hs => ⟨_, by rw [skip_c hs]; rfl⟩)
    · intro F s' hF hs
      simp only [Bool.false_eq_true, if_false]
      exact c5 F s' hF hs
  have e5 := has_no hS hf.1 (by decide) hx
  simp only [if_neg hx, e5, bindO_some, Bool.false_eq_true, if_false]
  -- neither
  unfold namedM
  have hn := name_is hS hf
  unfold kindR at hn
  rw [if_neg k1] at hn
  refine ⟨4, fun F hF hne => ?_⟩
  obtain ⟨h0, y, s', h1, h2, h3⟩ := hn hne
  have hs : ¬ s'.e = 0 := by rw [h3]; exact h0
  refine ⟨h0, .mk 2 id y 0 0 (tk ts s.i).pos [exZ] [] [], s', ?_, h2, h3⟩
  rw [h1]
  simp only [bindO_some, is_c hs, skip_c hs, level_c4 hF hs, Bool.false_eq_true, if_false]

theorem stmts_rd (hS : Sane ts) : ∀ f, (∀ s, Fit ts s → s.n ≤ s.i → EvN ts (fun x : List Sm => x) (blockF ts f s) (fun F => blockM ts F (inj s))) ∧
    (∀ l s, Fit ts s → s.n ≤ s.i → l.length ≤ s.i → EvN ts (fun x : List Sm => x) (bodyF ts f l s) (fun F => blkLoopM ts F l (inj s))) ∧ (∀ s, Fit ts s → s.n ≤ s.i → EvN ts (fun x : Sm => x) (smF ts f s) (fun F => stmtM ts F (inj s)))
  | 0 => ⟨(fun _ _ _ => by rw [blockF]; exact EvN.gone), (fun _ _ _ _ _ => by rw [bodyF]; exact EvN.gone), (fun _ _ _ => by rw [smF]; exact EvN.gone)⟩
  | f + 1 => by
    obtain ⟨h1, h2, h3⟩ := stmts_rd hS f
    refine ⟨?_, ?_, ?_⟩
    · intro s hf hn
      refine EvN.shift ?_
      simp only [blockM, blockF]
      refine EvN.bind (EvN.expect hS hf (by decide)) (fun _ s1 hr hf1 => ?_) (fun F a s hF hs => ⟨_, by rw [blkLoop_c4 hF hs, bindO_some, skip_c hs]; rfl⟩)
      have hb := expectR_bal hr
      unfold Bal at hb
      exact EvN.bind (h2 [] s1 hf1 (by omega) (by simp)) (fun l s2 _ hf2 => EvN.last hS hf2 (by decide) rfl) (fun F a s _ hs => ⟨_, by rw [skip_c hs]; rfl⟩)
    · intro l s hf hn hl
      refine EvN.shift ?_
      have hl5 : l.length < 100000 := by have := hf.1; have := hS.len; omega
      simp only [blkLoopM, bodyF, if_pos hl5, show (inj s).e = 0 from rfl, if_true]
      refine EvN.is hS hf (by decide) ?_
      by_cases h125 : (tk ts s.i).text = [125]
      · simp only [h125, if_true, beq_self_eq_true, Bool.true_eq_false, if_false]
        exact EvN.ret rfl hf
      · have hb : ((tk ts s.i).text == [125]) = false := by simpa using h125
        simp only [if_neg h125, hb, if_true]
        refine EvN.bind (h3 s hf hn) (fun x s1 hr hf1 => ?_) (fun F a s hF hs => ⟨_, blkLoop_c4 hF hs _⟩)
        have hb := (stmts_bal ts f).2.2 _ _ _ hr
        unfold Bal at hb
        have hG := (((stmts_G hS.fin f).2.2 s hf.1).got hr).1
        exact h2 _ s1 hf1 (by omega) (by simp; omega)
    · intro s0 hf0 hn
      refine EvN.shift ?_
      obtain ⟨s, hs⟩ : ∃ s : St, s = ⟨s0.i, s0.o, s0.n + 1⟩ := ⟨_, rfl⟩
      have hf : Fit ts s := by rw [hs]; exact hf0
      have hsi : s.i = s0.i := by rw [hs]
      have hsn : s.n ≤ s.i + 1 := by rw [hs]; show s0.n + 1 ≤ s0.i + 1; omega
      have hg : (inj s0).n < 1000000 := by show s0.n < 1000000; have := hS.len; have := hf0.1; omega
      have hj : (⟨(inj s0).i, (inj s0).o, (inj s0).n + 1, (inj s0).pl, (inj s0).e⟩ : RdS) = inj s := by rw [hs]; rfl
      have eM : (fun F => stmtM ts (F + 1) (inj s0)) = fun F => bindO (nowM ts (inj s)) fun t s => stmtK ts F (blockM ts F) (s0.n + 1) t.pos s := by
        funext F
        rw [stmtM, if_pos hg, hj]; rfl
      have hw : (wrongR ts s0 : R Sm) = wrongR ts s := by unfold wrongR; rw [hsi]
      rw [eM, smF, ← hs, ← hsi, hw]
      generalize s0.n + 1 = id
      clear hs hsi hg hj hf0 hn eM hw
      refine EvN.now hf (k' := fun F t s => stmtK ts F (blockM ts F) id t.pos s) ?_
      exact stmt_rd hS hf hsn h1

/-! Functions, programs. -/
theorem EvN.params (hS : Sane ts) : ∀ (n : Nat) (l : List Pm) (s : St), Fit ts s → l.length ≤ s.i → EvN ts (fun x : List Pm => x) (bindR (pmF ts s) fun x s => itemsB ts (pmF ts) n (l ++ [x]) s) (fun F => pmLoopM ts F l (inj s))
  | n, l, s, hf, hl => by
    refine EvN.shift ?_
    have hl5 : ¬ 100000 ≤ l.length := by have := hf.1; have := hS.len; omega
    simp only [pmLoopM, if_neg hl5]
    refine EvN.now hf ?_
    have e : (bindR (pmF ts s) fun x s => itemsB ts (pmF ts) n (l ++ [x]) s) = bindR (kindR 1 ts s) fun t s => bindR (expectR [58] ts s) fun _ s => bindR (typeR ts [1, 2, 3] s) fun y s => itemsB ts (pmF ts) n (l ++ [⟨t.text, y, t.pos⟩]) s := by
      unfold pmF
      rcases kindR 1 ts s with pn | ⟨t, s1⟩
      · rfl
      · rw [bindR_ok, bindR_ok]
        rcases expectR [58] ts s1 with pn | ⟨t2, s2⟩
        · rfl
        · rw [bindR_ok, bindR_ok]
          rcases typeR ts [1, 2, 3] s2 with pn | ⟨y, s3⟩ <;> rfl
    rw [e]
    refine EvN.bind (EvN.name hS hf) (fun t s1 hr hf1 => ?_) ?_
    · have ht : t = tk ts s.i := takeR_t (kindR_take hr).2
      have i1 := kindR_i hr
      refine EvN.bind (EvN.expect hS hf1 (by decide)) (fun _ s2 hr2 hf2 => ?_) ?_
      · have i2 := expectR_i hr2
        refine EvN.bind (EvN.typedT hS hf2) (fun y s3 hr3 hf3 => ?_) ?_
        · match n with
          | 0 => exact EvN.gone
          | n + 1 =>
            rw [itemsB, ht]
            have i3 := typeR_bal _ hr3
            refine EvN.has hS hf3 (x := [44]) (by decide) (k' := fun F b s => if b = true then pmLoopM ts F _ s else some (_, s)) (fun t s4 hr4 _ hf4 => ?_) (fun _ => ?_) ?_
            · simp only [if_true]
              have i4 := takeR_i hr4
              exact EvN.params hS n _ s4 hf4 (by unfold Bal at i3; simp; omega)
            · simp only [Bool.false_eq_true, if_false]
              exact EvN.ret rfl hf3
            · intro F s _ hs
              exact ⟨_, rfl⟩
        · intro F a s _ hs
          simp only [has_c hs, Bool.false_eq_true, if_false, bindO_some]
          exact ⟨_, rfl⟩
      · intro F a s _ hs
        simp only [typed_c hs, has_c hs, Bool.false_eq_true, if_false, bindO_some]
        exact ⟨_, rfl⟩
    · intro F a s _ hs
      simp only [skip_c hs, typed_c hs, has_c hs, Bool.false_eq_true, if_false, bindO_some]
      exact ⟨_, rfl⟩
  termination_by n => n

theorem fu_rd (hS : Sane ts) (hf : Fit ts s) (hn : s.n ≤ s.i) : EvN ts (fun x : Fu => x) (fuF ts f s) (fun F => fnM ts F (inj s)) := by
  unfold fnM fuF
  refine EvN.now hf ?_
  refine EvN.bind (EvN.expect hS hf (by decide)) (fun t s1 hr1 hf1 => ?_) ?_
  · have ht : t = tk ts s.i := takeR_t (expectR_take hr1).2
    refine EvN.bind (EvN.name hS hf1) (fun u s2 hr2 hf2 => ?_) ?_
    · unfold listB
      have e : ∀ (A : List Pm → St → R Fu), bindR (bindR (expectR [40] ts s2) fun _ s => bindR (if (tk ts s.i).text = [41] then .ok ([], s) else bindR (pmF ts s) fun x s => itemsB ts (pmF ts) f [x] s) fun l s => bindR (expectR [41] ts s) fun _ s => .ok (l, s)) A =
        bindR (expectR [40] ts s2) fun _ s => bindR (if (tk ts s.i).text = [41] then .ok ([], s) else bindR (pmF ts s) fun x s => itemsB ts (pmF ts) f [x] s) fun l s => bindR (expectR [41] ts s) fun _ s => A l s := by
        intro A
        rcases expectR [40] ts s2 with pn | ⟨t3, s3⟩
        · rfl
        · rw [bindR_ok, bindR_ok]
          rcases (if (tk ts s3.i).text = [41] then (.ok ([], s3) : R (List Pm)) else bindR (pmF ts s3) fun x s => itemsB ts (pmF ts) f [x] s) with pn | ⟨l, s4⟩
          · rfl
          · rw [bindR_ok, bindR_ok]
            rcases expectR [41] ts s4 with pn | ⟨t5, s5⟩ <;> rfl
      rw [e]
      refine EvN.bind (EvN.expect hS hf2 (by decide)) (fun _ s3 hr3 hf3 => ?_) ?_
      · refine EvN.is hS hf3 (by decide) ?_
        refine EvN.bind (c := fun x : List Pm => x) ?_ (fun l s4 hr4 hf4 => ?_) ?_
        · by_cases h41 : (tk ts s3.i).text = [41]
          · simp only [h41, beq_self_eq_true, Bool.true_eq_false, false_and, if_false, if_true]
            exact EvN.ret rfl hf3
          · have hb : ((tk ts s3.i).text == [41]) = false := by simpa using h41
            simp only [if_neg h41, hb, true_and, show (inj s3).e = 0 from rfl, if_true]
            exact EvN.params hS f [] s3 hf3 (by simp)
        · refine EvN.bind (EvN.expect hS hf4 (by decide)) (fun _ s5 hr5 hf5 => ?_) ?_
          · have hb5 : s5.n ≤ s5.i := by
              have b1 := expectR_bal hr1
              have b2 := kindR_bal hr2
              have b3 := expectR_bal hr3
              have b5 := expectR_bal hr5
              have b4 : Bal 0 s3 s4 := by
                split at hr4
                · cases hr4; exact Bal.refl _
                · obtain ⟨x, s6, e1, e2⟩ := bindR_inv hr4
                  have pa : ∀ s x s', pmF ts s = .ok (x, s') → Adv s s' := fun s x s' h => by
                    unfold pmF at h
                    obtain ⟨t1, r1, g1, g2⟩ := bindR_inv h
                    obtain ⟨t2, r2, g3, g4⟩ := bindR_inv g2
                    obtain ⟨y, r3, g5, g6⟩ := bindR_inv g4
                    have q := typeR_bal _ g5
                    have n3 : r3.n = r2.n := by
                      have : ∀ (ks : List Nat) (s s' : St) (y : Nat), typeR ts ks s = .ok (y, s') → s'.n = s.n := by
                        intro ks
                        induction ks with
                        | nil => intro s s' y h; unfold typeR wrongR at h; cases h
                        | cons k ks ih =>
                          intro s s' y h
                          unfold typeR at h
                          split at h
                          · obtain ⟨a, s1, e1, e2⟩ := bindR_inv h
                            cases e2; exact takeR_n e1
                          · exact ih _ _ _ h
                      exact this _ _ _ _ g5
                    have a1 := kindR_adv g1
                    have a2 := expectR_adv g3
                    cases g6
                    unfold Adv at *; unfold Bal at q
                    exact ⟨by omega, by omega⟩
                  exact ((pa _ _ _ e1).trans (itemsB_adv pa f _ _ _ _ e2)).bal
              unfold Bal at *; omega
            rw [ht]
            have key : ∀ y s6, Fit ts s6 → s6.n ≤ s6.i → EvN ts (fun x : Fu => x) (bindR (blockF ts f s6) fun b s => .ok (⟨u.text, l, y, b, (tk ts s.i).pos⟩, s)) (fun F => bindO (blockM ts F (inj s6)) fun bl s => some (⟨u.text, l, y, bl, (tk ts s.i).pos⟩, s)) → True := fun _ _ _ _ _ => trivial
            by_cases h58 : (tk ts s5.i).text = [58]
            · rw [if_pos h58]
              have e2 : ∀ A : Nat → St → R Fu, bindR (bindR (takeR ts s5) fun _ s => typeR ts [1, 2] s) A = if (tk ts s5.i).text = [58] then bindR (takeR ts s5) fun _ s => bindR (typeR ts [1, 2] s) A else Px.gone := by
                intro A
                rw [if_pos h58]
                rcases takeR ts s5 with pn | ⟨t6, s6⟩ <;> rfl
              rw [e2]
              refine EvN.has hS hf5 (by decide) (k' := fun F b s => bindO (if b = true then typedM ts false s else some (0, s)) fun y s => bindO (blockM ts F s) fun bl s => some (_, s)) (fun t6 s6 hr6 _ hf6 => ?_) (fun h => absurd h58 h) ?_
              · simp only [if_true]
                refine EvN.bind (EvN.typedF hS hf6) (fun y s7 hr7 hf7 => ?_) (fun F a s hF hs => ⟨_, by rw [block_c4 hF hs]; rfl⟩)
                have b6 := takeR_bal hr6
                have b7 := typeR_bal _ hr7
                exact EvN.bind ((stmts_rd hS f).1 s7 hf7 (by unfold Bal at *; omega)) (fun bl s8 _ hf8 => EvN.ret rfl hf8) (fun F a s _ hs => ⟨_, rfl⟩)
              · intro F s hF hs
                simp only [Bool.false_eq_true, if_false, bindO_some, block_c4 hF hs]
                exact ⟨_, rfl⟩
            · rw [if_neg h58, bindR_ok]
              rw [has_no hS hf5.1 (by decide) h58]
              simp only [bindO_some, Bool.false_eq_true, if_false]
              exact EvN.bind ((stmts_rd hS f).1 s5 hf5 hb5) (fun bl s8 _ hf8 => EvN.ret rfl hf8) (fun F a s _ hs => ⟨_, rfl⟩)
          · intro F a s hF hs
            simp only [has_c hs, Bool.false_eq_true, if_false, bindO_some, block_c4 hF hs]
            exact ⟨_, rfl⟩
        · intro F a s hF hs
          simp only [skip_c hs, has_c hs, Bool.false_eq_true, if_false, bindO_some, block_c4 hF hs]
          exact ⟨_, rfl⟩
      · intro F a s hF hs
        simp only [is_c hs, if_neg (show ¬ (False ∧ s.e = 0) from fun h => h.1), skip_c hs, has_c hs, Bool.false_eq_true, if_false, bindO_some, block_c4 hF hs, hs, and_false]
        exact ⟨_, rfl⟩
    · intro F a s hF hs
      simp only [is_c hs, skip_c hs, has_c hs, Bool.false_eq_true, if_false, bindO_some, block_c4 hF hs, hs, and_false]
      exact ⟨_, rfl⟩
  · intro F a s hF hs
    simp only [name_c hs, is_c hs, skip_c hs, has_c hs, Bool.false_eq_true, if_false, bindO_some, block_c4 hF hs, hs, and_false]
    exact ⟨_, rfl⟩
end
end Go.Proofs.YtcgllooeimacdaaGreatDoor.Px

/-! A text's program is what the reference's reader reads of its tokens. -/

namespace Go.Proofs.YtcgllooeimacdaaGreatDoor.Px
open Lx (Tok)

theorem fus_rd {ts : List Tok} (hS : Sane ts) : ∀ (f : Nat) (l : List Fu) (s : St), Fit ts s → s.n ≤ s.i → l.length ≤ s.i → EvN ts (fun x : List Fu => x) (fusF ts f l s) (fun F => fnsM ts F l (inj s))
  | 0, l, s, _, _, _ => by rw [fusF]; exact EvN.gone
  | f + 1, l, s, hf, hn, hl => by
    refine EvN.shift ?_
    have hl5 : ¬ 100000 ≤ l.length := by have := hf.1; have := hS.len; omega
    simp only [fnsM, if_neg hl5]
    rw [show fusF ts (f + 1) l s = bindR (fuF ts f s) fun x s => if (tk ts s.i).kind = 0 then .ok (l ++ [x], s) else fusF ts f (l ++ [x]) s by rw [fusF]]
    refine EvN.bind (fu_rd hS hf hn) (fun x s1 hr hf1 => ?_) (fun F a s _ hs => ⟨_, by rw [if_neg hs]⟩)
    simp only [show (inj s1).e = 0 from rfl, if_true]
    refine EvN.now hf1 ?_
    by_cases hk : (tk ts s1.i).kind = 0
    · simp only [if_pos hk]
      exact EvN.ret rfl hf1
    · simp only [if_neg hk]
      have hb : Bal 1 s s1 := by
        unfold fuF at hr
        obtain ⟨a, r1, e1, e2⟩ := bindR_inv hr
        obtain ⟨a', r2, e3, e4⟩ := bindR_inv e2
        obtain ⟨ps, r3, e5, e6⟩ := bindR_inv e4
        obtain ⟨y, r4, e7, e8⟩ := bindR_inv e6
        obtain ⟨bl, r5, e9, e10⟩ := bindR_inv e8
        have b5 : Bal 0 r2 r3 := (listB_adv (fun s x s' h => by
          unfold pmF at h
          obtain ⟨t1, q1, g1, g2⟩ := bindR_inv h
          obtain ⟨t2, q2, g3, g4⟩ := bindR_inv g2
          obtain ⟨y, q3, g5, g6⟩ := bindR_inv g4
          have q := typeR_bal _ g5
          have n3 : q3.n = q2.n := by
            have : ∀ (ks : List Nat) (s s' : St) (y : Nat), typeR ts ks s = .ok (y, s') → s'.n = s.n := by
              intro ks
              induction ks with
              | nil => intro s s' y h; unfold typeR wrongR at h; cases h
              | cons k ks ih =>
                intro s s' y h
                unfold typeR at h
                split at h
                · obtain ⟨a, s1, e1, e2⟩ := bindR_inv h
                  cases e2; exact takeR_n e1
                · exact ih _ _ _ h
            exact this _ _ _ _ g5
          have a1 := kindR_adv g1
          have a2 := expectR_adv g3
          cases g6
          unfold Adv at *; unfold Bal at q
          exact ⟨by omega, by omega⟩) e5).bal
        have b7 : Bal 0 r3 r4 := by
          split at e7
          · obtain ⟨t1, q1, g1, g2⟩ := bindR_inv e7
            exact ((takeR_bal g1).trans (typeR_bal _ g2)).le (by omega)
          · cases e7; exact Bal.refl _
        have b9 := (stmts_bal ts f).1 _ _ _ e9
        have b1 := expectR_bal e1
        have b3 := kindR_bal e3
        cases e10
        exact ((((b1.trans b3).trans b5).trans b7).trans b9).le (by omega)
      exact fus_rd hS f _ s1 hf1 (by unfold Bal at hb; omega) (by unfold Bal at hb; simp; omega)

theorem allX_form : ∀ x ∈ allX, Lx.wordB x = true ∨ ∃ c t, x = c :: t ∧ Lx.smallB c = false ∧ Lx.digitB c = false := by
  have h : (allX.all fun x => Lx.wordB x || match x with
    | [] => false
    | c :: _ => !Lx.smallB c && !Lx.digitB c) = true := by decide
  intro x hx
  have h2 := List.all_eq_true.1 h x hx
  rw [Bool.or_eq_true] at h2
  rcases h2 with h2 | h2
  · exact Or.inl h2
  · match x, h2 with
    | c :: t, h2 =>
      rw [Bool.and_eq_true, Bool.not_eq_true', Bool.not_eq_true'] at h2
      exact Or.inr ⟨c, t, rfl, h2.1, h2.2⟩
/-- What a token is, by its kind. -/
theorem tok_form {pos : Nat} {c : UInt8} {u : List UInt8} {t : Tok} (h : Lx.tokL pos (c :: u) = .ok t) :
    t.kind = 2 ∨ t.kind = 4 ∨ (t.kind = 1 ∧ Lx.wordB t.text = false ∧ ∃ d v, t.text = d :: v ∧ Lx.smallB d = true) ∨ (t.kind = 3 ∧ ∃ d v, t.text = d :: v ∧ Lx.digitB d = true) := by
  rw [Lx.tokL] at h
  split at h
  · rename_i hs
    split at h
    · cases h
    · cases h
      have hn : Lx.nameB c = true := by simp [Lx.nameB, hs]
      by_cases hw : Lx.wordB ((c :: u).takeWhile Lx.nameB) = true
      · left; simp [hw]
      · right; right; left
        have hw' : Lx.wordB ((c :: u).takeWhile Lx.nameB) = false := by simpa using hw
        exact ⟨by simp [hw'], hw', c, u.takeWhile Lx.nameB, by simp [hn], hs⟩
  · split at h
    · rename_i hd
      split at h
      · cases h
      · split at h
        · cases h
        · split at h
          · cases h
          · cases h
            right; right; right
            exact ⟨rfl, c, u.takeWhile Lx.digitB, by simp [hd], hd⟩
    · split at h
      · cases h
      · cases h
        right; left; rfl
theorem chain_mem : ∀ {ts : List Tok}, Lx.Chain ts → ∀ t ∈ ts, (t.text = [] ∧ t.kind = 0) ∨ ∃ pos c u, Lx.tokL pos (c :: u) = .ok t
  | [], h, _, _ => h.elim
  | k :: r, h, t, ht => by
    rcases h with ⟨h1, h2, h3, rfl⟩ | ⟨⟨pos, c, u, _, _, h5⟩, hr⟩
    · obtain rfl : t = k := by simpa using ht
      exact Or.inl ⟨h1, h2⟩
    · rcases List.mem_cons.1 ht with rfl | ht
      · exact Or.inr ⟨pos, c, u, h5⟩
      · exact chain_mem hr t ht
theorem sane_of {l : Bytes} {ts : List Tok} (h : Lx.scan l = .ok ts) (hfin : ∀ i, i < ts.length → (tk ts i).kind ≠ 0 ∨ (tk ts i).text ≠ [] → i + 1 < ts.length) (hlen : ts.length ≤ 30000) : Sane ts := by
  have hch : Lx.Chain ts := by
    unfold Lx.scan at h
    split at h
    · cases h
    · exact Lx.chain _ _ _ _ (Nat.le_refl _) h
  have hm : ∀ i, i < ts.length → tk ts i ∈ ts := fun i hi => by
    unfold tk
    rw [List.getD_eq_getElem?_getD, List.getElem?_eq_getElem hi]
    exact List.getElem_mem hi
  have hf : ∀ i, i < ts.length → ((tk ts i).text = [] ∧ (tk ts i).kind = 0) ∨ (tk ts i).kind = 2 ∨ (tk ts i).kind = 4 ∨ ((tk ts i).kind = 1 ∧ Lx.wordB (tk ts i).text = false ∧ ∃ d v, (tk ts i).text = d :: v ∧ Lx.smallB d = true) ∨ ((tk ts i).kind = 3 ∧ ∃ d v, (tk ts i).text = d :: v ∧ Lx.digitB d = true) := fun i hi => by
    rcases chain_mem hch _ (hm i hi) with h | ⟨pos, c, u, h⟩
    · exact Or.inl h
    · exact Or.inr (tok_form h)
  refine ⟨fun i hi x hx => ?_, fun i hi hk => ?_, hfin, hlen⟩
  · have h1 := hf i hi
    generalize tk ts i = t at *
    have hno : (t.kind ≠ 2 ∧ t.kind ≠ 4) → t.text ≠ x → isT x t = (t.text == x) := by
      intro hk ht
      unfold isT
      have e2 : (t.kind == 2) = false := by simpa using hk.1
      have e4 : (t.kind == 4) = false := by simpa using hk.2
      have e5 : (t.text == x) = false := by simpa using ht
      rw [e2, e4, e5]; rfl
    rcases h1 with ⟨h1, h2⟩ | h1 | h1 | ⟨h1, h2, d, v, h3, h4⟩ | ⟨h1, d, v, h3, h4⟩
    · exact hno ⟨by omega, by omega⟩ (by rw [h1]; exact (allX_ne hx).symm)
    · unfold isT; rw [h1]; simp
    · unfold isT; rw [h1]; simp
    · refine hno ⟨by omega, by omega⟩ ?_
      intro e
      rcases allX_form x hx with hw | ⟨c, w, hc, hs, hd⟩
      · rw [← e, h2] at hw; cases hw
      · rw [h3, hc] at e
        injection e with e1 e2
        rw [e1, hs] at h4; cases h4
    · refine hno ⟨by omega, by omega⟩ ?_
      intro e
      rcases allX_form x hx with hw | ⟨c, w, hc, hs, hd⟩
      · have hdig : ∀ y ∈ Lx.wordsL, ∃ c w, y = c :: w ∧ Lx.digitB c = false := by
          have hh : (Lx.wordsL.all fun y => match y with
            | [] => false
            | c :: _ => !Lx.digitB c) = true := by decide
          intro y hy
          have h2 := List.all_eq_true.1 hh y hy
          match y, h2 with
          | c :: w, h2 => exact ⟨c, w, rfl, by simpa using h2⟩
        obtain ⟨c, w, hc, hd⟩ := hdig x (by simpa [Lx.wordB] using hw)
        rw [h3, hc] at e
        injection e with e1 e2
        rw [e1, hd] at h4; cases h4
      · rw [h3, hc] at e
        injection e with e1 e2
        rw [e1, hd] at h4; cases h4
  · have h1 := hf i hi
    generalize tk ts i = t at *
    have key : ∃ d v, t.text = d :: v ∧ (Lx.smallB d = true ∨ Lx.digitB d = true) := by
      rcases h1 with ⟨h1, h2⟩ | h1 | h1 | ⟨h1, h2, d, v, h3, h4⟩ | ⟨h1, d, v, h3, h4⟩
      · omega
      · omega
      · omega
      · exact ⟨d, v, h3, Or.inl h4⟩
      · exact ⟨d, v, h3, Or.inr h4⟩
    obtain ⟨d, v, h3, h4⟩ := key
    have hb : ∀ c : UInt8, (c = 40 ∨ c = 91 ∨ c = 123 ∨ c = 41 ∨ c = 93 ∨ c = 125) → Lx.smallB c = false ∧ Lx.digitB c = false := by
      intro c hc
      rcases hc with rfl | rfl | rfl | rfl | rfl | rfl <;> exact ⟨by decide, by decide⟩
    have hd : ¬ (d = 40 ∨ d = 91 ∨ d = 123 ∨ d = 41 ∨ d = 93 ∨ d = 125) := fun hc => by
      have := hb d hc
      rcases h4 with h4 | h4
      · rw [this.1] at h4; cases h4
      · rw [this.2] at h4; cases h4
    have ne : ∀ c : UInt8, (c = 40 ∨ c = 91 ∨ c = 123 ∨ c = 41 ∨ c = 93 ∨ c = 125) → (t.text == [c]) = false := by
      intro c hc
      rw [beq_eq_false_iff_ne, h3]
      intro e
      injection e with e1 e2
      rw [e1] at hd
      exact hd hc
    unfold opensB closesB
    rw [ne 40 (by simp), ne 91 (by simp), ne 123 (by simp), ne 41 (by simp), ne 93 (by simp), ne 125 (by simp)]
    exact ⟨rfl, rfl⟩
/-- What the reference's reader comes to. -/
theorem ref_reads {l : Bytes} {ts : List Tok} (h : Lx.scan l = .ok ts) (hfin : ∀ i, i < ts.length → (tk ts i).kind ≠ 0 ∨ (tk ts i).text ≠ [] → i + 1 < ts.length) (h0 : 0 < ts.length) (hlen : ts.length ≤ 30000) :
    ∃ F, RelN ts (fun x : List Fu => x) (fusF ts (fuel ts) [] ⟨0, 0, 0⟩) (fnsM ts F [] ⟨0, 0, 0, 0, 0⟩) := by
  obtain ⟨F, hF⟩ := fus_rd (sane_of h hfin hlen) (fuel ts) [] ⟨0, 0, 0⟩ ⟨h0, by simp, by simp⟩ (Nat.le_refl _) (Nat.le_refl _)
  exact ⟨F, hF F (Nat.le_refl _)⟩
end Go.Proofs.YtcgllooeimacdaaGreatDoor.Px

/-! The reference's reader in memory: its next token, a fault, a token asked for, demanded, a name, a type. -/

namespace Go.Proofs.YtcgllooeimacdaaGreatDoor
open Go Go.RowKit Px
open Lx (Tok)

/-- A reader's cells. -/
abbrev rdCells (g L cap : Nat) (s : RdS) : Array Value := #[.slice (some ⟨g, 0, none⟩) L cap, .int .i64 (s.i : Int), .int .i64 s.o, .int .i64 (s.n : Int), .int .i64 (s.pl : Int), .int .i64 (s.e : Int)]
structure RW (b g cap : Nat) (ts : List Tok) (s : RdS) (w : World) : Prop where
  blk : Blk b (rdCells g ts.length cap s) 70 w
  toks : Toks g ts w
  ne : g ≠ b
  len : ts.length ≤ 30000

section
variable {b g cap : Nat} {ts : List Tok} {s s' : RdS} {w w' : World}
theorem RW.below (h : RW b g cap ts s w) (hb : Below w.heap.size w w') : RW b g cap ts s w' :=
  ⟨h.blk.below hb h.blk.lt, h.toks.stays (Nat.lt_of_lt_of_le h.toks.lt hb.size) (hb.block g h.toks.lt), h.ne, h.len⟩
theorem RW.other {row : Option Nat} (h : RW b g cap ts s w) (hg : w.grownBy w' row) (h1 : some b ≠ row) (h2 : some g ≠ row) : RW b g cap ts s w' :=
  ⟨h.blk.other hg h1, h.toks.stays (Nat.lt_of_lt_of_le h.toks.lt hg.size) (hg.block g h.toks.lt h2), h.ne, h.len⟩
theorem RW.step (h : RW b g cap ts s w) (hg : w.grownBy w' (some b)) (hb : Blk b (rdCells g ts.length cap s') 70 w') : RW b g cap ts s' w' :=
  ⟨hb, h.toks.stays (Nat.lt_of_lt_of_le h.toks.lt hg.size) (hg.block g h.toks.lt (by have := h.ne; simpa using this)), h.ne, h.len⟩
end
section
variable {b g cap : Nat} {ts : List Tok} {s : RdS} {w : World}
theorem RW.c0 (h : RW b g cap ts s w) : w.cell? ⟨b, 0, none⟩ = some (.slice (some ⟨g, 0, none⟩) ts.length cap) := h.blk.get 0 _ rfl
theorem RW.c1 (h : RW b g cap ts s w) : w.cell? ⟨b, 1, none⟩ = some (.int .i64 (s.i : Int)) := h.blk.get 1 _ rfl
theorem RW.c2 (h : RW b g cap ts s w) : w.cell? ⟨b, 2, none⟩ = some (.int .i64 s.o) := h.blk.get 2 _ rfl
theorem RW.c3 (h : RW b g cap ts s w) : w.cell? ⟨b, 3, none⟩ = some (.int .i64 (s.n : Int)) := h.blk.get 3 _ rfl
theorem RW.c4 (h : RW b g cap ts s w) : w.cell? ⟨b, 4, none⟩ = some (.int .i64 (s.pl : Int)) := h.blk.get 4 _ rfl
theorem RW.c5 (h : RW b g cap ts s w) : w.cell? ⟨b, 5, none⟩ = some (.int .i64 (s.e : Int)) := h.blk.get 5 _ rfl
theorem RW.lt (h : RW b g cap ts s w) : b < w.heap.size := h.blk.lt
end
/-- What a call of the reader leaves. -/
def RPo (b g cap : Nat) (ts : List Tok) (w : World) (V : Ending → World → Prop) (s' : RdS) (e : Ending) (w' : World) : Prop := w.grownBy w' (some b) ∧ V e w' ∧ RW b g cap ts s' w'

theorem nowM_inv {ts : List Tok} {s s' : RdS} {t : Tok} (h : nowM ts s = some (t, s')) : s' = s ∧ ((s.e = 0 ∧ s.i < ts.length ∧ t = tk ts s.i) ∨ (s.e ≠ 0 ∧ t = tokZ)) := by
  unfold nowM at h
  split at h
  · rename_i he
    split at h
    · cases h; exact ⟨rfl, Or.inl ⟨he, by assumption, rfl⟩⟩
    · cases h
  · rename_i he
    cases h; exact ⟨rfl, Or.inr ⟨he, rfl⟩⟩
theorem isM_inv {ts : List Tok} {x : Bytes} {s s' : RdS} {v : Bool} (h : isM ts x s = some (v, s')) : s' = s ∧ ∃ t, nowM ts s = some (t, s) ∧ v = isT x t := by
  unfold isM at h
  obtain ⟨t, s1, h1, h2⟩ := bindO_inv h
  cases h2
  obtain ⟨rfl, _⟩ := nowM_inv h1
  exact ⟨rfl, t, h1, rfl⟩
theorem isM_true {ts : List Tok} {x : Bytes} {s : RdS} (h : isM ts x s = some (true, s)) : s.e = 0 ∧ s.i < ts.length := by
  obtain ⟨_, t, h1, h2⟩ := isM_inv h
  obtain ⟨_, h3 | h3⟩ := nowM_inv h1
  · exact ⟨h3.1, h3.2.1⟩
  · rw [h3.2] at h2; simp [isT, tokZ] at h2

set_option maxRecDepth 100000 in
theorem now_w (b g cap : Nat) (ts : List Tok) (s s' : RdS) (t : Tok) (w : World) (hw : RW b g cap ts s w) (h : nowM ts s = some (t, s')) :
    Calls Tryz.prog 22 #[.pointer (some ⟨b, 0, none⟩)] w fun e w' => e = .returned (tokV' t) ∧ Below w.heap.size w w' := by
  obtain ⟨rfl, h⟩ := nowM_inv h
  obtain ⟨W, hW⟩ : ∃ W, W = w.alloc tok0 := ⟨_, rfl⟩
  have hbw : Below w.heap.size w W := by rw [hW]; exact (Below.refl w.heap.size w).alloc (Nat.le_refl _) tok0
  have hz : Blk w.heap.size #[.int .u8 0, .int .i64 0, .string ⟨#[]⟩, .int .i64 0] 55 W := by rw [hW]; exact Blk.new _ _ _
  have hw1 : RW b g cap ts s' W := hw.below hbw
  have p5 := hw1.c5
  have HW1 := Lib.hid hW
  rcases h with ⟨he, hi, rfl⟩ | ⟨he, rfl⟩
  · obtain ⟨V, hV⟩ : ∃ V, V = W.drewN 1 := ⟨_, rfl⟩
    have hbv : Below w.heap.size w V := by rw [hV]; exact hbw.drew
    have hzv : Blk w.heap.size #[.int .u8 0, .int .i64 0, .string ⟨#[]⟩, .int .i64 0] 55 V := by rw [hV]; exact hz.drewN 1
    have p0 := hw1.c0
    have p1 := hw1.c1
    have c0 := hw1.toks.c0 s'.i hi
    have c1 := hw1.toks.c1 s'.i hi
    have c2 := hw1.toks.c2 s'.i hi
    have c3 := hw1.toks.c3 s'.i hi
    obtain ⟨z0, z1, z2, z3⟩ := hzv.get4
    obtain ⟨f0, f1, f2, f3⟩ := hzv.free4
    have hlt : (s'.i : Int) < (ts.length : Int) := by omega
    have hlen : (ts.length : Int) ≤ 30000 := by have := hw.len; omega
    have he' : ((s'.e : Int) != 0) = false := by simp [he]
    generalize tk ts s'.i = t at *
    have HY := Lib.hid (hzv.set4 (.int .u8 (t.kind : Int)) (.int .i64 (t.pos : Int)) (.string ⟨t.text.toArray⟩) (.int .i64 (t.num : Int))).get4
    have HBB := Lib.hid (below_set4 hbv (Nat.le_refl _) (.int .u8 (t.kind : Int)) (.int .i64 (t.pos : Int)) (.string ⟨t.text.toArray⟩) (.int .i64 (t.num : Int)))
    have HV1 := Lib.hid hV
    clear hw hw1 hW hz hbw hbv hV hzv he
    go_enter Tryz.func22, Tryz.ntmps22
    go_upto_region 1 with (fail)
    rw [← HW1.out]
    go_wp2_with fail
    go_still_tail 10, (by kernel_rfl)
    change wpList _ _ _ _ _ (W.drewN 1)
    rw [← HV1.out]
    go_wp2
    rw [← set4_eq]
    clear z0 z1 z2 z3 f0 f1 f2 f3 c0 c1 c2 c3 p0 p1
    obtain ⟨y0, y1, y2, y3⟩ := HY.out
    refine bodyPost_ret (v := tokV' t) (by simp [results, Tryz.results22, go_sem, y0, y1, y2, y3, tokV']) rfl ⟨rfl, HBB.out⟩
  · have he' : ((s'.e : Int) != 0) = true := by simp; omega
    have HBW := Lib.hid hbw
    have HZ := Lib.hid (hz.set4 (.int .u8 0) (.int .i64 0) (.string ⟨#[]⟩) (.int .i64 0)).get4
    have HBB := Lib.hid (below_set4 hbw (Nat.le_refl _) (.int .u8 0) (.int .i64 0) (.string ⟨#[]⟩) (.int .i64 0))
    obtain ⟨z0, z1, z2, z3⟩ := hz.get4
    obtain ⟨f0, f1, f2, f3⟩ := hz.free4
    clear hw hw1 hW hz hbw he
    go_enter Tryz.func22, Tryz.ntmps22
    go_upto_region 1 with (fail)
    rw [← HW1.out]
    go_wp2
    rw [← set4_eq]
    clear z0 z1 z2 z3 f0 f1 f2 f3
    obtain ⟨y0, y1, y2, y3⟩ := HZ.out
    refine bodyPost_ret (v := tokV' tokZ) (by simp [results, Tryz.results22, go_sem, y0, y1, y2, y3, tokV', tokZ]) rfl ⟨rfl, HBB.out⟩

def FailP (b g cap : Nat) (ts : List Tok) (s' : RdS) (w : World) (e : Ending) (w' : World) : Prop := e = .returned (.tuple #[]) ∧ w.grownBy w' (some b) ∧ RW b g cap ts s' w'
set_option maxRecDepth 100000 in
theorem fail_w (b g cap n : Nat) (hn : n ≤ 99) (ts : List Tok) (s s' : RdS) (w : World) (hw : RW b g cap ts s w) (h : failM ts n s = some ((), s')) :
    Calls Tryz.prog 56 #[.pointer (some ⟨b, 0, none⟩), .int .i64 (n : Int)] w (FailP b g cap ts s' w) := by
  unfold failM at h
  have p5 := hw.c5
  by_cases he : s.e = 0
  · rw [if_pos he] at h
    by_cases hi : s.i < ts.length
    · rw [if_pos hi] at h
      obtain rfl : _ = s' := (Prod.mk.inj (Option.some.inj h)).2
      have p0 := hw.c0
      have p1 := hw.c1
      have c1 := hw.toks.c1 s.i hi
      have q4 := hw.c4
      have f4 := hw.blk.free 4
      have f5 := hw.blk.free 5
      have hlt : (s.i : Int) < (ts.length : Int) := by omega
      have hlen : (ts.length : Int) ≤ 30000 := by have := hw.len; omega
      have he' : ((s.e : Int) == 0) = true := by simp [he]
      obtain ⟨X, hX⟩ : ∃ X, X = ((w.setCell ⟨b, 4, none⟩ (.int .i64 ((tk ts s.i).pos : Int))).setCell ⟨b, 5, none⟩ (.int .i64 (n : Int))).drew := ⟨_, rfl⟩
      have hg : w.grownBy X (some b) := by rw [hX]; exact gtrans (gtrans (Lib.grownBy_setCell _ _ _ _) (Lib.grownBy_setCell _ _ _ _)) (grown_of_below (Below.refl _ _).drew)
      have hB : Blk b (rdCells g ts.length cap ⟨s.i, s.o, s.n, (tk ts s.i).pos, n⟩) 70 X := by rw [hX]; exact (hw.blk.set 4 _).set 5 _
      have FIN := Lib.hid (show FailP b g cap ts ⟨s.i, s.o, s.n, (tk ts s.i).pos, n⟩ w (.returned (.tuple #[])) X from ⟨rfl, hg, hw.step hg hB⟩)
      have HXX := Lib.hid hX
      generalize (tk ts s.i).pos = P at *
      clear hw hX hg hB he h
      go_enter Tryz.func56, Tryz.ntmps56
      go_wp2_with fail
      go_region
      all_goals (go_wp2_with fail; go_end0; rw [← HXX.out]; exact FIN.out)
    · rw [if_neg hi] at h; cases h
  · rw [if_neg he] at h
    obtain rfl : s = s' := (Prod.mk.inj (Option.some.inj h)).2
    have he' : ((s.e : Int) == 0) = false := by simp; omega
    have FIN := Lib.hid (show FailP b g cap ts s w (.returned (.tuple #[])) w from ⟨rfl, grown_of_below (Below.refl _ _), hw⟩)
    clear hw he h
    go_enter Tryz.func56, Tryz.ntmps56
    go_wp2
    go_end0
    exact FIN.out

set_option maxRecDepth 100000 in
theorem is_w (b g cap : Nat) (ts : List Tok) (s s' : RdS) (x : Bytes) (v : Bool) (w : World) (hw : RW b g cap ts s w) (h : isM ts x s = some (v, s')) :
    Calls Tryz.prog 37 #[.pointer (some ⟨b, 0, none⟩), .string ⟨x.toArray⟩] w fun e w' => e = .returned (.bool v) ∧ Below w.heap.size w w' := by
  obtain ⟨rfl, t, h1, rfl⟩ := isM_inv h
  have HN := Lib.hid (now_w b g cap ts s' s' t w hw h1)
  have hwl := hw.lt
  clear hw h h1
  obtain ⟨K, P, T, NN⟩ := t
  go_enter Tryz.func37, Tryz.ntmps37
  go_wp2_with fail
  refine HN.out.mono ?_
  rintro e w1 ⟨rfl, hb⟩
  unfold tokV'
  obtain ⟨W, hW⟩ : ∃ W, W = w1.alloc (.cells #[.int .u8 (K : Int), .int .i64 (P : Int), .string ⟨T.toArray⟩, .int .i64 (NN : Int)] 55) := ⟨_, rfl⟩
  have hbW : Below w.heap.size w W := by rw [hW]; exact hb.alloc hb.size _
  have ht : Blk w1.heap.size #[.int .u8 (K : Int), .int .i64 (P : Int), .string ⟨T.toArray⟩, .int .i64 (NN : Int)] 55 W := by rw [hW]; exact Blk.new _ _ _
  obtain ⟨t0, t1, t2, t3⟩ := ht.get4
  have HB := Lib.hid hbW
  have HWW := Lib.hid hW
  clear hb hW hbW ht
  go_upto_region 2 with (fail)
  rw [← HWW.out]
  clear HWW
  by_cases k2 : K = 2
  · have e2 : ((K : Int) == 2) = true := by simp [k2]
    have FIN := Lib.hid (show isT x ⟨K, P, T, NN⟩ = (T == x) by unfold isT; simp [k2])
    clear k2
    go_wp2
    go_ret
    rw [FIN.out]
    exact ⟨rfl, HB.out⟩
  · have e2 : ((K : Int) == 2) = false := by simp; omega
    by_cases k4 : K = 4
    · have e4 : ((K : Int) == 4) = true := by simp [k4]
      have FIN := Lib.hid (show isT x ⟨K, P, T, NN⟩ = (T == x) by unfold isT; simp [k4])
      clear k4 k2
      go_wp2
      go_ret
      rw [FIN.out]
      exact ⟨rfl, HB.out⟩
    · have e4 : ((K : Int) == 4) = false := by simp; omega
      have FIN := Lib.hid (show isT x ⟨K, P, T, NN⟩ = false by unfold isT; simp [k2, k4])
      clear k4 k2
      go_wp2
      go_ret
      rw [FIN.out]
      exact ⟨rfl, HB.out⟩
end Go.Proofs.YtcgllooeimacdaaGreatDoor

/-! The reference's reader in memory: a token demanded, taken if it comes, a name, a type. -/

namespace Go.Proofs.YtcgllooeimacdaaGreatDoor
open Go Go.RowKit Px
open Lx (Tok)

set_option maxRecDepth 100000 in
set_option maxHeartbeats 2000000 in
theorem skip_w (b g cap : Nat) (ts : List Tok) (s s' : RdS) (x : Bytes) (w : World) (hw : RW b g cap ts s w) (h : skipM ts x s = some ((), s')) :
    Calls Tryz.prog 35 #[.pointer (some ⟨b, 0, none⟩), .string ⟨x.toArray⟩] w (FailP b g cap ts s' w) := by
  unfold skipM at h
  obtain ⟨v, s1, h1, h2⟩ := bindO_inv h
  obtain ⟨rfl, _⟩ := isM_inv h1
  have HI := Lib.hid (is_w b g cap ts s1 s1 x v w hw h1)
  have HW := Lib.hid hw
  have hwl := hw.lt
  cases v with
  | false =>
    rw [if_pos rfl] at h2
    have HF := Lib.hid fun w1 (hw1 : RW b g cap ts s1 w1) => fail_w b g cap 4 (by omega) ts s1 s' w1 hw1 h2
    clear h h1 h2 hw
    go_enter Tryz.func35, Tryz.ntmps35
    go_wp2_with fail
    refine HI.out.mono ?_
    rintro e w1 ⟨rfl, hb⟩
    have HB := Lib.hid hb
    clear hb
    go_wp2_with fail
    refine (HF.out w1 (HW.out.below HB.out)).mono ?_
    rintro e w2 ⟨rfl, hg, hr⟩
    have FIN := Lib.hid (show FailP b g cap ts s' w (.returned (.tuple #[])) w2 from ⟨rfl, gtrans (grown_of_below HB.out) hg, hr⟩)
    clear hg hr
    go_wp2
    go_end0
    exact FIN.out
  | true =>
    rw [if_neg (by decide)] at h2
    obtain ⟨he, hi⟩ := isM_true h1
    clear h h1
    have HH2 := Lib.hid h2
    have hib : (s1.i : Int) < 30000 := by have := hw.len; omega
    clear h2 hw he hi
    go_enter Tryz.func35, Tryz.ntmps35
    go_wp2_with fail
    refine HI.out.mono ?_
    rintro e w1 ⟨rfl, hb⟩
    have hr1 := HW.out.below hb
    have hg1 : w.grownBy w1 (some b) := grown_of_below hb
    have c1 := hr1.c1
    have c2 := hr1.c2
    have f1 := hr1.blk.free 1
    have f2 := hr1.blk.free 2
    have HB := Lib.hid (And.intro hr1 hg1)
    clear hb hr1 hg1
    have hT : x = [40] ∨ x = [91] ∨ x = [123] ∨ x = [41] ∨ x = [93] ∨ x = [125] ∨ ((x == [40]) = false ∧ (x == [91]) = false ∧ (x == [123]) = false ∧ (x == [41]) = false ∧ (x == [93]) = false ∧ (x == [125]) = false) := by
      simp only [beq_eq_false_iff_ne]
      by_cases h1 : x = [40]
      · exact Or.inl h1
      by_cases h2 : x = [91]
      · exact Or.inr (Or.inl h2)
      by_cases h3 : x = [123]
      · exact Or.inr (Or.inr (Or.inl h3))
      by_cases h4 : x = [41]
      · exact Or.inr (Or.inr (Or.inr (Or.inl h4)))
      by_cases h5 : x = [93]
      · exact Or.inr (Or.inr (Or.inr (Or.inr (Or.inl h5))))
      by_cases h6 : x = [125]
      · exact Or.inr (Or.inr (Or.inr (Or.inr (Or.inr (Or.inl h6)))))
      · exact Or.inr (Or.inr (Or.inr (Or.inr (Or.inr (Or.inr ⟨h1, h2, h3, h4, h5, h6⟩)))))
    rcases hT with rfl | rfl | rfl | rfl | rfl | rfl | ⟨e1, e2, e3, e4, e5, e6⟩
    · have h2 := HH2.out
      rw [if_pos (show opensB [40] = true by decide)] at h2
      by_cases ho : s1.o = 200
      · rw [if_pos ho] at h2
        have ho' : (s1.o == 200) = true := by simp [ho]
        have HF := Lib.hid (fail_w b g cap 5 (by omega) ts s1 s' w1 HB.out.1 h2)
        clear h2 ho
        go_wp2_with fail
        refine HF.out.mono ?_
        rintro e w2 ⟨rfl, hg, hr⟩
        have FIN := Lib.hid (show FailP b g cap ts s' w (.returned (.tuple #[])) w2 from ⟨rfl, gtrans HB.out.2 hg, hr⟩)
        clear hg hr
        go_wp2
        go_end0
        exact FIN.out
      · rw [if_neg ho] at h2
        have ho' : (s1.o == 200) = false := by simpa using ho
        by_cases hb2 : s1.o < 200 ∧ -1000000 < s1.o
        · rw [if_pos hb2] at h2
          obtain rfl : _ = s' := (Prod.mk.inj (Option.some.inj h2)).2
          obtain ⟨X, hX⟩ : ∃ X, X = (w1.setCell ⟨b, 2, none⟩ (.int .i64 (s1.o + 1))).setCell ⟨b, 1, none⟩ (.int .i64 ((s1.i : Int) + 1)) := ⟨_, rfl⟩
          have hg : w1.grownBy X (some b) := by rw [hX]; exact gtrans (Lib.grownBy_setCell _ _ _ _) (Lib.grownBy_setCell _ _ _ _)
          have hB : Blk b (rdCells g ts.length cap ⟨s1.i + 1, s1.o + 1, s1.n, s1.pl, s1.e⟩) 70 X := by rw [hX]; exact (HB.out.1.blk.set 2 _).set 1 _
          have FIN := Lib.hid (show FailP b g cap ts ⟨s1.i + 1, s1.o + 1, s1.n, s1.pl, s1.e⟩ w (.returned (.tuple #[])) X from ⟨rfl, gtrans HB.out.2 hg, HB.out.1.step hg hB⟩)
          have HXX := Lib.hid hX
          have ob1 := hb2.1
          have ob2 := hb2.2
          clear h2 hX hg hB hb2 ho
          go_wp2
          go_end0
          rw [← HXX.out]
          exact FIN.out
        · rw [if_neg hb2] at h2; cases h2
    · have h2 := HH2.out
      rw [if_pos (show opensB [91] = true by decide)] at h2
      by_cases ho : s1.o = 200
      · rw [if_pos ho] at h2
        have ho' : (s1.o == 200) = true := by simp [ho]
        have HF := Lib.hid (fail_w b g cap 5 (by omega) ts s1 s' w1 HB.out.1 h2)
        clear h2 ho
        go_wp2_with fail
        refine HF.out.mono ?_
        rintro e w2 ⟨rfl, hg, hr⟩
        have FIN := Lib.hid (show FailP b g cap ts s' w (.returned (.tuple #[])) w2 from ⟨rfl, gtrans HB.out.2 hg, hr⟩)
        clear hg hr
        go_wp2
        go_end0
        exact FIN.out
      · rw [if_neg ho] at h2
        have ho' : (s1.o == 200) = false := by simpa using ho
        by_cases hb2 : s1.o < 200 ∧ -1000000 < s1.o
        · rw [if_pos hb2] at h2
          obtain rfl : _ = s' := (Prod.mk.inj (Option.some.inj h2)).2
          obtain ⟨X, hX⟩ : ∃ X, X = (w1.setCell ⟨b, 2, none⟩ (.int .i64 (s1.o + 1))).setCell ⟨b, 1, none⟩ (.int .i64 ((s1.i : Int) + 1)) := ⟨_, rfl⟩
          have hg : w1.grownBy X (some b) := by rw [hX]; exact gtrans (Lib.grownBy_setCell _ _ _ _) (Lib.grownBy_setCell _ _ _ _)
          have hB : Blk b (rdCells g ts.length cap ⟨s1.i + 1, s1.o + 1, s1.n, s1.pl, s1.e⟩) 70 X := by rw [hX]; exact (HB.out.1.blk.set 2 _).set 1 _
          have FIN := Lib.hid (show FailP b g cap ts ⟨s1.i + 1, s1.o + 1, s1.n, s1.pl, s1.e⟩ w (.returned (.tuple #[])) X from ⟨rfl, gtrans HB.out.2 hg, HB.out.1.step hg hB⟩)
          have HXX := Lib.hid hX
          have ob1 := hb2.1
          have ob2 := hb2.2
          clear h2 hX hg hB hb2 ho
          go_wp2
          go_end0
          rw [← HXX.out]
          exact FIN.out
        · rw [if_neg hb2] at h2; cases h2
    · have h2 := HH2.out
      rw [if_pos (show opensB [123] = true by decide)] at h2
      by_cases ho : s1.o = 200
      · rw [if_pos ho] at h2
        have ho' : (s1.o == 200) = true := by simp [ho]
        have HF := Lib.hid (fail_w b g cap 5 (by omega) ts s1 s' w1 HB.out.1 h2)
        clear h2 ho
        go_wp2_with fail
        refine HF.out.mono ?_
        rintro e w2 ⟨rfl, hg, hr⟩
        have FIN := Lib.hid (show FailP b g cap ts s' w (.returned (.tuple #[])) w2 from ⟨rfl, gtrans HB.out.2 hg, hr⟩)
        clear hg hr
        go_wp2
        go_end0
        exact FIN.out
      · rw [if_neg ho] at h2
        have ho' : (s1.o == 200) = false := by simpa using ho
        by_cases hb2 : s1.o < 200 ∧ -1000000 < s1.o
        · rw [if_pos hb2] at h2
          obtain rfl : _ = s' := (Prod.mk.inj (Option.some.inj h2)).2
          obtain ⟨X, hX⟩ : ∃ X, X = (w1.setCell ⟨b, 2, none⟩ (.int .i64 (s1.o + 1))).setCell ⟨b, 1, none⟩ (.int .i64 ((s1.i : Int) + 1)) := ⟨_, rfl⟩
          have hg : w1.grownBy X (some b) := by rw [hX]; exact gtrans (Lib.grownBy_setCell _ _ _ _) (Lib.grownBy_setCell _ _ _ _)
          have hB : Blk b (rdCells g ts.length cap ⟨s1.i + 1, s1.o + 1, s1.n, s1.pl, s1.e⟩) 70 X := by rw [hX]; exact (HB.out.1.blk.set 2 _).set 1 _
          have FIN := Lib.hid (show FailP b g cap ts ⟨s1.i + 1, s1.o + 1, s1.n, s1.pl, s1.e⟩ w (.returned (.tuple #[])) X from ⟨rfl, gtrans HB.out.2 hg, HB.out.1.step hg hB⟩)
          have HXX := Lib.hid hX
          have ob1 := hb2.1
          have ob2 := hb2.2
          clear h2 hX hg hB hb2 ho
          go_wp2
          go_end0
          rw [← HXX.out]
          exact FIN.out
        · rw [if_neg hb2] at h2; cases h2
    · have h2 := HH2.out
      rw [if_neg (show ¬ opensB [41] = true by decide), if_pos (show closesB [41] = true by decide)] at h2
      by_cases hb2 : s1.o ≤ 200 ∧ -1000000 < s1.o
      · rw [if_pos hb2] at h2
        obtain rfl : _ = s' := (Prod.mk.inj (Option.some.inj h2)).2
        obtain ⟨X, hX⟩ : ∃ X, X = (w1.setCell ⟨b, 2, none⟩ (.int .i64 (s1.o - 1))).setCell ⟨b, 1, none⟩ (.int .i64 ((s1.i : Int) + 1)) := ⟨_, rfl⟩
        have hg : w1.grownBy X (some b) := by rw [hX]; exact gtrans (Lib.grownBy_setCell _ _ _ _) (Lib.grownBy_setCell _ _ _ _)
        have hB : Blk b (rdCells g ts.length cap ⟨s1.i + 1, s1.o - 1, s1.n, s1.pl, s1.e⟩) 70 X := by rw [hX]; exact (HB.out.1.blk.set 2 _).set 1 _
        have FIN := Lib.hid (show FailP b g cap ts ⟨s1.i + 1, s1.o - 1, s1.n, s1.pl, s1.e⟩ w (.returned (.tuple #[])) X from ⟨rfl, gtrans HB.out.2 hg, HB.out.1.step hg hB⟩)
        have HXX := Lib.hid hX
        have ob1 := hb2.1
        have ob2 := hb2.2
        clear h2 hX hg hB hb2
        go_wp2
        go_end0
        rw [← HXX.out]
        exact FIN.out
      · rw [if_neg hb2] at h2; cases h2
    · have h2 := HH2.out
      rw [if_neg (show ¬ opensB [93] = true by decide), if_pos (show closesB [93] = true by decide)] at h2
      by_cases hb2 : s1.o ≤ 200 ∧ -1000000 < s1.o
      · rw [if_pos hb2] at h2
        obtain rfl : _ = s' := (Prod.mk.inj (Option.some.inj h2)).2
        obtain ⟨X, hX⟩ : ∃ X, X = (w1.setCell ⟨b, 2, none⟩ (.int .i64 (s1.o - 1))).setCell ⟨b, 1, none⟩ (.int .i64 ((s1.i : Int) + 1)) := ⟨_, rfl⟩
        have hg : w1.grownBy X (some b) := by rw [hX]; exact gtrans (Lib.grownBy_setCell _ _ _ _) (Lib.grownBy_setCell _ _ _ _)
        have hB : Blk b (rdCells g ts.length cap ⟨s1.i + 1, s1.o - 1, s1.n, s1.pl, s1.e⟩) 70 X := by rw [hX]; exact (HB.out.1.blk.set 2 _).set 1 _
        have FIN := Lib.hid (show FailP b g cap ts ⟨s1.i + 1, s1.o - 1, s1.n, s1.pl, s1.e⟩ w (.returned (.tuple #[])) X from ⟨rfl, gtrans HB.out.2 hg, HB.out.1.step hg hB⟩)
        have HXX := Lib.hid hX
        have ob1 := hb2.1
        have ob2 := hb2.2
        clear h2 hX hg hB hb2
        go_wp2
        go_end0
        rw [← HXX.out]
        exact FIN.out
      · rw [if_neg hb2] at h2; cases h2
    · have h2 := HH2.out
      rw [if_neg (show ¬ opensB [125] = true by decide), if_pos (show closesB [125] = true by decide)] at h2
      by_cases hb2 : s1.o ≤ 200 ∧ -1000000 < s1.o
      · rw [if_pos hb2] at h2
        obtain rfl : _ = s' := (Prod.mk.inj (Option.some.inj h2)).2
        obtain ⟨X, hX⟩ : ∃ X, X = (w1.setCell ⟨b, 2, none⟩ (.int .i64 (s1.o - 1))).setCell ⟨b, 1, none⟩ (.int .i64 ((s1.i : Int) + 1)) := ⟨_, rfl⟩
        have hg : w1.grownBy X (some b) := by rw [hX]; exact gtrans (Lib.grownBy_setCell _ _ _ _) (Lib.grownBy_setCell _ _ _ _)
        have hB : Blk b (rdCells g ts.length cap ⟨s1.i + 1, s1.o - 1, s1.n, s1.pl, s1.e⟩) 70 X := by rw [hX]; exact (HB.out.1.blk.set 2 _).set 1 _
        have FIN := Lib.hid (show FailP b g cap ts ⟨s1.i + 1, s1.o - 1, s1.n, s1.pl, s1.e⟩ w (.returned (.tuple #[])) X from ⟨rfl, gtrans HB.out.2 hg, HB.out.1.step hg hB⟩)
        have HXX := Lib.hid hX
        have ob1 := hb2.1
        have ob2 := hb2.2
        clear h2 hX hg hB hb2
        go_wp2
        go_end0
        rw [← HXX.out]
        exact FIN.out
      · rw [if_neg hb2] at h2; cases h2
    · have h2 := HH2.out
      rw [if_neg (show ¬ opensB x = true by unfold opensB; rw [e1, e2, e3]; decide), if_neg (show ¬ closesB x = true by unfold closesB; rw [e4, e5, e6]; decide)] at h2
      obtain rfl : _ = s' := (Prod.mk.inj (Option.some.inj h2)).2
      obtain ⟨X, hX⟩ : ∃ X, X = w1.setCell ⟨b, 1, none⟩ (.int .i64 ((s1.i : Int) + 1)) := ⟨_, rfl⟩
      have hg : w1.grownBy X (some b) := by rw [hX]; exact Lib.grownBy_setCell _ _ _ _
      have hB : Blk b (rdCells g ts.length cap ⟨s1.i + 1, s1.o, s1.n, s1.pl, s1.e⟩) 70 X := by rw [hX]; exact HB.out.1.blk.set 1 _
      have FIN := Lib.hid (show FailP b g cap ts ⟨s1.i + 1, s1.o, s1.n, s1.pl, s1.e⟩ w (.returned (.tuple #[])) X from ⟨rfl, gtrans HB.out.2 hg, HB.out.1.step hg hB⟩)
      have HXX := Lib.hid hX
      clear h2 hX hg hB
      go_wp2
      go_end0
      rw [← HXX.out]
      exact FIN.out

def HasP (b g cap : Nat) (ts : List Tok) (v : Bool) (s' : RdS) (w : World) (e : Ending) (w' : World) : Prop := e = .returned (.bool v) ∧ w.grownBy w' (some b) ∧ RW b g cap ts s' w'
set_option maxRecDepth 100000 in
theorem has_w (b g cap : Nat) (ts : List Tok) (s s' : RdS) (x : Bytes) (v : Bool) (w : World) (hw : RW b g cap ts s w) (h : hasM ts x s = some (v, s')) :
    Calls Tryz.prog 38 #[.pointer (some ⟨b, 0, none⟩), .string ⟨x.toArray⟩] w (HasP b g cap ts v s' w) := by
  unfold hasM at h
  obtain ⟨u, s1, h1, h2⟩ := bindO_inv h
  obtain ⟨rfl, _⟩ := isM_inv h1
  have HI := Lib.hid (is_w b g cap ts s1 s1 x u w hw h1)
  have HW := Lib.hid hw
  cases u with
  | false =>
    rw [if_pos rfl] at h2
    obtain ⟨rfl, rfl⟩ := Prod.mk.inj (Option.some.inj h2)
    clear h h1 h2 hw
    go_enter Tryz.func38, Tryz.ntmps38
    go_wp2_with fail
    refine HI.out.mono ?_
    rintro e w1 ⟨rfl, hb⟩
    have FIN := Lib.hid (show HasP b g cap ts false s1 w (.returned (.bool false)) w1 from ⟨rfl, grown_of_below hb, HW.out.below hb⟩)
    clear hb
    go_wp2
    go_ret
    exact FIN.out
  | true =>
    rw [if_neg (by decide)] at h2
    obtain ⟨⟨⟩, s2, h3, h4⟩ := bindO_inv h2
    obtain ⟨rfl, rfl⟩ := Prod.mk.inj (Option.some.inj h4)
    have HS := Lib.hid fun w1 (hw1 : RW b g cap ts s1 w1) => skip_w b g cap ts s1 s2 x w1 hw1 h3
    clear h h1 h2 h3 h4 hw
    go_enter Tryz.func38, Tryz.ntmps38
    go_wp2_with fail
    refine HI.out.mono ?_
    rintro e w1 ⟨rfl, hb⟩
    have HB := Lib.hid hb
    clear hb
    go_wp2_with fail
    refine (HS.out w1 (HW.out.below HB.out)).mono ?_
    rintro e w2 ⟨rfl, hg, hr⟩
    have c5 := hr.c5
    have FIN := Lib.hid (show HasP b g cap ts (s2.e == 0) s2 w (.returned (.bool (s2.e == 0))) w2 from ⟨rfl, gtrans (grown_of_below HB.out) hg, hr⟩)
    have e0 : ((s2.e : Int) == 0) = (s2.e == 0) := by rw [Bool.eq_iff_iff, beq_iff_eq, beq_iff_eq]; omega
    clear hg hr
    go_wp2
    go_ret
    exact FIN.out

def NmP (b g cap : Nat) (ts : List Tok) (nm : Bytes) (s' : RdS) (w : World) (e : Ending) (w' : World) : Prop := e = .returned (.string ⟨nm.toArray⟩) ∧ w.grownBy w' (some b) ∧ RW b g cap ts s' w'
set_option maxRecDepth 100000 in
theorem name_w (b g cap : Nat) (ts : List Tok) (s s' : RdS) (nm : Bytes) (w : World) (hw : RW b g cap ts s w) (h : nameM ts s = some (nm, s')) :
    Calls Tryz.prog 36 #[.pointer (some ⟨b, 0, none⟩)] w (NmP b g cap ts nm s' w) := by
  unfold nameM at h
  obtain ⟨t, s1, h1, h2⟩ := bindO_inv h
  obtain ⟨rfl, h3⟩ := nowM_inv h1
  have HN := Lib.hid (now_w b g cap ts s1 s1 t w hw h1)
  have hwl := hw.lt
  have HW := Lib.hid hw
  have hlen := hw.len
  have H2 := Lib.hid (And.intro h2 h3)
  clear h h1 h2 h3 hw
  obtain ⟨K, P, T, NN⟩ := t
  go_enter Tryz.func36, Tryz.ntmps36
  go_wp2_with fail
  refine HN.out.mono ?_
  rintro e w1 ⟨rfl, hb⟩
  unfold tokV'
  obtain ⟨W, hW⟩ : ∃ W, W = w1.alloc (.cells #[.int .u8 (K : Int), .int .i64 (P : Int), .string ⟨T.toArray⟩, .int .i64 (NN : Int)] 55) := ⟨_, rfl⟩
  have hbW : Below w.heap.size w W := by rw [hW]; exact hb.alloc hb.size _
  have ht : Blk w1.heap.size #[.int .u8 (K : Int), .int .i64 (P : Int), .string ⟨T.toArray⟩, .int .i64 (NN : Int)] 55 W := by rw [hW]; exact Blk.new _ _ _
  obtain ⟨t0, t1, t2, t3⟩ := ht.get4
  have hM : ¬ b = w1.heap.size := by have := hb.size; omega
  have HB := Lib.hid (And.intro hbW ht)
  have HWW := Lib.hid hW
  clear hb hW hbW ht
  go_upto_region 2 with (fail)
  rw [← HWW.out]
  clear HWW
  by_cases k1 : K = 1
  · have e1 : ((K : Int) != 1) = false := by simp [k1]
    obtain ⟨h2, h3⟩ := H2.out
    rw [if_pos (show (⟨K, P, T, NN⟩ : Tok).kind = 1 from k1)] at h2
    obtain ⟨rfl, rfl⟩ := Prod.mk.inj (Option.some.inj h2)
    have hi : s1.i < ts.length := by
      rcases h3 with h3 | h3
      · exact h3.2.1
      · rw [show K = 0 from congrArg Tok.kind h3.2] at k1; omega
    have hib : (s1.i : Int) < 30000 := by omega
    have hr := HW.out.below HB.out.1
    have c1 := hr.c1
    have f1 := hr.blk.free 1
    obtain ⟨X, hX⟩ : ∃ X, X = W.setCell ⟨b, 1, none⟩ (.int .i64 ((s1.i : Int) + 1)) := ⟨_, rfl⟩
    have hg : W.grownBy X (some b) := by rw [hX]; exact Lib.grownBy_setCell _ _ _ _
    have hBk : Blk b (rdCells g ts.length cap ⟨s1.i + 1, s1.o, s1.n, s1.pl, s1.e⟩) 70 X := by rw [hX]; exact hr.blk.set 1 _
    have FIN := Lib.hid (show NmP b g cap ts T ⟨s1.i + 1, s1.o, s1.n, s1.pl, s1.e⟩ w (.returned (.string ⟨T.toArray⟩)) X from ⟨rfl, gtrans (grown_of_below HB.out.1) hg, hr.step hg hBk⟩)
    have HXX := Lib.hid hX
    clear h2 h3 hi k1 hr hX hg hBk hlen
    go_wp2
    go_ret
    rw [← HXX.out]
    exact FIN.out
  · have e1 : ((K : Int) != 1) = true := by simp; omega
    obtain ⟨h2, h3⟩ := H2.out
    rw [if_neg (show ¬ (⟨K, P, T, NN⟩ : Tok).kind = 1 from k1)] at h2
    obtain ⟨⟨⟩, s2, h4, h5⟩ := bindO_inv h2
    obtain ⟨rfl, rfl⟩ := Prod.mk.inj (Option.some.inj h5)
    have HF := Lib.hid (fail_w b g cap 4 (by omega) ts s1 s2 W (HW.out.below HB.out.1) h4)
    clear h2 h3 h4 h5 k1 hlen
    go_wp2_with fail
    refine HF.out.mono ?_
    rintro e w2 ⟨rfl, hg, hr⟩
    have FIN := Lib.hid (show NmP b g cap ts [] s2 w (.returned (.string ⟨#[]⟩)) w2 from ⟨rfl, gtrans (grown_of_below HB.out.1) hg, hr⟩)
    clear hg hr
    go_wp2
    go_ret
    exact FIN.out

def TyP (b g cap : Nat) (ts : List Tok) (y : Nat) (s' : RdS) (w : World) (e : Ending) (w' : World) : Prop := e = .returned (.int .u8 (y : Int)) ∧ w.grownBy w' (some b) ∧ RW b g cap ts s' w'
def TyRel (b g cap : Nat) (ts : List Tok) (arr : Bool) (y : Nat) (s' : RdS) (w : World) (gk : Nat) (v : Value) (wr : World) : Prop :=
  ∃ (ks : List Nat) (s1 : RdS), gk = ks.length ∧ gk ≤ 3 ∧ ks = [1, 2, 3].drop (3 - gk) ∧ v = .int .u8 (((4 - gk : Nat)) : Int) ∧ typedL ts arr ks s1 = some (y, s') ∧ w.grownBy wr (some b) ∧ RW b g cap ts s1 wr
set_option maxRecDepth 100000 in
set_option maxHeartbeats 1000000 in
theorem typed_w (b g cap : Nat) (ts : List Tok) (s s' : RdS) (arr : Bool) (y : Nat) (w : World) (hw : RW b g cap ts s w) (h : typedM ts arr s = some (y, s')) :
    Calls Tryz.prog 39 #[.pointer (some ⟨b, 0, none⟩), .bool arr] w (TyP b g cap ts y s' w) := by
  have HREL := Lib.hid (show TyRel b g cap ts arr y s' w 3 (.int .u8 1) w from ⟨[1, 2, 3], s, rfl, by omega, rfl, rfl, h, World.grownBy.refl _ _, hw⟩)
  have HNM := Lib.hid refName_any
  clear hw h
  go_enter Tryz.func39, Tryz.ntmps39
  go_upto_region 2 with (fail)
  go_loopg [5] 3 (fun gk v wr => TyRel b g cap ts arr y s' w gk v wr)
  case atStart => exact HREL.out
  case round =>
    obtain ⟨ks, s1, hgk, hle, hks, rfl, ht, hg, hr⟩ := hrel
    match gk, hle, hks with
    | 0, _, hks =>
      obtain rfl : ks = [] := hks
      rw [typedL] at ht
      obtain ⟨⟨⟩, s2, h4, h5⟩ := bindO_inv ht
      obtain ⟨rfl, rfl⟩ := Prod.mk.inj (Option.some.inj h5)
      have HF := Lib.hid (fail_w b g cap 4 (by omega) ts s1 s2 wr hr h4)
      have HG := Lib.hid hg
      clear h4 h5 ht hg hr hgk hks
      go_wp2_with fail
      refine HF.out.mono ?_
      rintro e w2 ⟨rfl, hg2, hr⟩
      have FIN := Lib.hid (show TyP b g cap ts 0 s2 w (.returned (.int .u8 0)) w2 from ⟨rfl, gtrans HG.out hg2, hr⟩)
      clear hg2 hr
      go_wp2
      go_ret
      exact FIN.out
    | 1, hle, hks =>
      cases arr with
      | false =>
        have h2 : typedL ts false [] s1 = some (y, s') := by
          subst hks
          have h := ht
          rw [show List.drop (3 - 1) [1, 2, 3] = 3 :: [] from rfl, typedL, if_neg (by simp)] at h
          exact h
        have FIN := Lib.hid (show TyRel b g cap ts false y s' w 0 (.int .u8 4) wr from ⟨[], s1, rfl, by omega, rfl, rfl, h2, hg, hr⟩)
        clear ht h2 hg hr hks hgk
        go_wp2
        go_roundg 0
        case measure => omega
        case rel => exact FIN.out
      | true =>
        have ht : bindO (hasM ts (nameOf 3) s1) (fun b s => if b = true then some (3, s) else typedL ts true [] s) = some (y, s') := by
          subst hks
          have h := ht
          rw [show List.drop (3 - 1) [1, 2, 3] = 3 :: [] from rfl, typedL, if_pos (by simp)] at h
          exact h
        obtain ⟨v, s2, h1, h2⟩ := bindO_inv ht
        have HH := Lib.hid (has_w b g cap ts s1 s2 (nameOf 3) v wr hr h1)
        have HG := Lib.hid hg
        have HK := Lib.hid h2
        have HN := Lib.hid (HNM.out 3 wr)
        clear ht h1 h2 hg hr hks hgk
        go_wp2_with fail
        refine HN.out.mono ?_
        rintro e w1 ⟨rfl, rfl⟩
        go_wp2_with fail
        refine HH.out.mono ?_
        rintro e w2 ⟨rfl, hg2, hr2⟩
        cases v with
        | true =>
          have h2 := HK.out
          rw [if_pos rfl] at h2
          obtain ⟨rfl, rfl⟩ := Prod.mk.inj (Option.some.inj h2)
          have FIN := Lib.hid (show TyP b g cap ts 3 s2 w (.returned (.int .u8 3)) w2 from ⟨rfl, gtrans HG.out hg2, hr2⟩)
          clear hg2 hr2 h2
          go_wp2
          go_ret
          exact FIN.out
        | false =>
          have h2 := HK.out
          rw [if_neg (by decide)] at h2
          have FIN := Lib.hid (show TyRel b g cap ts true y s' w 0 (.int .u8 4) w2 from ⟨[], s2, rfl, by omega, rfl, rfl, h2, gtrans HG.out hg2, hr2⟩)
          clear hg2 hr2 h2
          go_wp2
          go_roundg 0
          case measure => omega
          case rel => exact FIN.out
    | 2, hle, hks =>
      have ht : bindO (hasM ts (nameOf 2) s1) (fun b s => if b = true then some (2, s) else typedL ts arr [3] s) = some (y, s') := by
        subst hks
        have h := ht
        rw [show List.drop (3 - 2) [1, 2, 3] = 2 :: [3] from rfl, typedL, if_pos (by simp)] at h
        exact h
      obtain ⟨v, s2, h1, h2⟩ := bindO_inv ht
      have HH := Lib.hid (has_w b g cap ts s1 s2 (nameOf 2) v wr hr h1)
      have HG := Lib.hid hg
      have HK := Lib.hid h2
      have HN := Lib.hid (HNM.out 2 wr)
      clear ht h1 h2 hg hr hks hgk
      go_wp2_with fail
      refine HN.out.mono ?_
      rintro e w1 ⟨rfl, rfl⟩
      go_wp2_with fail
      refine HH.out.mono ?_
      rintro e w2 ⟨rfl, hg2, hr2⟩
      cases v with
      | true =>
        have h2 := HK.out
        rw [if_pos rfl] at h2
        obtain ⟨rfl, rfl⟩ := Prod.mk.inj (Option.some.inj h2)
        have FIN := Lib.hid (show TyP b g cap ts 2 s2 w (.returned (.int .u8 2)) w2 from ⟨rfl, gtrans HG.out hg2, hr2⟩)
        clear hg2 hr2 h2
        go_wp2
        go_ret
        exact FIN.out
      | false =>
        have h2 := HK.out
        rw [if_neg (by decide)] at h2
        have FIN := Lib.hid (show TyRel b g cap ts arr y s' w 1 (.int .u8 3) w2 from ⟨[3], s2, rfl, by omega, rfl, rfl, h2, gtrans HG.out hg2, hr2⟩)
        clear hg2 hr2 h2
        go_wp2
        go_roundg 1
        case measure => omega
        case rel => exact FIN.out
    | 3, hle, hks =>
      have ht : bindO (hasM ts (nameOf 1) s1) (fun b s => if b = true then some (1, s) else typedL ts arr [2, 3] s) = some (y, s') := by
        subst hks
        have h := ht
        rw [show List.drop (3 - 3) [1, 2, 3] = 1 :: [2, 3] from rfl, typedL, if_pos (by simp)] at h
        exact h
      obtain ⟨v, s2, h1, h2⟩ := bindO_inv ht
      have HH := Lib.hid (has_w b g cap ts s1 s2 (nameOf 1) v wr hr h1)
      have HG := Lib.hid hg
      have HK := Lib.hid h2
      have HN := Lib.hid (HNM.out 1 wr)
      clear ht h1 h2 hg hr hks hgk
      go_wp2_with fail
      refine HN.out.mono ?_
      rintro e w1 ⟨rfl, rfl⟩
      go_wp2_with fail
      refine HH.out.mono ?_
      rintro e w2 ⟨rfl, hg2, hr2⟩
      cases v with
      | true =>
        have h2 := HK.out
        rw [if_pos rfl] at h2
        obtain ⟨rfl, rfl⟩ := Prod.mk.inj (Option.some.inj h2)
        have FIN := Lib.hid (show TyP b g cap ts 1 s2 w (.returned (.int .u8 1)) w2 from ⟨rfl, gtrans HG.out hg2, hr2⟩)
        clear hg2 hr2 h2
        go_wp2
        go_ret
        exact FIN.out
      | false =>
        have h2 := HK.out
        rw [if_neg (by decide)] at h2
        have FIN := Lib.hid (show TyRel b g cap ts arr y s' w 2 (.int .u8 2) w2 from ⟨[2, 3], s2, rfl, by omega, rfl, rfl, h2, gtrans HG.out hg2, hr2⟩)
        clear hg2 hr2 h2
        go_wp2
        go_roundg 2
        case measure => omega
        case rel => exact FIN.out
end Go.Proofs.YtcgllooeimacdaaGreatDoor

/-! The reference's reader in memory: expressions: a cell's place, items in brackets. -/

namespace Go.Proofs.YtcgllooeimacdaaGreatDoor
open Go Go.RowKit Px
open Lx (Tok)

/-- An expression that is answered. -/
def LvP (b g cap : Nat) (ts : List Tok) (x : Ex) (s' : RdS) (w : World) (e : Ending) (w' : World) : Prop := ∃ (k op : Nat) (nm : Bytes) (n pos : Nat) (a : Option Addr) (m c : Nat),
  e = .returned (.agg (exCells k op nm n pos a m c)) ∧ ExC w' (fun h => w.heap.size ≤ h) x (exCells k op nm n pos a m c).toList ∧ w.grownBy w' (some b) ∧ RW b g cap ts s' w'
def LevC (F : Nat) : Prop := ∀ (b g cap : Nat) (ts : List Tok) (k : Nat) (s : RdS) (x : Ex) (s' : RdS) (w : World), RW b g cap ts s w → k ≤ 11 → levelM ts F k s = some (x, s') → Calls Tryz.prog 72 #[.pointer (some ⟨b, 0, none⟩), .int .i64 (k : Int)] w (LvP b g cap ts x s' w)
def UnaC (F : Nat) : Prop := ∀ (b g cap : Nat) (ts : List Tok) (s : RdS) (x : Ex) (s' : RdS) (w : World), RW b g cap ts s w → unaryM ts F s = some (x, s') → Calls Tryz.prog 89 #[.pointer (some ⟨b, 0, none⟩)] w (LvP b g cap ts x s' w)
def PlcC (F : Nat) : Prop := ∀ (b g cap : Nat) (ts : List Tok) (s : RdS) (x : Ex) (s' : RdS) (w : World), RW b g cap ts s w → placeM ts F s = some (x, s') → Calls Tryz.prog 74 #[.pointer (some ⟨b, 0, none⟩)] w (LvP b g cap ts x s' w)
/-- A row of expressions that is answered. -/
def ArP (b g cap : Nat) (ts : List Tok) (l : List Ex) (s' : RdS) (w : World) (e : Ending) (w' : World) : Prop := ∃ (a : Option Addr) (c : Nat), e = .returned (.slice a l.length c) ∧ ExRow w' (fun h => w.heap.size ≤ h) l (.slice a l.length c) ∧ w.grownBy w' (some b) ∧ RW b g cap ts s' w'
def ArgC (F : Nat) : Prop := ∀ (b g cap : Nat) (ts : List Tok) (s : RdS) (l : List Ex) (s' : RdS) (w : World), RW b g cap ts s w → argsM ts F s = some (l, s') → Calls Tryz.prog 73 #[.pointer (some ⟨b, 0, none⟩)] w (ArP b g cap ts l s' w)

theorem keeps_grown {w w' : World} {j B : Nat} (hg : w.grownBy w' (some j)) (hj : j < B) : Stays w (fun h => B ≤ h) w' (fun h => B ≤ h) := fun h h1 h2 => ⟨hg.block h h2 (by simp; omega), h1⟩
theorem keeps_below {w w' : World} {B : Nat} (hb : Below w.heap.size w w') : Stays w (fun h => B ≤ h) w' (fun h => B ≤ h) := fun h h1 h2 => ⟨hb.block h h2, h1⟩

theorem ex_finR {b g cap : Nat} {ts : List Tok} {s' : RdS} {w w2 : World} (hbl : b < w.heap.size) (hgl : g < w.heap.size) (hg : w.grownBy w2 (some b)) {T : TypeId} {v0 v1 v2 v3 v4 v5 : Value} (hz : Blk w.heap.size #[v0, v1, v2, v3, v4, v5] T w2) (hp : RW b g cap ts s' w2)
    {x : Ex} {k op : Nat} {nm : Bytes} {n pos : Nat} {a : Option Addr} {m c : Nat} (hx : ExC w2 (fun h => w.heap.size < h) x (exCells k op nm n pos a m c).toList) :
    Blk w.heap.size (exCells k op nm n pos a m c) T (set6 w2 w.heap.size (.int .u8 (k : Int)) (.int .u8 (op : Int)) (.string ⟨nm.toArray⟩) (.int .i64 (n : Int)) (.int .i64 (pos : Int)) (.slice a m c)) ∧
      LvP b g cap ts x s' w (.returned (.agg (exCells k op nm n pos a m c))) (set6 w2 w.heap.size (.int .u8 (k : Int)) (.int .u8 (op : Int)) (.string ⟨nm.toArray⟩) (.int .i64 (n : Int)) (.int .i64 (pos : Int)) (.slice a m c)) := by
  have hs := grown_set6 w2 w.heap.size (.int .u8 (k : Int)) (.int .u8 (op : Int)) (.string ⟨nm.toArray⟩) (.int .i64 (n : Int)) (.int .i64 (pos : Int)) (.slice a m c)
  exact ⟨hz.set6 _ _ _ _ _ _, k, op, nm, n, pos, a, m, c, rfl, hx.stays (stays_of_grown hs fun g hg => ⟨by omega, by omega⟩), gnew hg (Nat.le_refl _) hs, hp.other hs (by simp; omega) (by simp; omega)⟩

set_option maxRecDepth 100000 in
set_option maxHeartbeats 1000000 in
theorem place_w {F : Nat} (hL : LevC F) : PlcC (F + 1) := by
  intro b g cap ts s x s' w hw h
  rw [placeM] at h
  obtain ⟨⟨⟩, s1, h1, h2⟩ := bindO_inv h
  obtain ⟨y, s2, h3, h4⟩ := bindO_inv h2
  obtain ⟨⟨⟩, s3, h5, h6⟩ := bindO_inv h4
  obtain ⟨rfl, rfl⟩ := Prod.mk.inj (Option.some.inj h6)
  obtain ⟨W, hW⟩ : ∃ W, W = w.alloc ex0 := ⟨_, rfl⟩
  have hbW : Below w.heap.size w W := by rw [hW]; exact (Below.refl _ _).alloc (Nat.le_refl _) _
  have hz : Blk w.heap.size zEx 36 W := by rw [hW]; exact Blk.new _ _ _
  have hsz : W.heap.size = w.heap.size + 1 := by rw [hW]; simp
  have hbl := hw.lt
  have hgl := hw.toks.lt
  have HS := Lib.hid (skip_w b g cap ts s s1 [91] W (hw.below hbW) h1)
  have HC := Lib.hid fun w1 (hr : RW b g cap ts s1 w1) => hL b g cap ts 1 s1 y s2 w1 hr (by omega) h3
  have HS2 := Lib.hid fun w1 (hr : RW b g cap ts s2 w1) => skip_w b g cap ts s2 s3 [93] w1 hr h5
  have HH := Lib.hid (And.intro hbW (And.intro hz hsz))
  have HWW := Lib.hid hW
  clear h h1 h2 h3 h4 h5 h6 hw hbW hz hW hL hsz
  go_enter Tryz.func74, Tryz.ntmps74
  go_wp2_with fail
  rw [← HWW.out]
  refine HS.out.mono ?_
  rintro e w1 ⟨rfl, hg1, hr1⟩
  have HC1 := Lib.hid (HC.out w1 hr1)
  have hz1 := HH.out.2.1.other hg1 (by simp; omega)
  have H1 := Lib.hid (And.intro (gtrans (row := some b) (grown_of_below HH.out.1) hg1) (And.intro hz1 (show w.heap.size + 1 ≤ w1.heap.size by have := hg1.size; have := HH.out.2.2; omega)))
  clear hg1 hr1 hz1
  go_wp2_with fail
  refine HC1.out.mono ?_
  rintro e w2 ⟨k, op, nm, n, pos, a, m, c, rfl, hx, hg2, hr2⟩
  obtain ⟨V, hV⟩ : ∃ V, V = w2.alloc (.cells (exCells k op nm n pos a m c) 36) := ⟨_, rfl⟩
  have hbV : Below w2.heap.size w2 V := by rw [hV]; exact (Below.refl _ _).alloc (Nat.le_refl _) _
  have hM : Blk w2.heap.size (exCells k op nm n pos a m c) 36 V := by rw [hV]; exact Blk.new _ _ _
  have hzV := ((H1.out.2.1.other hg2 (by simp; omega))).below hbV (by have := H1.out.2.2; have := hg2.size; omega)
  have HS3 := Lib.hid (HS2.out V (hr2.below hbV))
  have H2 := Lib.hid (And.intro (gtrans (gtrans H1.out.1 hg2) (grown_of_below hbV)) (And.intro hzV (And.intro hM (hx.stays (keeps_below hbV)))))
  have hwb : b < w2.heap.size := by have := H1.out.2.2; have := hg2.size; omega
  have hw12 : w.heap.size + 1 ≤ w1.heap.size := H1.out.2.2
  have HVV := Lib.hid hV
  clear hx hg2 hr2 hbV hM hzV hV H1
  go_wp2_with fail
  rw [← HVV.out]
  refine HS3.out.mono ?_
  rintro e w3 ⟨rfl, hg3, hr3⟩
  have hM3 := H2.out.2.2.1.other hg3 (by simp; omega)
  have hz3 := H2.out.2.1.other hg3 (by simp; omega)
  have FIN := Lib.hid (ex_finR hbl hgl (gtrans H2.out.1 hg3) hz3 hr3 ((H2.out.2.2.2.stays (keeps_grown hg3 (by omega))).stays (stays_weaken fun h hh _ => by omega)))
  obtain ⟨p0, p1, p2, p3, p4, p5⟩ := hM3.get6
  obtain ⟨z0, z1, z2, z3, z4, z5⟩ := hz3.get6
  obtain ⟨f0, f1, f2, f3, f4, f5⟩ := hz3.free6
  clear hg3 hr3 hM3 hz3 H2
  go_wp2
  rw [← set6_eq]
  obtain ⟨y0, y1, y2, y3, y4, y5⟩ := FIN.out.1.get6
  clear z0 z1 z2 z3 z4 z5 f0 f1 f2 f3 f4 f5 p0 p1 p2 p3 p4 p5
  exact bodyPost_ret (v := .agg (exCells k op nm n pos a m c)) (by simp [results, Tryz.results74, go_sem, y0, y1, y2, y3, y4, y5]) rfl FIN.out.2

/-! Rows that grow by one. -/
def RMid {α : Type} (Cs : World → (Nat → Prop) → List α → List Value → Prop) (B E size : Nat) (l : List α) (v : Value) (w : World) : Prop := ∃ xs, w.ownsRow B E size v l.length xs ∧ Cs w (fun h => B ≤ h ∧ some h ≠ v.ownBlock) l xs
section
variable {α : Type} {C : World → (Nat → Prop) → α → List Value → Prop} {Cs : World → (Nat → Prop) → List α → List Value → Prop}
theorem RMid.form {B E size : Nat} {l : List α} {v : Value} {w : World} (h : RMid Cs B E size l v w) : ∃ (a : Option Addr) (c : Nat), v = .slice a l.length c := by
  obtain ⟨xs, ho, _⟩ := h
  rcases own_slice ho with ⟨e, hl⟩ | ⟨gg, cc, e⟩
  · exact ⟨none, 0, by rw [e, hl]⟩
  · exact ⟨_, _, e⟩
theorem RMid.ne {B E size : Nat} {l : List α} {v : Value} {w : World} (h : RMid Cs B E size l v w) {b : Nat} (hb : b < B) : v.ownBlock ≠ some b := by
  obtain ⟨xs, ho, _⟩ := h
  intro e; have := (ho.lt b e).1; omega
/-- Writes elsewhere leave it. -/
theorem RMid.keep (hst : ∀ {w w' : World} {ok ok' : Nat → Prop}, Stays w ok w' ok' → ∀ l xs, Cs w ok l xs → Cs w' ok' l xs) {B E size : Nat} {l : List α} {v : Value} {w w' : World} (h : RMid Cs B E size l v w) {b : Nat} (hb : b < B) (hg : w.grownBy w' (some b)) : RMid Cs B E size l v w' := by
  have hbv := h.ne hb
  obtain ⟨xs, ho, hx⟩ := h
  refine ⟨xs, ho.kept hg (by cases hu : v.ownBlock with | none => exact Or.inl rfl | some h => exact Or.inr (by rw [hu] at hbv; exact hbv)), ?_⟩
  exact hst (fun h hh hl => ⟨hg.block h hl (by simp; omega), hh⟩) l xs hx
theorem RMid.below (hst : ∀ {w w' : World} {ok ok' : Nat → Prop}, Stays w ok w' ok' → ∀ l xs, Cs w ok l xs → Cs w' ok' l xs) {B E size : Nat} {l : List α} {v : Value} {w w' : World} (h : RMid Cs B E size l v w) (hb : Below w.heap.size w w') : RMid Cs B E size l v w' := by
  obtain ⟨xs, ho, hx⟩ := h
  have hg : w.grownBy w' none := grown_of_below hb
  refine ⟨xs, ho.kept hg (by cases hu : v.ownBlock with | none => exact Or.inl rfl | some h => exact Or.inr (by simp)), ?_⟩
  exact hst (fun h hh hl => ⟨hb.block h hl, hh⟩) l xs hx
/-- The row at the end. -/
theorem RMid.row (hst : ∀ {w w' : World} {ok ok' : Nat → Prop}, Stays w ok w' ok' → ∀ l xs, Cs w ok l xs → Cs w' ok' l xs) {B E size : Nat} {l : List α} {v : Value} {w : World} (h : RMid Cs B E size l v w) :
    RowW w (fun h => B ≤ h) E size (Cs w (fun h => B ≤ h)) l v := by
  obtain ⟨xs, ho, hx⟩ := h
  rcases own_slice ho with ⟨e, hl⟩ | ⟨gg, cc, e⟩
  · exact Or.inl ⟨List.length_eq_zero_iff.1 hl, e⟩
  · rw [e] at ho hx ⊢
    exact Or.inr ⟨gg, cc, xs, rfl, (ho.lt gg rfl).1, owns_stays (ho.weaken_base) rfl, hst (stays_weaken fun h hh _ => hh.1) l xs hx⟩
/-- One more, appended out of a new block. -/
theorem RMid.snoc (hst : ∀ {w w' : World} {ok ok' : Nat → Prop}, Stays w ok w' ok' → ∀ l xs, Cs w ok l xs → Cs w' ok' l xs) (h1st : ∀ {w w' : World} {ok ok' : Nat → Prop}, Stays w ok w' ok' → ∀ x cs, C w ok x cs → C w' ok' x cs)
    (hsn : ∀ {w : World} {ok : Nat → Prop} {x : α} {c : List Value}, C w ok x c → ∀ l xs, Cs w ok l xs → Cs w ok (l ++ [x]) (xs ++ c)) {b g cap : Nat} {ts : List Tok} {s : RdS} {B D E size : Nat} {l : List α} {v : Value} {x : α} {cs : Array Value} {w w4 : World} {v' : Value}
    (hbl : b < B) (hgl : g < B) (hp : RW b g cap ts s w) {xs : List Value} (ho : w.ownsRow B E size v l.length xs) (hx : Cs w (fun h => B ≤ h ∧ some h ≠ v.ownBlock) l xs) (hc : C w (fun h => D ≤ h) x cs.toList) (hD : B ≤ D) (hvD : ∀ h, v.ownBlock = some h → h < D)
    (ho4 : w4.ownsRow B E size v' (l.length + 1) (xs ++ cs.toList)) (hg4 : (w.alloc (.cells cs E)).grownBy w4 v.ownBlock) (hat : v'.ownBlock = v.ownBlock ∨ v'.ownBlock = some (w.alloc (.cells cs E)).heap.size) :
    RMid Cs B E size (l ++ [x]) v' w4 ∧ RW b g cap ts s w4 ∧ ∀ {w0 : World}, w0.heap.size = B → w0.grownBy w (some b) → w0.grownBy w4 (some b) := by
  have hbv : v.ownBlock ≠ some b := by intro e; have := (ho.lt b e).1; omega
  have hgv : v.ownBlock ≠ some g := by intro e; have := (ho.lt g e).1; omega
  have hbW : Below w.heap.size w (w.alloc (.cells cs E)) := (Below.refl _ _).alloc (Nat.le_refl _) _
  have hWs : (w.alloc (.cells cs E)).heap.size = w.heap.size + 1 := by simp
  have hnew : ∀ h, h < w.heap.size ∧ some h ≠ v.ownBlock → some h ≠ v'.ownBlock := by
    intro h hh e
    rcases hat with e1 | e1
    · exact hh.2 (e.trans e1)
    · rw [e1] at e; cases e; omega
  refine ⟨⟨xs ++ cs.toList, by rw [List.length_append]; exact ho4, hsn (h1st ?_ _ _ hc) _ _ (hst ?_ _ _ hx)⟩, (hp.below hbW).other hg4 (Ne.symm hbv) (Ne.symm hgv), ?_⟩
  · intro h hh hl
    have hne : some h ≠ v.ownBlock := by intro e; have := hvD h e.symm; omega
    exact ⟨(hg4.block h (by omega) hne).trans (hbW.block h hl), by omega, hnew h ⟨hl, hne⟩⟩
  · intro h hh hl
    exact ⟨(hg4.block h (by omega) hh.2).trans (hbW.block h hl), hh.1, hnew h ⟨hl, hh.2⟩⟩
  · intro w0 hB hg0
    subst hB
    exact grown_own (gtrans hg0 (grown_of_below hbW)) (ho.alloc _) hg4
end
theorem ExsC_st {w w' : World} {ok ok' : Nat → Prop} (hs : Stays w ok w' ok') : ∀ l xs, ExsC w ok l xs → ExsC w' ok' l xs := ExsC.stays hs
theorem ExC_st {w w' : World} {ok ok' : Nat → Prop} (hs : Stays w ok w' ok') : ∀ x cs, ExC w ok x cs → ExC w' ok' x cs := ExC.stays hs
theorem ex_newR (w : World) (k op : Nat) (nm : Bytes) (n pos : Nat) (a : Option Addr) (m c : Nat) : ∀ j u, (exCells k op nm n pos a m c).toList[j]? = some u → (w.alloc (.cells (exCells k op nm n pos a m c) 36)).cell? ((⟨w.heap.size, 0, none⟩ : Addr).add j) = some u := by
  intro j u hj
  have hadd : (⟨w.heap.size, 0, none⟩ : Addr).add j = ⟨w.heap.size, j, none⟩ := by unfold Addr.add; split <;> simp_all
  rw [hadd]
  exact (Blk.new w _ _).get j u (by rw [← Array.getElem?_toList]; exact hj)
theorem ex_oneR (k op : Nat) (nm : Bytes) (n pos : Nat) (a : Option Addr) (m c : Nat) : ∀ u ∈ (exCells k op nm n pos a m c).toList, u.oneCell' = true := by
  intro u hu
  simp only [List.mem_cons, List.not_mem_nil, or_false] at hu
  rcases hu with rfl | rfl | rfl | rfl | rfl | rfl <;> rfl

def ArgRel (b g cap : Nat) (ts : List Tok) (l : List Ex) (sE : RdS) (F : Nat) (w : World) (gk : Nat) (v : Value) (wr : World) : Prop := ∃ (l0 : List Ex) (s1 : RdS), gk ≤ F ∧ argLoopM ts gk l0 s1 = some (l, sE) ∧ RMid ExsC w.heap.size 36 6 l0 v wr ∧ RW b g cap ts s1 wr ∧ w.grownBy wr (some b)

set_option maxRecDepth 100000 in
set_option maxHeartbeats 2000000 in
theorem args_w {F : Nat} (hL : ∀ G, G ≤ F → LevC G) : ArgC (F + 1) := by
  intro b g cap ts s l s' w hw h
  rw [argsM] at h
  obtain ⟨⟨⟩, s1, h1, h2⟩ := bindO_inv h
  obtain ⟨v, s2, h3, h4⟩ := bindO_inv h2
  obtain ⟨rfl, _⟩ := isM_inv h3
  obtain ⟨l', s3, h5, h6⟩ := bindO_inv h4
  obtain ⟨⟨⟩, s4, h7, h8⟩ := bindO_inv h6
  obtain ⟨rfl, rfl⟩ := Prod.mk.inj (Option.some.inj h8)
  have hbl := hw.lt
  have hgl := hw.toks.lt
  have HS := Lib.hid (skip_w b g cap ts s s2 [40] w hw h1)
  have HI := Lib.hid fun w1 (hr : RW b g cap ts s2 w1) => is_w b g cap ts s2 s2 [41] v w1 hr h3
  have HS2 := Lib.hid fun w1 (hr : RW b g cap ts s3 w1) => skip_w b g cap ts s3 s4 [41] w1 hr h7
  have HLv := Lib.hid hL
  have H5 := Lib.hid h5
  obtain ⟨i0, hi, hz0, hz1, hz2⟩ := info_parts Tryz.infoEx
  clear h h1 h2 h3 h4 h5 h6 h7 h8 hw hL
  go_enter Tryz.func73, Tryz.ntmps73
  go_wp2_with fail
  refine HS.out.mono ?_
  rintro e w1 ⟨rfl, hg1, hr1⟩
  have HI1 := Lib.hid (HI.out w1 hr1)
  have H1 := Lib.hid (And.intro hg1 hr1)
  clear hg1 hr1
  go_wp2_with fail
  refine HI1.out.mono ?_
  rintro e w2 ⟨rfl, hb2⟩
  have H2 := Lib.hid (And.intro (gtrans H1.out.1 (grown_of_below hb2)) (H1.out.2.below hb2))
  have c5 := H2.out.2.c5
  clear hb2
  have TAIL : ∀ (v : Value) (W : World), RMid ExsC w.heap.size 36 6 l' v W → RW b g cap ts s3 W → w.grownBy W (some b) → Hid (∃ (a : Option Addr) (m c : Nat), v = .slice a m c ∧ ∀ w3, FailP b g cap ts s4 W (.returned (.tuple #[])) w3 → ArP b g cap ts l' s4 w (.returned v) w3) := by
    intro v W hm hr hg
    obtain ⟨a, c, rfl⟩ := hm.form
    refine ⟨a, l'.length, c, rfl, fun w3 h3 => ?_⟩
    obtain ⟨_, hg3, hr3⟩ := h3
    exact ⟨a, c, rfl, (hm.keep ExsC_st hbl hg3).row ExsC_st, gtrans hg hg3, hr3⟩
  have HT := Lib.hid TAIL
  clear TAIL
  have hnil : Hid (∀ W : World, RMid ExsC w.heap.size 36 6 [] (.slice none 0 0) W) := fun W => ⟨[], World.ownsRow_nil _ _ _ _, rfl⟩
  cases v with
  | true =>
    have h5 := H5.out
    rw [if_neg (by simp)] at h5
    obtain ⟨rfl, rfl⟩ := Prod.mk.inj (Option.some.inj h5)
    have HS3 := Lib.hid (HS2.out w2 H2.out.2)
    obtain ⟨a, m, c, ha, HFIN⟩ := (HT.out _ w2 (hnil.out w2) H2.out.2 H2.out.1).out
    have HFN := Lib.hid HFIN
    clear h5 HFIN ha
    go_wp2_with fail
    refine HS3.out.mono ?_
    intro e w3 h3
    obtain rfl := h3.1
    have FIN := Lib.hid (HFN.out w3 h3)
    clear h3
    go_wp2
    go_ret
    exact FIN.out
  | false =>
    by_cases he : s2.e = 0
    · have he' : ((s2.e : Int) == 0) = true := by simp [he]
      have h5 := H5.out
      rw [if_pos ⟨rfl, he⟩] at h5
      obtain ⟨x, s5, h6, h7⟩ := bindO_inv h5
      have HLV := Lib.hid (HLv.out F (Nat.le_refl _) b g cap ts 1 s2 x s5 w2 H2.out.2 (by omega) h6)
      have H7 := Lib.hid h7
      clear h5 h6 h7 he
      go_wp2_with fail
      refine HLV.out.mono ?_
      rintro e w3 ⟨k, op, nm, n, pos, a, m, c, rfl, hx, hg3, hr3⟩
      have H3 := Lib.hid (And.intro hx (And.intro (gtrans H2.out.1 hg3) hr3))
      have hD : w.heap.size ≤ w2.heap.size := H2.out.1.size
      have HSZ := Lib.hid (And.intro (show (([] : List Ex).length + 1) ≤ maxLen by unfold maxLen; simp) (show (([] : List Ex).length + 1) * 64 ≤ 140737488355328 by simp))
      have HO := Lib.hid (show w3.ownsRow w.heap.size 36 6 (.slice none 0 0) ([] : List Ex).length [] from World.ownsRow_nil _ _ _ _)
      have HBS := Lib.hid (show w.heap.size ≤ (w3.alloc (.cells (exCells k op nm n pos a m c) 36)).heap.size by have := hg3.size; simp; omega)
      clear hx hg3 hr3
      go_wp2_with (at_builtin; refine Hid.out ?_)
      unfold Hid
      refine wpList_append_own_at _ rfl _ _ 34 rfl w.heap.size 36 i0 _ 6 64 Tryz.underlying34 hi hz0 hz1 hz2 rfl (by decide) _ _ _ rfl (HO.out.alloc _) ⟨w3.heap.size, 0, none⟩ 1 1 (exCells k op nm n pos a m c).toList rfl rfl (ex_newR w3 k op nm n pos a m c) (ex_oneR k op nm n pos a m c) HSZ.out.1 HSZ.out.2 HBS.out ?_
      intro v' w4 ho4 hg4 hnl hat
      obtain ⟨q1, q2, q3⟩ := RMid.snoc (C := ExC) (Cs := ExsC) ExsC_st ExC_st (fun h l xs => ExsC_snoc h l xs) hbl hgl H3.out.2.2 HO.out rfl H3.out.1 hD (by intro h e; cases e) ho4 hg4 hat
      obtain ⟨a', c', hv'⟩ := q1.form
      have HREL := Lib.hid (show ArgRel b g cap ts l' s3 F w F v' w4 from ⟨[x], s5, Nat.le_refl _, H7.out, q1, q2, q3 rfl H3.out.2.1⟩)
      have HV' := Lib.hid hv'
      clear ho4 hg4 hnl hat q1 q2 q3 hv' c5 he'
      go_wp2_with fail
      go_loopg [3] F (fun gk v wr => ArgRel b g cap ts l' s3 F w gk v wr)
      case atStart => exact HREL.out
      case round =>
        obtain ⟨l0, s6, hgk, hlp, hm, hr, hg⟩ := hrel
        match gk, hgk, hlp with
        | 0, _, hlp => rw [argLoopM] at hlp; cases hlp
        | gk + 1, hgk, hlp =>
          rw [argLoopM] at hlp
          obtain ⟨u, s7, h1, h2⟩ := bindO_inv hlp
          obtain ⟨a5, c5, rfl⟩ := hm.form
          have HH := Lib.hid (has_w b g cap ts s6 s7 [44] u wr hr h1)
          have HM := Lib.hid (And.intro hm hg)
          have H2' := Lib.hid h2
          clear hlp h1 h2 hm hr hg
          go_wp2_with fail
          refine HH.out.mono ?_
          rintro e w5 ⟨rfl, hg5, hr5⟩
          have HM5 := Lib.hid (And.intro (HM.out.1.keep ExsC_st hbl hg5) (And.intro hr5 (gtrans HM.out.2 hg5)))
          clear hg5 hr5
          cases u with
          | false =>
            have h2 := H2'.out
            rw [if_neg (by decide)] at h2
            obtain ⟨rfl, rfl⟩ := Prod.mk.inj (Option.some.inj h2)
            have HS3 := Lib.hid (HS2.out w5 HM5.out.2.1)
            obtain ⟨a, m, c, ha, HFIN⟩ := (HT.out _ w5 HM5.out.1 HM5.out.2.1 HM5.out.2.2).out
            have HFN := Lib.hid HFIN
            clear h2 HFIN ha
            go_wp2_with fail
            refine HS3.out.mono ?_
            intro e w6 h3
            obtain rfl := h3.1
            have FIN := Lib.hid (HFN.out w6 h3)
            clear h3
            go_wp2
            go_ret
            exact FIN.out
          | true =>
            have h2 := H2'.out
            rw [if_pos rfl] at h2
            by_cases hlen : l0.length < 100000
            · rw [if_pos hlen] at h2
              obtain ⟨x2, s8, h6, h7⟩ := bindO_inv h2
              have HLV := Lib.hid (HLv.out gk (by omega) b g cap ts 1 s7 x2 s8 w5 HM5.out.2.1 (by omega) h6)
              have H8 := Lib.hid h7
              clear h2 h6 h7
              go_wp2_with fail
              refine HLV.out.mono ?_
              rintro e w6 ⟨k, op, nm, n, pos, a, m, c, rfl, hx, hg6, hr6⟩
              obtain ⟨xs, ho, hxs⟩ := HM5.out.1.keep ExsC_st hbl hg6
              have hvD : ∀ h, (Value.slice a5 l0.length c5).ownBlock = some h → h < w5.heap.size := by
                obtain ⟨xs', ho', _⟩ := HM5.out.1
                intro h e
                exact (ho'.lt h e).2
              have H3 := Lib.hid (And.intro hx (And.intro (gtrans HM5.out.2.2 hg6) (And.intro hr6 (And.intro hxs hvD))))
              have hD : w.heap.size ≤ w5.heap.size := HM5.out.2.2.size
              have HSZ := Lib.hid (And.intro (show (l0.length + 1) ≤ maxLen by unfold maxLen; omega) (And.intro (show (l0.length + 1) * 64 ≤ 140737488355328 by omega) (show w.heap.size ≤ (w6.alloc (.cells (exCells k op nm n pos a m c) 36)).heap.size by have := hg6.size; simp; omega)))
              have HO := Lib.hid ho
              clear hx hg6 hr6 ho hxs hvD hlen
              go_wp2_with (at_builtin; refine Hid.out ?_)
              unfold Hid
              refine wpList_append_own_at _ rfl _ _ 34 rfl w.heap.size 36 i0 _ 6 64 Tryz.underlying34 hi hz0 hz1 hz2 rfl (by decide) _ _ _ rfl (HO.out.alloc _) ⟨w6.heap.size, 0, none⟩ 1 1 (exCells k op nm n pos a m c).toList rfl rfl (ex_newR w6 k op nm n pos a m c) (ex_oneR k op nm n pos a m c) HSZ.out.1 HSZ.out.2.1 HSZ.out.2.2 ?_
              intro v2 w7 ho4 hg4 hnl hat
              obtain ⟨q1, q2, q3⟩ := RMid.snoc (C := ExC) (Cs := ExsC) ExsC_st ExC_st (fun h l xs => ExsC_snoc h l xs) hbl hgl H3.out.2.2.1 HO.out H3.out.2.2.2.1 H3.out.1 hD H3.out.2.2.2.2 ho4 hg4 hat
              obtain ⟨a', c', hv'⟩ := q1.form
              have HREL := Lib.hid (show ArgRel b g cap ts l' s3 F w gk v2 w7 from ⟨l0 ++ [x2], s8, by omega, H8.out, q1, q2, q3 rfl H3.out.2.1⟩)
              have HV' := Lib.hid hv'
              clear ho4 hg4 hnl hat q1 q2 q3 hv'
              go_wp2
              go_roundg gk
              case measure => omega
              case rel => exact HREL.out
            · rw [if_neg hlen] at h2; cases h2
    · have he' : ((s2.e : Int) == 0) = false := by simp; omega
      have h5 := H5.out
      rw [if_neg (fun h => he h.2)] at h5
      obtain ⟨rfl, rfl⟩ := Prod.mk.inj (Option.some.inj h5)
      have HS3 := Lib.hid (HS2.out w2 H2.out.2)
      obtain ⟨a, m, c, ha, HFIN⟩ := (HT.out _ w2 (hnil.out w2) H2.out.2 H2.out.1).out
      have HFN := Lib.hid HFIN
      clear h5 HFIN ha he
      go_wp2_with fail
      refine HS3.out.mono ?_
      intro e w3 h3
      obtain rfl := h3.1
      have FIN := Lib.hid (HFN.out w3 h3)
      clear h3
      go_wp2
      go_ret
      exact FIN.out
end Go.Proofs.YtcgllooeimacdaaGreatDoor
