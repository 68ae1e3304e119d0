/-
  Texts with many brackets: their tokens, and what they are parsed as. Plain lists; no program is named here.
-/
import Derived.Test.YtoimhdejfeclpaaGreatDoorTLow
import Derived.KernelRfl
namespace Go.Proofs.YtoimhdejfeclpaaGreatDoor.Px
open Lx (Tok)

def fuP (ts : List Tok) (f : Nat) (s : St) : R Fu :=
  bindR (expectR [102, 110] ts s) fun t s => bindR (kindR 1 ts s) fun u s => bindR (expectR [40] ts s) fun _ s => bindR (expectR [41] ts s) fun _ s =>
  bindR (expectR [58] ts s) fun _ s => bindR (typeR ts [1, 2] s) fun y s => bindR (blockF ts f s) fun b s => .ok (⟨u.text, [], y, b, t.pos⟩, s)

section scan
open Lx
theorem tok_sign {c : UInt8} (h : smallB c = false ∧ digitB c = false ∧ signsL.contains c = true ∧ ∀ b, pairB c b = false) (pos : Nat) (t : List UInt8) : tokL pos (c :: t) = .ok ⟨4, pos, [c], 0⟩ := by
  obtain ⟨h1, h2, h3, h4⟩ := h
  have hs : signSize (c :: t) = 1 := by
    cases t with
    | nil => simp only [signSize, h3, if_true]
    | cons b t => simp only [signSize, h4, h3, if_true]; simp
  rw [tokL, h1, h2, hs]
  simp
theorem sign40 : smallB 40 = false ∧ digitB 40 = false ∧ signsL.contains 40 = true ∧ ∀ b, pairB 40 b = false := by
  refine ⟨rfl, rfl, rfl, fun b => ?_⟩
  unfold pairB
  split <;> simp
theorem sign41 : smallB 41 = false ∧ digitB 41 = false ∧ signsL.contains 41 = true ∧ ∀ b, pairB 41 b = false := by
  refine ⟨rfl, rfl, rfl, fun b => ?_⟩
  unfold pairB
  split <;> simp

theorem sign91 : smallB 91 = false ∧ digitB 91 = false ∧ signsL.contains 91 = true ∧ ∀ b, pairB 91 b = false := by
  refine ⟨rfl, rfl, rfl, fun b => ?_⟩
  unfold pairB
  split <;> simp

/-- Tokens of one byte each, side by side. -/
def rowT (c : UInt8) (pos k : Nat) : List Tok := (List.range k).map fun i => ⟨4, pos + i, [c], 0⟩
theorem rowT_succ (c : UInt8) (pos k : Nat) : rowT c pos (k + 1) = ⟨4, pos, [c], 0⟩ :: rowT c (pos + 1) k := by
  unfold rowT
  rw [List.range_succ_eq_map]
  simp only [List.map_cons, List.map_map, Nat.add_zero, List.cons.injEq, true_and]
  apply List.map_congr_left
  intro i _
  simp only [Function.comp]
  congr 1
  omega
theorem res_row {c : UInt8} (h : smallB c = false ∧ digitB c = false ∧ signsL.contains c = true ∧ ∀ b, pairB c b = false) (hb : blankB c = false) (h35 : (c == 35) = false) (rest : List UInt8) :
    ∀ (k pos : Nat), res pos (List.replicate k c ++ rest) = pre (rowT c pos k) (res (pos + k) rest)
  | 0, pos => by simp [rowT, pre_nil]
  | k + 1, pos => by
    rw [List.replicate_succ, List.cons_append, res_tok hb h35 (tok_sign h pos _)]
    show pre [⟨4, pos, [c], 0⟩] (res (pos + 1) (List.replicate k c ++ rest)) = _
    rw [res_row h hb h35 rest k (pos + 1), pre_pre, rowT_succ, show pos + 1 + k = pos + (k + 1) by omega]
    rfl

theorem res_seven (pos : Nat) (c : UInt8) (t : List UInt8) (h : digitB c = false) (hl : letterB c = false) : res pos (55 :: c :: t) = pre [⟨3, pos, [55], 7⟩] (res (pos + 1) (c :: t)) := by
  have htw : (55 :: c :: t).takeWhile digitB = [55] := by
    rw [List.takeWhile_cons, if_pos (show digitB 55 = true from rfl), List.takeWhile_cons, h]
    simp
  have hdw : (55 :: c :: t).dropWhile digitB = c :: t := by
    rw [List.dropWhile_cons, if_pos (show digitB 55 = true from rfl), List.dropWhile_cons, h]
    simp
  have ht : tokL pos (55 :: c :: t) = .ok ⟨3, pos, [55], 7⟩ := by
    rw [tokL, if_neg (show ¬ smallB 55 = true by decide), if_pos (show digitB 55 = true from rfl), htw, hdw]
    have : valueF 0 [55] = 7 := rfl
    rw [this]
    simp [hl]
  rw [res_tok rfl rfl ht]
  rfl
end scan

/-- The head of each of these texts, up to the first statement. -/
abbrev headB : Bytes := [102, 110, 32, 109, 97, 105, 110, 40, 41, 58, 32, 105, 110, 116, 32, 123, 32]
abbrev headT : List Tok := [⟨2, 0, [102, 110], 0⟩, ⟨1, 3, [109, 97, 105, 110], 0⟩, ⟨4, 7, [40], 0⟩, ⟨4, 8, [41], 0⟩, ⟨4, 9, [58], 0⟩, ⟨2, 11, [105, 110, 116], 0⟩, ⟨4, 15, [123], 0⟩]

/-- A number in as many brackets, that is answered. -/
def txE (k : Nat) : Bytes := headB ++ [114, 101, 116, 117, 114, 110, 32] ++ (List.replicate k 40 ++ 55 :: (List.replicate k 41 ++ [59, 32, 125]))
/-- It is the place of a cell that is set. -/
def txO (k : Nat) : Bytes := headB ++ [97, 91] ++ (List.replicate k 40 ++ 55 :: (List.replicate k 41 ++ [93, 32, 61, 32, 49, 59, 32, 125]))
def tsE (k : Nat) : List Tok := headT ++ [⟨2, 17, [114, 101, 116, 117, 114, 110], 0⟩] ++ (Px.rowT 40 24 k ++ ⟨3, 24 + k, [55], 7⟩ :: (Px.rowT 41 (25 + k) k ++ [⟨4, 25 + k + k, [59], 0⟩, ⟨4, 27 + k + k, [125], 0⟩, ⟨0, 28 + k + k, [], 0⟩]))
def tsO (k : Nat) : List Tok := headT ++ [⟨1, 17, [97], 0⟩, ⟨4, 18, [91], 0⟩] ++ (Px.rowT 40 19 k ++ ⟨3, 19 + k, [55], 7⟩ :: (Px.rowT 41 (20 + k) k ++ [⟨4, 20 + k + k, [93], 0⟩, ⟨4, 22 + k + k, [61], 0⟩, ⟨3, 24 + k + k, [49], 1⟩, ⟨4, 25 + k + k, [59], 0⟩, ⟨4, 27 + k + k, [125], 0⟩, ⟨0, 28 + k + k, [], 0⟩]))

section
open Lx
theorem head_E (rest : Bytes) : res 0 (headB ++ [114, 101, 116, 117, 114, 110, 32] ++ rest) = pre [⟨2, 0, [102, 110], 0⟩] (pre [⟨1, 3, [109, 97, 105, 110], 0⟩] (pre [⟨4, 7, [40], 0⟩] (pre [⟨4, 8, [41], 0⟩] (pre [⟨4, 9, [58], 0⟩] (pre [⟨2, 11, [105, 110, 116], 0⟩] (pre [⟨4, 15, [123], 0⟩] (pre [⟨2, 17, [114, 101, 116, 117, 114, 110], 0⟩] (res 24 rest)))))))) := by
  show res 0 (102 :: 110 :: 32 :: 109 :: 97 :: 105 :: 110 :: 40 :: 41 :: 58 :: 32 :: 105 :: 110 :: 116 :: 32 :: 123 :: 32 :: 114 :: 101 :: 116 :: 117 :: 114 :: 110 :: 32 :: rest) = _
  rw [show res 0 (102 :: 110 :: 32 :: 109 :: 97 :: 105 :: 110 :: 40 :: 41 :: 58 :: 32 :: 105 :: 110 :: 116 :: 32 :: 123 :: 32 :: 114 :: 101 :: 116 :: 117 :: 114 :: 110 :: 32 :: rest) = pre [⟨2, 0, [102, 110], 0⟩] (res 2 (32 :: 109 :: 97 :: 105 :: 110 :: 40 :: 41 :: 58 :: 32 :: 105 :: 110 :: 116 :: 32 :: 123 :: 32 :: 114 :: 101 :: 116 :: 117 :: 114 :: 110 :: 32 :: rest)) from res_tok (k := ⟨2, 0, [102, 110], 0⟩) rfl rfl rfl]
  rw [show res 2 (32 :: 109 :: 97 :: 105 :: 110 :: 40 :: 41 :: 58 :: 32 :: 105 :: 110 :: 116 :: 32 :: 123 :: 32 :: 114 :: 101 :: 116 :: 117 :: 114 :: 110 :: 32 :: rest) = res 3 (109 :: 97 :: 105 :: 110 :: 40 :: 41 :: 58 :: 32 :: 105 :: 110 :: 116 :: 32 :: 123 :: 32 :: 114 :: 101 :: 116 :: 117 :: 114 :: 110 :: 32 :: rest) from res_blank rfl]
  rw [show res 3 (109 :: 97 :: 105 :: 110 :: 40 :: 41 :: 58 :: 32 :: 105 :: 110 :: 116 :: 32 :: 123 :: 32 :: 114 :: 101 :: 116 :: 117 :: 114 :: 110 :: 32 :: rest) = pre [⟨1, 3, [109, 97, 105, 110], 0⟩] (res 7 (40 :: 41 :: 58 :: 32 :: 105 :: 110 :: 116 :: 32 :: 123 :: 32 :: 114 :: 101 :: 116 :: 117 :: 114 :: 110 :: 32 :: rest)) from res_tok (k := ⟨1, 3, [109, 97, 105, 110], 0⟩) rfl rfl rfl]
  rw [show res 7 (40 :: 41 :: 58 :: 32 :: 105 :: 110 :: 116 :: 32 :: 123 :: 32 :: 114 :: 101 :: 116 :: 117 :: 114 :: 110 :: 32 :: rest) = pre [⟨4, 7, [40], 0⟩] (res 8 (41 :: 58 :: 32 :: 105 :: 110 :: 116 :: 32 :: 123 :: 32 :: 114 :: 101 :: 116 :: 117 :: 114 :: 110 :: 32 :: rest)) from res_tok (k := ⟨4, 7, [40], 0⟩) rfl rfl (tok_sign sign40 _ _)]
  rw [show res 8 (41 :: 58 :: 32 :: 105 :: 110 :: 116 :: 32 :: 123 :: 32 :: 114 :: 101 :: 116 :: 117 :: 114 :: 110 :: 32 :: rest) = pre [⟨4, 8, [41], 0⟩] (res 9 (58 :: 32 :: 105 :: 110 :: 116 :: 32 :: 123 :: 32 :: 114 :: 101 :: 116 :: 117 :: 114 :: 110 :: 32 :: rest)) from res_tok (k := ⟨4, 8, [41], 0⟩) rfl rfl (tok_sign sign41 _ _)]
  rw [show res 9 (58 :: 32 :: 105 :: 110 :: 116 :: 32 :: 123 :: 32 :: 114 :: 101 :: 116 :: 117 :: 114 :: 110 :: 32 :: rest) = pre [⟨4, 9, [58], 0⟩] (res 10 (32 :: 105 :: 110 :: 116 :: 32 :: 123 :: 32 :: 114 :: 101 :: 116 :: 117 :: 114 :: 110 :: 32 :: rest)) from res_tok (k := ⟨4, 9, [58], 0⟩) rfl rfl rfl]
  rw [show res 10 (32 :: 105 :: 110 :: 116 :: 32 :: 123 :: 32 :: 114 :: 101 :: 116 :: 117 :: 114 :: 110 :: 32 :: rest) = res 11 (105 :: 110 :: 116 :: 32 :: 123 :: 32 :: 114 :: 101 :: 116 :: 117 :: 114 :: 110 :: 32 :: rest) from res_blank rfl]
  rw [show res 11 (105 :: 110 :: 116 :: 32 :: 123 :: 32 :: 114 :: 101 :: 116 :: 117 :: 114 :: 110 :: 32 :: rest) = pre [⟨2, 11, [105, 110, 116], 0⟩] (res 14 (32 :: 123 :: 32 :: 114 :: 101 :: 116 :: 117 :: 114 :: 110 :: 32 :: rest)) from res_tok (k := ⟨2, 11, [105, 110, 116], 0⟩) rfl rfl rfl]
  rw [show res 14 (32 :: 123 :: 32 :: 114 :: 101 :: 116 :: 117 :: 114 :: 110 :: 32 :: rest) = res 15 (123 :: 32 :: 114 :: 101 :: 116 :: 117 :: 114 :: 110 :: 32 :: rest) from res_blank rfl]
  rw [show res 15 (123 :: 32 :: 114 :: 101 :: 116 :: 117 :: 114 :: 110 :: 32 :: rest) = pre [⟨4, 15, [123], 0⟩] (res 16 (32 :: 114 :: 101 :: 116 :: 117 :: 114 :: 110 :: 32 :: rest)) from res_tok (k := ⟨4, 15, [123], 0⟩) rfl rfl rfl]
  rw [show res 16 (32 :: 114 :: 101 :: 116 :: 117 :: 114 :: 110 :: 32 :: rest) = res 17 (114 :: 101 :: 116 :: 117 :: 114 :: 110 :: 32 :: rest) from res_blank rfl]
  rw [show res 17 (114 :: 101 :: 116 :: 117 :: 114 :: 110 :: 32 :: rest) = pre [⟨2, 17, [114, 101, 116, 117, 114, 110], 0⟩] (res 23 (32 :: rest)) from res_tok (k := ⟨2, 17, [114, 101, 116, 117, 114, 110], 0⟩) rfl rfl rfl]
  rw [show res 23 (32 :: rest) = res 24 (rest) from res_blank rfl]
theorem head_O (rest : Bytes) : res 0 (headB ++ [97, 91] ++ rest) = pre [⟨2, 0, [102, 110], 0⟩] (pre [⟨1, 3, [109, 97, 105, 110], 0⟩] (pre [⟨4, 7, [40], 0⟩] (pre [⟨4, 8, [41], 0⟩] (pre [⟨4, 9, [58], 0⟩] (pre [⟨2, 11, [105, 110, 116], 0⟩] (pre [⟨4, 15, [123], 0⟩] (pre [⟨1, 17, [97], 0⟩] (pre [⟨4, 18, [91], 0⟩] (res 19 rest))))))))) := by
  show res 0 (102 :: 110 :: 32 :: 109 :: 97 :: 105 :: 110 :: 40 :: 41 :: 58 :: 32 :: 105 :: 110 :: 116 :: 32 :: 123 :: 32 :: 97 :: 91 :: rest) = _
  rw [show res 0 (102 :: 110 :: 32 :: 109 :: 97 :: 105 :: 110 :: 40 :: 41 :: 58 :: 32 :: 105 :: 110 :: 116 :: 32 :: 123 :: 32 :: 97 :: 91 :: rest) = pre [⟨2, 0, [102, 110], 0⟩] (res 2 (32 :: 109 :: 97 :: 105 :: 110 :: 40 :: 41 :: 58 :: 32 :: 105 :: 110 :: 116 :: 32 :: 123 :: 32 :: 97 :: 91 :: rest)) from res_tok (k := ⟨2, 0, [102, 110], 0⟩) rfl rfl rfl]
  rw [show res 2 (32 :: 109 :: 97 :: 105 :: 110 :: 40 :: 41 :: 58 :: 32 :: 105 :: 110 :: 116 :: 32 :: 123 :: 32 :: 97 :: 91 :: rest) = res 3 (109 :: 97 :: 105 :: 110 :: 40 :: 41 :: 58 :: 32 :: 105 :: 110 :: 116 :: 32 :: 123 :: 32 :: 97 :: 91 :: rest) from res_blank rfl]
  rw [show res 3 (109 :: 97 :: 105 :: 110 :: 40 :: 41 :: 58 :: 32 :: 105 :: 110 :: 116 :: 32 :: 123 :: 32 :: 97 :: 91 :: rest) = pre [⟨1, 3, [109, 97, 105, 110], 0⟩] (res 7 (40 :: 41 :: 58 :: 32 :: 105 :: 110 :: 116 :: 32 :: 123 :: 32 :: 97 :: 91 :: rest)) from res_tok (k := ⟨1, 3, [109, 97, 105, 110], 0⟩) rfl rfl rfl]
  rw [show res 7 (40 :: 41 :: 58 :: 32 :: 105 :: 110 :: 116 :: 32 :: 123 :: 32 :: 97 :: 91 :: rest) = pre [⟨4, 7, [40], 0⟩] (res 8 (41 :: 58 :: 32 :: 105 :: 110 :: 116 :: 32 :: 123 :: 32 :: 97 :: 91 :: rest)) from res_tok (k := ⟨4, 7, [40], 0⟩) rfl rfl (tok_sign sign40 _ _)]
  rw [show res 8 (41 :: 58 :: 32 :: 105 :: 110 :: 116 :: 32 :: 123 :: 32 :: 97 :: 91 :: rest) = pre [⟨4, 8, [41], 0⟩] (res 9 (58 :: 32 :: 105 :: 110 :: 116 :: 32 :: 123 :: 32 :: 97 :: 91 :: rest)) from res_tok (k := ⟨4, 8, [41], 0⟩) rfl rfl (tok_sign sign41 _ _)]
  rw [show res 9 (58 :: 32 :: 105 :: 110 :: 116 :: 32 :: 123 :: 32 :: 97 :: 91 :: rest) = pre [⟨4, 9, [58], 0⟩] (res 10 (32 :: 105 :: 110 :: 116 :: 32 :: 123 :: 32 :: 97 :: 91 :: rest)) from res_tok (k := ⟨4, 9, [58], 0⟩) rfl rfl rfl]
  rw [show res 10 (32 :: 105 :: 110 :: 116 :: 32 :: 123 :: 32 :: 97 :: 91 :: rest) = res 11 (105 :: 110 :: 116 :: 32 :: 123 :: 32 :: 97 :: 91 :: rest) from res_blank rfl]
  rw [show res 11 (105 :: 110 :: 116 :: 32 :: 123 :: 32 :: 97 :: 91 :: rest) = pre [⟨2, 11, [105, 110, 116], 0⟩] (res 14 (32 :: 123 :: 32 :: 97 :: 91 :: rest)) from res_tok (k := ⟨2, 11, [105, 110, 116], 0⟩) rfl rfl rfl]
  rw [show res 14 (32 :: 123 :: 32 :: 97 :: 91 :: rest) = res 15 (123 :: 32 :: 97 :: 91 :: rest) from res_blank rfl]
  rw [show res 15 (123 :: 32 :: 97 :: 91 :: rest) = pre [⟨4, 15, [123], 0⟩] (res 16 (32 :: 97 :: 91 :: rest)) from res_tok (k := ⟨4, 15, [123], 0⟩) rfl rfl rfl]
  rw [show res 16 (32 :: 97 :: 91 :: rest) = res 17 (97 :: 91 :: rest) from res_blank rfl]
  rw [show res 17 (97 :: 91 :: rest) = pre [⟨1, 17, [97], 0⟩] (res 18 (91 :: rest)) from res_tok (k := ⟨1, 17, [97], 0⟩) rfl rfl rfl]
  rw [show res 18 (91 :: rest) = pre [⟨4, 18, [91], 0⟩] (res 19 (rest)) from res_tok (k := ⟨4, 18, [91], 0⟩) rfl rfl (tok_sign sign91 _ _)]
theorem tail_E (pos : Nat) : res pos [59, 32, 125] = .ok [⟨4, pos, [59], 0⟩, ⟨4, pos + 2, [125], 0⟩, ⟨0, pos + 3, [], 0⟩] := by kernel_rfl
theorem tail_O (pos : Nat) : res pos [93, 32, 61, 32, 49, 59, 32, 125] = .ok [⟨4, pos, [93], 0⟩, ⟨4, pos + 2, [61], 0⟩, ⟨3, pos + 4, [49], 1⟩, ⟨4, pos + 5, [59], 0⟩, ⟨4, pos + 7, [125], 0⟩, ⟨0, pos + 8, [], 0⟩] := by kernel_rfl
theorem mid_res (k pos : Nat) (c : UInt8) (t : Bytes) (h : digitB c = false) (hl : letterB c = false) : res pos (List.replicate k 40 ++ 55 :: (List.replicate k 41 ++ c :: t)) =
    pre (rowT 40 pos k) (pre [⟨3, pos + k, [55], 7⟩] (pre (rowT 41 (pos + k + 1) k) (res (pos + k + 1 + k) (c :: t)))) := by
  rw [res_row sign40 rfl rfl]
  have h41 : ∀ (j : Nat), res (pos + k) (55 :: (List.replicate j 41 ++ c :: t)) = pre [⟨3, pos + k, [55], 7⟩] (res (pos + k + 1) (List.replicate j 41 ++ c :: t))
    | 0 => res_seven _ _ _ h hl
    | j + 1 => by rw [List.replicate_succ, List.cons_append]; exact res_seven _ _ _ rfl rfl
  rw [h41, res_row sign41 rfl rfl]
theorem scan_E (k : Nat) (hk : k < 260) : scan (txE k) = .ok (tsE k) := by
  unfold scan txE
  rw [if_neg (by simp; omega), head_E, mid_res k 24 59 _ rfl rfl, tail_E]
  simp only [pre, tsE]
  rw [show 24 + k + 1 = 25 + k by omega, show 25 + k + k + 2 = 27 + k + k by omega, show 25 + k + k + 3 = 28 + k + k by omega]
  simp
theorem scan_O (k : Nat) (hk : k < 260) : scan (txO k) = .ok (tsO k) := by
  unfold scan txO
  rw [if_neg (by simp; omega), head_O, mid_res k 19 93 _ rfl rfl, tail_O]
  simp only [pre, tsO]
  rw [show 19 + k + 1 = 20 + k by omega, show 20 + k + k + 2 = 22 + k + k by omega, show 20 + k + k + 4 = 24 + k + k by omega, show 20 + k + k + 5 = 25 + k + k by omega, show 20 + k + k + 7 = 27 + k + k by omega, show 20 + k + k + 8 = 28 + k + k by omega]
  simp
end

section
theorem bindR_err {α β : Type} {r : R α} {e : Nat × Nat} {k : α → St → R β} (h : r = .error e) : bindR r k = .error e := by rw [h]; rfl
theorem bindR_of {α β : Type} {r : R α} {a : α} {s : St} {k : α → St → R β} {x : R β} (h : r = .ok (a, s)) (h2 : k a s = x) : bindR r k = x := by rw [h]; exact h2
theorem take_open {ts : List Tok} {s : St} {t : Bytes} (h : (tk ts s.i).text = t) (ho : opensB t = true) (hn : s.o ≠ 200) : takeR ts s = .ok (tk ts s.i, ⟨s.i + 1, s.o + 1, s.n⟩) := by
  unfold takeR; rw [h, ho, if_pos rfl, if_neg hn]
theorem take_deep {ts : List Tok} {s : St} {t : Bytes} (h : (tk ts s.i).text = t) (ho : opensB t = true) (hn : s.o = 200) : takeR ts s = .error ((tk ts s.i).pos, 5) := by
  unfold takeR; rw [h, ho, if_pos rfl, if_pos hn]
theorem take_shut {ts : List Tok} {s : St} {t : Bytes} (h : (tk ts s.i).text = t) (ho : opensB t = false) (hc : closesB t = true) : takeR ts s = .ok (tk ts s.i, ⟨s.i + 1, s.o - 1, s.n⟩) := by
  unfold takeR; rw [h, ho, hc, if_neg (by simp), if_pos rfl]
theorem take_else {ts : List Tok} {s : St} {t : Bytes} (h : (tk ts s.i).text = t) (ho : opensB t = false) (hc : closesB t = false) : takeR ts s = .ok (tk ts s.i, ⟨s.i + 1, s.o, s.n⟩) := by
  unfold takeR; rw [h, ho, hc, if_neg (by simp), if_neg (by simp)]
theorem expect_of {ts : List Tok} {s : St} {x : Bytes} {r : R Tok} (h : (tk ts s.i).text = x) (ht : takeR ts s = r) : expectR x ts s = r := by
  unfold expectR; rw [if_pos h, ht]
theorem kindR_of {ts : List Tok} {s : St} {k : Nat} {r : R Tok} (h : (tk ts s.i).kind = k) (ht : takeR ts s = r) : kindR k ts s = r := by
  unfold kindR; rw [if_pos h, ht]
/-- Where no sign of two follows, an expression is done. -/
theorem loop_end {ts : List Tok} {f least : Nat} {l : Ex} {s : St} (h : (infixOf (tk ts s.i).text).1 = 0) : loopF ts (f + 1) least l s = .ok (l, s) := by
  rw [loopF, if_pos (Or.inl h)]
theorem op_num {ts : List Tok} {f : Nat} {s : St} {b : Bytes} (h : (tk ts s.i).kind = 3) (ht : (tk ts s.i).text = b) (ho : opensB b = false) (hc : closesB b = false) :
    opF ts (f + 1) s = .ok (.mk 1 0 [] (tk ts s.i).num (tk ts s.i).pos [], ⟨s.i + 1, s.o, s.n⟩) := by
  rw [opF, if_pos h]
  exact bindR_of (take_else ht ho hc) rfl
theorem op_open {ts : List Tok} {f : Nat} {s : St} (h : (tk ts s.i).kind = 4) (ht : (tk ts s.i).text = [40]) :
    opF ts (f + 1) s = bindR (takeR ts s) fun _ s' => bindR (binF ts f 1 s') fun x s' => bindR (expectR [41] ts s') fun _ s' => .ok (x, s') := by
  rw [opF, if_neg (by rw [h]; decide), if_neg (by rw [h]; decide), ht, if_neg (by decide), if_neg (by decide), if_neg (by decide), if_neg (by decide), if_pos rfl]
theorem un_op {ts : List Tok} {f : Nat} {s : St} (h : prefixOf (tk ts s.i).text = 0) : unF ts (f + 1) s = opF ts f s := by
  rw [unF, if_pos h]

/-- A number in brackets: tokens from 'a' on. -/
structure Nest (ts : List Tok) (a p k : Nat) : Prop where
  opens : ∀ i, i < k → tk ts (a + i) = ⟨4, p + i, [40], 0⟩
  num : tk ts (a + k) = ⟨3, p + k, [55], 7⟩
  shuts : ∀ i, i < k → tk ts (a + k + 1 + i) = ⟨4, p + k + 1 + i, [41], 0⟩
  next : (infixOf (tk ts (a + k + 1 + k)).text).1 = 0

theorem nest_ok {ts : List Tok} {a p k : Nat} (h : Nest ts a p k) (n : Nat) : ∀ (m e : Nat) (o : Int), m ≤ k → o + m ≤ 200 → binF ts (3 * m + 3 + e) 1 ⟨a + (k - m), o, n⟩ = .ok (.mk 1 0 [] 7 (p + k) [], ⟨a + k + 1 + m, o, n⟩)
  | 0, e, o, _, _ => by
    have hnum := h.num
    rw [show 3 * 0 + 3 + e = (e + 2) + 1 by omega, binF]
    refine bindR_of (a := .mk 1 0 [] 7 (p + k) []) (s := ⟨a + k + 1, o, n⟩) ?_ ?_
    · rw [show e + 2 = (e + 1) + 1 by omega, un_op (by show prefixOf (tk ts (a + k)).text = 0; rw [hnum]; rfl), show e + 1 = e + 1 from rfl, op_num (b := [55]) (by show (tk ts (a + k)).kind = 3; rw [hnum]) (by show (tk ts (a + k)).text = [55]; rw [hnum]) rfl rfl]
      show (Except.ok (Ex.mk 1 0 [] (tk ts (a + k)).num (tk ts (a + k)).pos [], _) : R Ex) = _
      rw [hnum]
      rfl
    · rw [show e + 2 = (e + 1) + 1 by omega, loop_end]
      rcases Nat.eq_zero_or_pos k with hk | hk
      · have hn := h.next
        subst hk
        exact hn
      · have hs := h.shuts 0 hk
        show (infixOf (tk ts (a + k + 1)).text).1 = 0
        rw [show tk ts (a + k + 1) = ⟨4, p + k + 1 + 0, [41], 0⟩ from hs]
        rfl
  | m + 1, e, o, hm, ho => by
    have ht : tk ts (a + (k - (m + 1))) = ⟨4, p + (k - (m + 1)), [40], 0⟩ := h.opens _ (by omega)
    have hs : tk ts (a + k + 1 + m) = ⟨4, p + k + 1 + m, [41], 0⟩ := h.shuts m (by omega)
    rw [show 3 * (m + 1) + 3 + e = (3 * m + 3 + e + 2) + 1 by omega, binF]
    refine bindR_of (a := .mk 1 0 [] 7 (p + k) []) (s := ⟨a + k + 1 + (m + 1), o, n⟩) ?_ ?_
    · rw [show 3 * m + 3 + e + 2 = (3 * m + 3 + e + 1) + 1 by omega, un_op (by show prefixOf (tk ts (a + (k - (m + 1)))).text = 0; rw [ht]; rfl), op_open (by show (tk ts (a + (k - (m + 1)))).kind = 4; rw [ht]) (by show (tk ts (a + (k - (m + 1)))).text = [40]; rw [ht])]
      refine bindR_of (take_open (t := [40]) (by show (tk ts (a + (k - (m + 1)))).text = [40]; rw [ht]) rfl (by show o ≠ 200; omega)) ?_
      show bindR (binF ts (3 * m + 3 + e) 1 ⟨a + (k - (m + 1)) + 1, o + 1, n⟩) _ = _
      rw [show a + (k - (m + 1)) + 1 = a + (k - m) by omega]
      refine bindR_of (nest_ok h n m e (o + 1) (by omega) (by omega)) ?_
      refine bindR_of (expect_of (by show (tk ts (a + k + 1 + m)).text = [41]; rw [hs]) (take_shut (t := [41]) (by show (tk ts (a + k + 1 + m)).text = [41]; rw [hs]) rfl rfl)) ?_
      show (Except.ok (_, (⟨a + k + 1 + m + 1, o + 1 - 1, n⟩ : St)) : R Ex) = _
      rw [show o + 1 - 1 = o by omega, show a + k + 1 + m + 1 = a + k + 1 + (m + 1) by omega]
    · rw [show 3 * m + 3 + e + 2 = (3 * m + 3 + e + 1) + 1 by omega, loop_end]
      show (infixOf (tk ts (a + k + 1 + (m + 1))).text).1 = 0
      rcases Nat.lt_or_ge (m + 1) k with hk | hk
      · rw [show tk ts (a + k + 1 + (m + 1)) = _ from h.shuts (m + 1) hk]
        rfl
      · obtain rfl : m + 1 = k := by omega
        exact h.next

theorem nest_deep {ts : List Tok} {a p k : Nat} (h : Nest ts a p k) (n : Nat) : ∀ (m e : Nat) (o : Int), m ≤ k → o ≤ 200 → 200 < o + m → binF ts (3 * m + 3 + e) 1 ⟨a + (k - m), o, n⟩ = .error (p + (k - m) + (200 - o).toNat, 5)
  | 0, e, o, _, h1, h2 => by omega
  | m + 1, e, o, hm, h1, h2 => by
    have ht : tk ts (a + (k - (m + 1))) = ⟨4, p + (k - (m + 1)), [40], 0⟩ := h.opens _ (by omega)
    rw [show 3 * (m + 1) + 3 + e = (3 * m + 3 + e + 2) + 1 by omega, binF]
    refine bindR_err ?_
    rw [show 3 * m + 3 + e + 2 = (3 * m + 3 + e + 1) + 1 by omega, un_op (by show prefixOf (tk ts (a + (k - (m + 1)))).text = 0; rw [ht]; rfl), op_open (by show (tk ts (a + (k - (m + 1)))).kind = 4; rw [ht]) (by show (tk ts (a + (k - (m + 1)))).text = [40]; rw [ht])]
    by_cases hd : o = 200
    · refine bindR_err ?_
      rw [take_deep (t := [40]) (by show (tk ts (a + (k - (m + 1)))).text = [40]; rw [ht]) rfl hd]
      show (Except.error ((tk ts (a + (k - (m + 1)))).pos, 5) : R Tok) = _
      rw [ht, hd]
      rfl
    · refine bindR_of (take_open (t := [40]) (by show (tk ts (a + (k - (m + 1)))).text = [40]; rw [ht]) rfl (by show o ≠ 200; omega)) ?_
      refine bindR_err ?_
      show binF ts (3 * m + 3 + e) 1 ⟨a + (k - (m + 1)) + 1, o + 1, n⟩ = _
      rw [show a + (k - (m + 1)) + 1 = a + (k - m) by omega, nest_deep h n m e (o + 1) (by omega) (by omega) (by omega)]
      rw [show p + (k - m) + (200 - (o + 1)).toNat = p + (k - (m + 1)) + (200 - o).toNat by omega]
end

section
theorem tk_app (A B : List Tok) (i : Nat) : tk (A ++ B) (A.length + i) = tk B i := by
  unfold tk
  rw [List.getD_eq_getElem?_getD, List.getD_eq_getElem?_getD, List.getElem?_append_right (by omega), show A.length + i - A.length = i by omega]
theorem row_len (c : UInt8) (p k : Nat) : (rowT c p k).length = k := by simp [rowT]
theorem tk_row {c : UInt8} {p k : Nat} (B : List Tok) {i : Nat} (h : i < k) : tk (rowT c p k ++ B) i = ⟨4, p + i, [c], 0⟩ := by
  unfold tk
  rw [List.getD_eq_getElem?_getD, List.getElem?_append_left (by rw [row_len]; exact h)]
  simp [rowT, h]
theorem tk_past (c : UInt8) (p k : Nat) (B : List Tok) (i : Nat) : tk (rowT c p k ++ B) (k + i) = tk B i := by
  have h := tk_app (rowT c p k) B i
  rw [row_len] at h
  exact h
theorem tk_next (t : Tok) (B : List Tok) (i : Nat) : tk (t :: B) (i + 1) = tk B i := rfl

theorem tkE_mid (k i : Nat) : tk (tsE k) (8 + i) = tk (rowT 40 24 k ++ ⟨3, 24 + k, [55], 7⟩ :: (rowT 41 (25 + k) k ++ [⟨4, 25 + k + k, [59], 0⟩, ⟨4, 27 + k + k, [125], 0⟩, ⟨0, 28 + k + k, [], 0⟩])) i := by
  unfold tsE
  exact tk_app (headT ++ [⟨2, 17, [114, 101, 116, 117, 114, 110], 0⟩]) _ i
theorem tkE_end (k i : Nat) : tk (tsE k) (8 + k + 1 + (k + i)) = tk [⟨4, 25 + k + k, [59], 0⟩, ⟨4, 27 + k + k, [125], 0⟩, ⟨0, 28 + k + k, [], 0⟩] i := by
  rw [show 8 + k + 1 + (k + i) = 8 + (k + (k + i + 1)) by omega, tkE_mid, tk_past, tk_next, tk_past]
theorem nestE (k : Nat) : Nest (tsE k) 8 24 k := by
  refine ⟨fun i h => ?_, ?_, fun i h => ?_, ?_⟩
  · rw [tkE_mid, tk_row _ h]
  · rw [tkE_mid]; exact tk_past 40 24 k _ 0
  · rw [show 8 + k + 1 + i = 8 + (k + (i + 1)) by omega, tkE_mid, tk_past, tk_next, tk_row _ h, show 25 + k + i = 24 + k + 1 + i by omega]
  · rw [show 8 + k + 1 + k = 8 + k + 1 + (k + 0) from rfl, tkE_end]; rfl
theorem tkO_mid (k i : Nat) : tk (tsO k) (9 + i) = tk (rowT 40 19 k ++ ⟨3, 19 + k, [55], 7⟩ :: (rowT 41 (20 + k) k ++ [⟨4, 20 + k + k, [93], 0⟩, ⟨4, 22 + k + k, [61], 0⟩, ⟨3, 24 + k + k, [49], 1⟩, ⟨4, 25 + k + k, [59], 0⟩, ⟨4, 27 + k + k, [125], 0⟩, ⟨0, 28 + k + k, [], 0⟩])) i := by
  unfold tsO
  exact tk_app (headT ++ [⟨1, 17, [97], 0⟩, ⟨4, 18, [91], 0⟩]) _ i
theorem tkO_end (k i : Nat) : tk (tsO k) (9 + k + 1 + (k + i)) = tk [⟨4, 20 + k + k, [93], 0⟩, ⟨4, 22 + k + k, [61], 0⟩, ⟨3, 24 + k + k, [49], 1⟩, ⟨4, 25 + k + k, [59], 0⟩, ⟨4, 27 + k + k, [125], 0⟩, ⟨0, 28 + k + k, [], 0⟩] i := by
  rw [show 9 + k + 1 + (k + i) = 9 + (k + (k + i + 1)) by omega, tkO_mid, tk_past, tk_next, tk_past]
theorem nestO (k : Nat) : Nest (tsO k) 9 19 k := by
  refine ⟨fun i h => ?_, ?_, fun i h => ?_, ?_⟩
  · rw [tkO_mid, tk_row _ h]
  · rw [tkO_mid]; exact tk_past 40 19 k _ 0
  · rw [show 9 + k + 1 + i = 9 + (k + (i + 1)) by omega, tkO_mid, tk_past, tk_next, tk_row _ h, show 20 + k + i = 19 + k + 1 + i by omega]
  · rw [show 9 + k + 1 + k = 9 + k + 1 + (k + 0) from rfl, tkO_end]; rfl

theorem lenE (k : Nat) : (tsE k).length = 12 + k + k := by simp [tsE, row_len]; omega
theorem lenO (k : Nat) : (tsO k).length = 16 + k + k := by simp [tsO, row_len]; omega

abbrev sevE (p : Nat) : Ex := .mk 1 0 [] 7 p []
theorem block_E (k e : Nat) (hk : k ≤ 199) : blockF (tsE k) (3 * k + 6 + e) ⟨6, 0, 0⟩ = .ok ([.mk 6 1 [] 0 0 17 [sevE (24 + k)] [] []], ⟨8 + k + 1 + (k + 2), 0, 1⟩) := by
  have c1 : tk (tsE k) (8 + k + 1 + (k + 0)) = ⟨4, 25 + k + k, [59], 0⟩ := tkE_end k 0
  have c2 : tk (tsE k) (8 + k + 1 + (k + 1)) = ⟨4, 27 + k + k, [125], 0⟩ := tkE_end k 1
  have n8 : (tk (tsE k) 8).text ≠ [59] := by
    rcases Nat.eq_zero_or_pos k with h | h
    · have := (nestE k).num
      subst h
      rw [this]; simp
    · rw [(nestE k).opens 0 h]; simp
  rw [show 3 * k + 6 + e = (3 * k + 5 + e) + 1 by omega, blockF]
  refine bindR_of (expect_of (show (tk (tsE k) 6).text = [123] from rfl) (take_open (t := [123]) (show (tk (tsE k) 6).text = [123] from rfl) rfl (by decide))) ?_
  refine bindR_of (a := [.mk 6 1 [] 0 0 17 [sevE (24 + k)] [] []]) (s := ⟨8 + k + 1 + (k + 1), 1, 1⟩) ?_ ?_
  · rw [show 3 * k + 5 + e = (3 * k + 4 + e) + 1 by omega, bodyF, if_neg (show ¬ (tk (tsE k) 7).text = [125] from by show ¬ ([114, 101, 116, 117, 114, 110] : Bytes) = [125]; decide)]
    refine bindR_of (a := .mk 6 1 [] 0 0 17 [sevE (24 + k)] [] []) (s := ⟨8 + k + 1 + (k + 1), 1, 1⟩) ?_ ?_
    · rw [show 3 * k + 4 + e = (3 * k + 3 + e) + 1 by omega, smF]
      rw [if_neg (show ¬ (tk (tsE k) 7).kind = 1 from by show ¬ (2 : Nat) = 1; decide)]
      rw [if_neg (show ¬ (tk (tsE k) 7).text = [108, 101, 116] from by show ¬ ([114, 101, 116, 117, 114, 110] : Bytes) = _; decide)]
      rw [if_neg (show ¬ (tk (tsE k) 7).text = [105, 102] from by show ¬ ([114, 101, 116, 117, 114, 110] : Bytes) = _; decide)]
      rw [if_neg (show ¬ (tk (tsE k) 7).text = [119, 104, 105, 108, 101] from by show ¬ ([114, 101, 116, 117, 114, 110] : Bytes) = _; decide)]
      rw [if_pos (show (tk (tsE k) 7).text = [114, 101, 116, 117, 114, 110] from rfl)]
      refine bindR_of (take_else (t := [114, 101, 116, 117, 114, 110]) rfl rfl rfl) ?_
      rw [if_neg (show ¬ (tk (tsE k) 8).text = [59] from n8)]
      refine bindR_of (a := sevE (24 + k)) (s := ⟨8 + k + 1 + k, 1, 1⟩) ?_ ?_
      · have h := nest_ok (nestE k) 1 k e 1 (Nat.le_refl _) (by omega)
        rw [show 8 + (k - k) = 8 by omega] at h
        exact h
      · refine bindR_of (expect_of (show (tk (tsE k) (8 + k + 1 + k)).text = [59] from by rw [show 8 + k + 1 + k = 8 + k + 1 + (k + 0) from rfl, c1]) (take_else (t := [59]) (show (tk (tsE k) (8 + k + 1 + k)).text = [59] from by rw [show 8 + k + 1 + k = 8 + k + 1 + (k + 0) from rfl, c1]) rfl rfl)) ?_
        rfl
    · rw [show 3 * k + 4 + e = (3 * k + 3 + e) + 1 by omega, bodyF, if_pos (show (tk (tsE k) (8 + k + 1 + (k + 1))).text = [125] from by rw [c2])]
      rfl
  · refine bindR_of (expect_of (show (tk (tsE k) (8 + k + 1 + (k + 1))).text = [125] from by rw [c2]) (take_shut (t := [125]) (show (tk (tsE k) (8 + k + 1 + (k + 1))).text = [125] from by rw [c2]) rfl rfl)) ?_
    rfl
theorem block_E_deep (k e : Nat) (hk : 199 < k) : blockF (tsE k) (3 * k + 6 + e) ⟨6, 0, 0⟩ = .error (223, 5) := by
  rw [show 3 * k + 6 + e = (3 * k + 5 + e) + 1 by omega, blockF]
  refine bindR_of (expect_of (show (tk (tsE k) 6).text = [123] from rfl) (take_open (t := [123]) (show (tk (tsE k) 6).text = [123] from rfl) rfl (by decide))) ?_
  refine bindR_err ?_
  rw [show 3 * k + 5 + e = (3 * k + 4 + e) + 1 by omega, bodyF, if_neg (show ¬ (tk (tsE k) 7).text = [125] from by show ¬ ([114, 101, 116, 117, 114, 110] : Bytes) = [125]; decide)]
  refine bindR_err ?_
  rw [show 3 * k + 4 + e = (3 * k + 3 + e) + 1 by omega, smF]
  rw [if_neg (show ¬ (tk (tsE k) 7).kind = 1 from by show ¬ (2 : Nat) = 1; decide)]
  rw [if_neg (show ¬ (tk (tsE k) 7).text = [108, 101, 116] from by show ¬ ([114, 101, 116, 117, 114, 110] : Bytes) = _; decide)]
  rw [if_neg (show ¬ (tk (tsE k) 7).text = [105, 102] from by show ¬ ([114, 101, 116, 117, 114, 110] : Bytes) = _; decide)]
  rw [if_neg (show ¬ (tk (tsE k) 7).text = [119, 104, 105, 108, 101] from by show ¬ ([114, 101, 116, 117, 114, 110] : Bytes) = _; decide)]
  rw [if_pos (show (tk (tsE k) 7).text = [114, 101, 116, 117, 114, 110] from rfl)]
  refine bindR_of (take_else (t := [114, 101, 116, 117, 114, 110]) rfl rfl rfl) ?_
  rw [if_neg (show ¬ (tk (tsE k) 8).text = [59] from by rw [show tk (tsE k) 8 = _ from (nestE k).opens 0 (by omega)]; decide)]
  refine bindR_err ?_
  have h := nest_deep (nestE k) 1 k e 1 (Nat.le_refl _) (by omega) (by omega)
  rw [show 8 + (k - k) = 8 by omega, show 24 + (k - k) + (200 - (1 : Int)).toNat = 223 by omega] at h
  exact h

theorem place_O (k e n : Nat) (hk : k ≤ 198) : placeF (tsO k) (3 * k + 3 + e) ⟨8, 1, n⟩ = .ok (sevE (19 + k), ⟨9 + k + 1 + (k + 1), 1, n⟩) := by
  have c0 : tk (tsO k) (9 + k + 1 + (k + 0)) = ⟨4, 20 + k + k, [93], 0⟩ := tkO_end k 0
  unfold placeF
  refine bindR_of (expect_of (show (tk (tsO k) 8).text = [91] from rfl) (take_open (t := [91]) (show (tk (tsO k) 8).text = [91] from rfl) rfl (show (1 : Int) ≠ 200 by decide))) ?_
  refine bindR_of (a := sevE (19 + k)) (s := ⟨9 + k + 1 + k, 2, n⟩) ?_ ?_
  · have h := nest_ok (nestO k) n k e 2 (Nat.le_refl _) (by omega)
    rw [show 9 + (k - k) = 9 by omega] at h
    exact h
  · refine bindR_of (expect_of (show (tk (tsO k) (9 + k + 1 + k)).text = [93] from by rw [show 9 + k + 1 + k = 9 + k + 1 + (k + 0) from rfl, c0]) (take_shut (t := [93]) (show (tk (tsO k) (9 + k + 1 + k)).text = [93] from by rw [show 9 + k + 1 + k = 9 + k + 1 + (k + 0) from rfl, c0]) rfl rfl)) ?_
    rfl
theorem place_O_deep (k e n : Nat) (hk : 198 < k) : placeF (tsO k) (3 * k + 3 + e) ⟨8, 1, n⟩ = .error (217, 5) := by
  unfold placeF
  refine bindR_of (expect_of (show (tk (tsO k) 8).text = [91] from rfl) (take_open (t := [91]) (show (tk (tsO k) 8).text = [91] from rfl) rfl (show (1 : Int) ≠ 200 by decide))) ?_
  refine bindR_err ?_
  have h := nest_deep (nestO k) n k e 2 (Nat.le_refl _) (by omega) (by omega)
  rw [show 9 + (k - k) = 9 by omega, show 19 + (k - k) + (200 - (2 : Int)).toNat = 217 by omega] at h
  exact h
theorem block_O (k e : Nat) (hk : k ≤ 198) : blockF (tsO k) (3 * k + 6 + e) ⟨6, 0, 0⟩ = .ok ([.mk 3 1 [97] 0 0 17 [sevE (19 + k), .mk 1 0 [] 1 (24 + k + k) []] [] []], ⟨9 + k + 1 + (k + 5), 0, 1⟩) := by
  have c1 : tk (tsO k) (9 + k + 1 + (k + 1)) = ⟨4, 22 + k + k, [61], 0⟩ := tkO_end k 1
  have c2 : tk (tsO k) (9 + k + 1 + (k + 2)) = ⟨3, 24 + k + k, [49], 1⟩ := tkO_end k 2
  have c3 : tk (tsO k) (9 + k + 1 + (k + 3)) = ⟨4, 25 + k + k, [59], 0⟩ := tkO_end k 3
  have c4 : tk (tsO k) (9 + k + 1 + (k + 4)) = ⟨4, 27 + k + k, [125], 0⟩ := tkO_end k 4
  rw [show 3 * k + 6 + e = (3 * k + 5 + e) + 1 by omega, blockF]
  refine bindR_of (expect_of (show (tk (tsO k) 6).text = [123] from rfl) (take_open (t := [123]) (show (tk (tsO k) 6).text = [123] from rfl) rfl (by decide))) ?_
  refine bindR_of (a := [.mk 3 1 [97] 0 0 17 [sevE (19 + k), .mk 1 0 [] 1 (24 + k + k) []] [] []]) (s := ⟨9 + k + 1 + (k + 4), 1, 1⟩) ?_ ?_
  · rw [show 3 * k + 5 + e = (3 * k + 4 + e) + 1 by omega, bodyF, if_neg (show ¬ (tk (tsO k) 7).text = [125] from by show ¬ ([97] : Bytes) = [125]; decide)]
    refine bindR_of (a := .mk 3 1 [97] 0 0 17 [sevE (19 + k), .mk 1 0 [] 1 (24 + k + k) []] [] []) (s := ⟨9 + k + 1 + (k + 4), 1, 1⟩) ?_ ?_
    · rw [show 3 * k + 4 + e = (3 * k + 3 + e) + 1 by omega, smF, if_pos (show (tk (tsO k) 7).kind = 1 from rfl)]
      unfold namedF
      refine bindR_of (kindR_of (show (tk (tsO k) 7).kind = 1 from rfl) (take_else (t := [97]) rfl rfl rfl)) ?_
      rw [if_neg (show ¬ (tk (tsO k) 8).text = [61] from by show ¬ ([91] : Bytes) = [61]; decide), if_pos (show (tk (tsO k) 8).text = [91] from rfl)]
      refine bindR_of (place_O k e 1 hk) ?_
      refine bindR_of (expect_of (show (tk (tsO k) (9 + k + 1 + (k + 1))).text = [61] from by rw [c1]) (take_else (t := [61]) (show (tk (tsO k) (9 + k + 1 + (k + 1))).text = [61] from by rw [c1]) rfl rfl)) ?_
      refine bindR_of (a := .mk 1 0 [] 1 (24 + k + k) []) (s := ⟨9 + k + 1 + (k + 3), 1, 1⟩) ?_ ?_
      · show binF (tsO k) (3 * k + 3 + e) 1 ⟨9 + k + 1 + (k + 2), 1, 1⟩ = _
        rw [show 3 * k + 3 + e = (3 * k + e + 1 + 1) + 1 by omega, binF, un_op (by show prefixOf (tk (tsO k) (9 + k + 1 + (k + 2))).text = 0; rw [c2]; rfl)]
        refine bindR_of (op_num (b := [49]) (by show (tk (tsO k) (9 + k + 1 + (k + 2))).kind = 3; rw [c2]) (by show (tk (tsO k) (9 + k + 1 + (k + 2))).text = [49]; rw [c2]) rfl rfl) ?_
        rw [loop_end (by show (infixOf (tk (tsO k) (9 + k + 1 + (k + 3))).text).1 = 0; rw [c3]; rfl)]
        show (Except.ok (Ex.mk 1 0 [] (tk (tsO k) (9 + k + 1 + (k + 2))).num (tk (tsO k) (9 + k + 1 + (k + 2))).pos [], _) : R Ex) = _
        rw [c2]
        rfl
      · refine bindR_of (expect_of (show (tk (tsO k) (9 + k + 1 + (k + 3))).text = [59] from by rw [c3]) (take_else (t := [59]) (show (tk (tsO k) (9 + k + 1 + (k + 3))).text = [59] from by rw [c3]) rfl rfl)) ?_
        rfl
    · rw [show 3 * k + 4 + e = (3 * k + 3 + e) + 1 by omega, bodyF, if_pos (show (tk (tsO k) (9 + k + 1 + (k + 4))).text = [125] from by rw [c4])]
      rfl
  · refine bindR_of (expect_of (show (tk (tsO k) (9 + k + 1 + (k + 4))).text = [125] from by rw [c4]) (take_shut (t := [125]) (show (tk (tsO k) (9 + k + 1 + (k + 4))).text = [125] from by rw [c4]) rfl rfl)) ?_
    rfl
theorem block_O_deep (k e : Nat) (hk : 198 < k) : blockF (tsO k) (3 * k + 6 + e) ⟨6, 0, 0⟩ = .error (217, 5) := by
  rw [show 3 * k + 6 + e = (3 * k + 5 + e) + 1 by omega, blockF]
  refine bindR_of (expect_of (show (tk (tsO k) 6).text = [123] from rfl) (take_open (t := [123]) (show (tk (tsO k) 6).text = [123] from rfl) rfl (by decide))) ?_
  refine bindR_err ?_
  rw [show 3 * k + 5 + e = (3 * k + 4 + e) + 1 by omega, bodyF, if_neg (show ¬ (tk (tsO k) 7).text = [125] from by show ¬ ([97] : Bytes) = [125]; decide)]
  refine bindR_err ?_
  rw [show 3 * k + 4 + e = (3 * k + 3 + e) + 1 by omega, smF, if_pos (show (tk (tsO k) 7).kind = 1 from rfl)]
  unfold namedF
  refine bindR_of (kindR_of (show (tk (tsO k) 7).kind = 1 from rfl) (take_else (t := [97]) rfl rfl rfl)) ?_
  rw [if_neg (show ¬ (tk (tsO k) 8).text = [61] from by show ¬ ([91] : Bytes) = [61]; decide), if_pos (show (tk (tsO k) 8).text = [91] from rfl)]
  exact bindR_err (place_O_deep k e 1 hk)
end
end Go.Proofs.YtoimhdejfeclpaaGreatDoor.Px
