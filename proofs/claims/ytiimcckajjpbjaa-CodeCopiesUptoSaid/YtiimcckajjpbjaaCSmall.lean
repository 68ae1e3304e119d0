/-
  The small functions of the code between: what is told of each Op, by the program and by the document's answer; a number within bounds.
-/
import Derived.Test.YtiimcckajjpbjaaFMem
namespace Go.Proofs.Ytiimcckajjpbjaa
open Go Go.RowKit

namespace Cd
def trapsB (op : Nat) : Bool := op == 4 || op == 5 || op == 33 || op == 34 || op == 41
def twoB (op : Nat) : Bool := 1 ≤ op && op ≤ 16
def pureB (op : Nat) : Bool := (op != 4 && op != 5) && (op == 19 || op == 20 || op == 21 || op == 30 || op == 31 || twoB op)
end Cd
open Cd

set_option maxRecDepth 100000 in
set_option maxHeartbeats 800000 in
theorem traps_any (op : Nat) (w : World) : Calls Try.prog 83 #[.int .u8 (op : Int)] w fun e w' => e = .returned (.bool (trapsB op)) ∧ w = w' := by
  go_enter Try.func83, Try.ntmps83
  go_wp2_with fail
  all_goals go_ret
  all_goals refine ⟨ret_bool ?_, rfl⟩
  all_goals simp only [beq_iff_eq, beq_eq_false_iff_ne] at *
  all_goals (unfold trapsB; simp; try omega)

set_option maxRecDepth 100000 in
set_option maxHeartbeats 800000 in
theorem two_any (op : Nat) (w : World) : Calls Try.prog 34 #[.int .u8 (op : Int)] w fun e w' => e = .returned (.bool (twoB op)) ∧ w = w' := by
  go_enter Try.func34, Try.ntmps34
  go_wp2_with fail
  all_goals go_ret
  all_goals refine ⟨ret_bool ?_, rfl⟩
  all_goals (unfold twoB; rw [Bool.eq_iff_iff]; simp; omega)

set_option maxRecDepth 100000 in
set_option maxHeartbeats 800000 in
theorem pure_any (op : Nat) (w : World) : Calls Try.prog 23 #[.int .u8 (op : Int)] w fun e w' => e = .returned (.bool (pureB op)) ∧ w = w' := by
  go_enter Try.func23, Try.ntmps23
  go_wp2_with (go_at_call 34; refine (two_any _ _).mono ?_; rintro e w' ⟨rfl, rfl⟩)
  all_goals go_ret
  all_goals refine ⟨ret_bool ?_, rfl⟩
  all_goals simp only [beq_iff_eq, beq_eq_false_iff_ne] at *
  all_goals (unfold pureB; rw [Bool.eq_iff_iff]; simp; try omega)
  constructor
  · exact fun h => ⟨⟨by omega, by omega⟩, Or.inr h⟩
  · rintro ⟨_, h | h⟩
    · omega
    · exact h

/-- What is told of an Op: how many Args, does it make a value, is there such a one. -/
def Cd.shapeF (op : Nat) : Int × Bool × Bool :=
  if op = 30 ∨ op = 32 ∨ op = 36 ∨ op = 37 ∨ op = 41 ∨ op = 43 then (0, true, true)
  else if op = 19 ∨ op = 20 ∨ op = 21 ∨ op = 31 ∨ op = 35 then (1, true, true)
  else if op = 33 then (2, true, true)
  else if op = 39 ∨ op = 45 then (-1, true, true)
  else if op = 42 then (0, false, true)
  else if op = 38 ∨ op = 40 ∨ op = 44 then (1, false, true)
  else if op = 34 then (3, false, true)
  else if 1 ≤ op ∧ op ≤ 16 then (2, true, true) else (0, false, false)
def shapeV (p : Int × Bool × Bool) : Ending := .returned (.tuple #[.int .i64 p.1, .bool p.2.1, .bool p.2.2])
theorem shapeV_of {a : Int} {b c : Bool} {p : Int × Bool × Bool} (h : (a, b, c) = p) : Ending.returned (.tuple #[.int .i64 a, .bool b, .bool c]) = shapeV p := by rw [← h]; rfl

set_option maxRecDepth 100000 in
set_option maxHeartbeats 1600000 in
theorem shape_any (op : Nat) (w : World) : Calls Try.prog 21 #[.int .u8 (op : Int)] w fun e w' => e = shapeV (shapeF op) ∧ w = w' := by
  by_cases h2 : twoB op = true
  · have H2 := Lib.hid h2
    have HC := Lib.hid (two_any op w)
    clear h2
    go_enter Try.func21, Try.ntmps21
    go_wp2_with fail
    all_goals first | (refine HC.out.mono ?_; rintro e w' ⟨rfl, rfl⟩; rw [H2.out]; go_wp2_with fail) | skip
    all_goals go_ret3
    all_goals refine ⟨shapeV_of ?_, rfl⟩
    all_goals simp only [beq_iff_eq, beq_eq_false_iff_ne] at *
    all_goals (have h2 := H2.out; unfold twoB at h2; simp at h2; first | (exfalso; omega) | (unfold shapeF; repeat (first | rw [if_pos (by omega)] | rw [if_neg (by omega)])))
  · have H2 := Lib.hid h2
    have HC := Lib.hid (two_any op w)
    clear h2
    go_enter Try.func21, Try.ntmps21
    go_wp2_with fail
    all_goals first | (refine HC.out.mono ?_; rintro e w' ⟨rfl, rfl⟩; rw [(Bool.not_eq_true _).mp H2.out]; go_wp2_with fail) | skip
    all_goals go_ret3
    all_goals refine ⟨shapeV_of ?_, rfl⟩
    all_goals simp only [beq_iff_eq, beq_eq_false_iff_ne] at *
    all_goals (have h2 := H2.out; unfold twoB at h2; simp at h2; first | (exfalso; omega) | (unfold shapeF; repeat (first | rw [if_pos (by omega)] | rw [if_neg (by omega)])))

set_option maxRecDepth 100000 in
set_option maxHeartbeats 800000 in
theorem refTraps_any (op : Nat) (w : World) : Calls Try.prog 46 #[.int .u8 (op : Int)] w fun e w' => e = .returned (.bool (trapsB op)) ∧ w = w' := by
  go_enter Try.func46, Try.ntmps46
  go_wp2_with fail
  all_goals go_ret
  all_goals refine ⟨ret_bool ?_, rfl⟩
  all_goals try simp only [beq_iff_eq, beq_eq_false_iff_ne] at *
  all_goals (unfold trapsB; rw [Bool.eq_iff_iff]; simp; try omega)

theorem within_any (n a b : Int) (w : World) : Calls Try.prog 52 #[.int .i64 n, .int .i64 a, .int .i64 b] w fun e w' => e = .returned (.bool (decide (a ≤ n ∧ n ≤ b))) ∧ w = w' := by
  go_enter Try.func52, Try.ntmps52
  go_wp2_with fail
  all_goals go_ret
  all_goals refine ⟨ret_bool ?_, rfl⟩
  all_goals (rw [Bool.eq_iff_iff]; simp; try omega)
end Go.Proofs.Ytiimcckajjpbjaa
