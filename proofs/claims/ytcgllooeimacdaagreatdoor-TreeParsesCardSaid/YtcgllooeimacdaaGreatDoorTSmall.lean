/-
  The parser's small functions: an operation's sign and strength, a type's name, the operation that a sign stands for: each returns what the plain function says, and nothing in memory has turned.
-/
import Derived.Test.YtcgllooeimacdaaGreatDoorProg
import Derived.Test.YtcgllooeimacdaaGreatDoorTLow
import Derived.WalkKit
import Derived.WalkLawsBesides
import Derived.Handy
import Derived.OneCell
import Derived.Lib.Hide
import Derived.BigQuiet
import Derived.Deep.QuietTactic
namespace Go.Proofs.YtcgllooeimacdaaGreatDoor
open Go Go.RowKit Px

def signV (p : Bytes × Nat) : Ending := .returned (.tuple #[.string ⟨p.1.toArray⟩, .int .i64 (p.2 : Int)])

theorem signOf_none (op : Nat) (h : 21 < op) : signOf op = ([], 0) := by
  unfold signOf
  rw [if_neg (by omega), List.getD_eq_getElem?_getD, List.getElem?_eq_none (by show 21 ≤ op - 1; omega)]; rfl

set_option maxRecDepth 100000 in
set_option maxHeartbeats 800000 in
theorem unarySign_any (op : Nat) (ho : op < 256) (h18 : op = 0 ∨ 18 < op) (w : World) : Calls Tryz.prog 26 #[.int .u8 (op : Int)] w fun e w' => e = signV (signOf op) ∧ w = w' := by
  go_enter Tryz.func26, Tryz.ntmps26
  go_wp2_with fail
  all_goals go_ret2
  all_goals refine ⟨?_, rfl⟩
  all_goals simp only [beq_iff_eq, beq_eq_false_iff_ne] at *
  all_goals first | (obtain rfl : op = 19 := (by omega); rfl) | (obtain rfl : op = 20 := (by omega); rfl) | (obtain rfl : op = 21 := (by omega); rfl) | skip
  rcases h18 with rfl | h18
  · rfl
  · rw [signOf_none op (by omega)]; rfl

set_option maxRecDepth 100000 in
set_option maxHeartbeats 1600000 in
theorem signs_any (op : Nat) (ho : op < 256) (w : World) : Calls Tryz.prog 13 #[.int .u8 (op : Int)] w fun e w' => e = signV (signOf op) ∧ w = w' := by
  by_cases h0 : op = 0 ∨ 18 < op
  · have H := Lib.hid (unarySign_any op ho h0 w)
    go_enter Tryz.func13, Tryz.ntmps13
    go_wp2_with fail
    all_goals first | (exfalso; simp only [beq_iff_eq, beq_eq_false_iff_ne] at *; omega) | skip
    refine H.out.mono ?_
    rintro e w' ⟨rfl, rfl⟩
    unfold signV
    go_wp2
    go_ret2
    exact ⟨rfl, rfl⟩
  · go_enter Tryz.func13, Tryz.ntmps13
    go_wp2_with fail
    all_goals first | (exfalso; simp only [beq_iff_eq, beq_eq_false_iff_ne] at *; omega) | skip
    all_goals go_ret2
    all_goals refine ⟨?_, rfl⟩
    all_goals simp only [beq_iff_eq, beq_eq_false_iff_ne] at *
    all_goals first | (obtain rfl : op = 1 := (by omega); rfl) | (obtain rfl : op = 2 := (by omega); rfl) | (obtain rfl : op = 3 := (by omega); rfl) | (obtain rfl : op = 4 := (by omega); rfl) | (obtain rfl : op = 5 := (by omega); rfl) | (obtain rfl : op = 6 := (by omega); rfl) | (obtain rfl : op = 7 := (by omega); rfl) | (obtain rfl : op = 8 := (by omega); rfl) | (obtain rfl : op = 9 := (by omega); rfl) | (obtain rfl : op = 10 := (by omega); rfl) | (obtain rfl : op = 11 := (by omega); rfl) | (obtain rfl : op = 12 := (by omega); rfl) | (obtain rfl : op = 13 := (by omega); rfl) | (obtain rfl : op = 14 := (by omega); rfl) | (obtain rfl : op = 15 := (by omega); rfl) | (obtain rfl : op = 16 := (by omega); rfl) | (obtain rfl : op = 17 := (by omega); rfl) | (obtain rfl : op = 18 := (by omega); rfl)

theorem name_any' (k : Nat) (w : World) : Calls Tryz.prog 15 #[.int .u8 (k : Int)] w fun e w' => e = .returned (.string ⟨(nameOf k).toArray⟩) ∧ w = w' := by
  go_enter Tryz.func15, Tryz.ntmps15
  go_wp2_with fail
  all_goals go_ret
  all_goals refine ⟨?_, rfl⟩
  all_goals simp only [beq_iff_eq, beq_eq_false_iff_ne] at *
  all_goals first | (obtain rfl : k = 1 := (by omega); rfl) | (obtain rfl : k = 2 := (by omega); rfl) | (obtain rfl : k = 3 := (by omega); rfl) | (unfold nameOf; rw [if_neg (by omega), if_neg (by omega), if_neg (by omega)]; rfl)

theorem findOp_step (t : Bytes) (n op : Nat) : findOp t (n + 1) op = if (signOf op).1 = t then (op, (signOf op).2) else findOp t n (op + 1) := rfl
theorem signOf_lt (op : Nat) : (signOf op).2 < 12 := by
  by_cases h : 21 < op
  · rw [signOf_none op h]; decide
  · have : ∀ k, k < 22 → (signOf k).2 < 12 := by decide
    exact this op (by omega)

set_option maxRecDepth 100000 in
set_option maxHeartbeats 800000 in
theorem infix_any (t : Bytes) (w : World) : Calls Tryz.prog 142 #[.string ⟨t.toArray⟩] w fun e w' => e = .returned (.tuple #[.int .u8 ((infixOf t).1 : Int), .int .i64 ((infixOf t).2 : Int)]) ∧ w = w' := by
  go_enter Tryz.func142, Tryz.ntmps142
  go_wp2_with fail
  go_loop [4] (fun x => ∃ k : Nat, k ≤ 18 ∧ x = .int .u8 ((k + 1 : Nat) : Int) ∧ infixOf t = findOp t (18 - k) (k + 1)) (fun x => 19 - (intOf x).toNat)
  case atStart => exact ⟨0, by omega, rfl, rfl⟩
  case round =>
    obtain ⟨k, hk, rfl, hf⟩ := hrel
    by_cases hlt : k < 18
    · have hs := findOp_step t (17 - k) (k + 1)
      rw [show 17 - k + 1 = 18 - k from by omega, ← hf] at hs
      have HS := Lib.hid hs
      clear hs hf
      have HC := Lib.hid (signs_any (k + 1) (by omega) w)
      go_wp2_with fail
      refine HC.out.mono ?_
      rintro e w' ⟨rfl, rfl⟩
      unfold signV
      by_cases hq : (signOf (k + 1)).1 = t
      · have he' : ((signOf (k + 1)).1 == t) = true := by simpa using hq
        rw [if_pos hq] at HS
        have HQ := Lib.hid hq
        clear hq
        go_wp2_with fail
        go_ret2
        refine ⟨?_, rfl⟩
        rw [HS.out]
        rfl
      · have he' : ((signOf (k + 1)).1 == t) = false := by simpa using hq
        rw [if_neg hq] at HS
        clear hq
        go_wp2_with fail
        go_round
        case rel => exact ⟨k + 1, by omega, by go_num, by rw [HS.out, show 17 - k = 18 - (k + 1) from by omega]⟩
        case measure => simp [intOf]; omega
    · obtain rfl : k = 18 := by omega
      have HF := Lib.hid hf
      clear hf
      go_wp2_with fail
      go_ret2
      refine ⟨?_, rfl⟩
      rw [HF.out]
      rfl

set_option maxRecDepth 100000 in
set_option maxHeartbeats 800000 in
theorem prefix_any (t : Bytes) (w : World) : Calls Tryz.prog 152 #[.string ⟨t.toArray⟩] w fun e w' => e = .returned (.int .u8 (prefixOf t : Int)) ∧ w = w' := by
  go_enter Tryz.func152, Tryz.ntmps152
  go_wp2_with fail
  go_loop [3] (fun x => ∃ k : Nat, k ≤ 3 ∧ x = .int .u8 ((k + 19 : Nat) : Int) ∧ prefixOf t = (findOp t (3 - k) (k + 19)).1) (fun x => 22 - (intOf x).toNat)
  case atStart => exact ⟨0, by omega, rfl, rfl⟩
  case round =>
    obtain ⟨k, hk, rfl, hf⟩ := hrel
    by_cases hlt : k < 3
    · have hs := findOp_step t (2 - k) (k + 19)
      rw [show 2 - k + 1 = 3 - k from by omega] at hs
      rw [hs] at hf
      have HS := Lib.hid hf
      clear hs hf
      have HC := Lib.hid (signs_any (k + 19) (by omega) w)
      go_wp2_with fail
      refine HC.out.mono ?_
      rintro e w' ⟨rfl, rfl⟩
      unfold signV
      by_cases hq : (signOf (k + 19)).1 = t
      · have he' : ((signOf (k + 19)).1 == t) = true := by simpa using hq
        rw [if_pos hq] at HS
        clear hq
        go_wp2_with fail
        go_ret
        refine ⟨?_, rfl⟩
        rw [HS.out]
        rfl
      · have he' : ((signOf (k + 19)).1 == t) = false := by simpa using hq
        rw [if_neg hq] at HS
        clear hq
        go_wp2_with fail
        go_round
        case rel => exact ⟨k + 1, by omega, by go_num, by rw [HS.out, show 2 - k = 3 - (k + 1) from by omega, show k + 19 + 1 = k + 1 + 19 from by omega]⟩
        case measure => simp [intOf]; omega
    · obtain rfl : k = 3 := by omega
      have HF := Lib.hid hf
      clear hf
      go_wp2_with fail
      go_ret
      refine ⟨?_, rfl⟩
      rw [HF.out]
      rfl
end Go.Proofs.YtcgllooeimacdaaGreatDoor
