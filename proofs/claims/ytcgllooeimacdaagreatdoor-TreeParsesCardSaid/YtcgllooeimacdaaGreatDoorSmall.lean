/-
  The small functions of the scanner: which bytes are blanks, letters, digits: each returns what the plain function says, and nothing in memory has turned; the two closures that count.
-/
import Derived.Test.YtcgllooeimacdaaGreatDoorProg
import Derived.Test.YtcgllooeimacdaaGreatDoorPlain
import Derived.WalkKit
import Derived.WalkLawsBesides
import Derived.Handy
import Derived.OneCell
import Derived.Lib.Hide
import Derived.Lib.BufferWrite
import Derived.BigQuiet
import Derived.Deep.QuietTactic
namespace Go.Proofs.YtcgllooeimacdaaGreatDoor
open Go Go.RowKit Lx

abbrev B8 (c : UInt8) : Value := .int .u8 (c.toNat : Int)
theorem ret_bool {a b : Bool} (h : a = b) : Ending.returned (.bool a) = .returned (.bool b) := by rw [h]
theorem ret_int {k : IntKind} {a b : Int} (h : a = b) : Ending.returned (.int k a) = .returned (.int k b) := by rw [h]
theorem u8_eq (c : UInt8) (n : Nat) (h : n < 256) : (c = UInt8.ofNat n) = (c.toNat = n) := by
  apply propext
  constructor
  · rintro rfl; simp; omega
  · intro e; rw [← e]; simp

theorem smallB_iff (c : UInt8) : smallB c = true ↔ 97 ≤ c.toNat ∧ c.toNat ≤ 122 := by simp [smallB, UInt8.le_iff_toNat_le]
theorem digitB_iff (c : UInt8) : digitB c = true ↔ 48 ≤ c.toNat ∧ c.toNat ≤ 57 := by simp [digitB, UInt8.le_iff_toNat_le]
theorem greatB_iff (c : UInt8) : greatB c = true ↔ 65 ≤ c.toNat ∧ c.toNat ≤ 90 := by simp [greatB, UInt8.le_iff_toNat_le]
theorem blankB_iff (c : UInt8) : blankB c = true ↔ c.toNat = 32 ∨ c.toNat = 9 ∨ c.toNat = 10 ∨ c.toNat = 13 := by
  have a := u8_eq c 32 (by decide); have b := u8_eq c 9 (by decide); have d := u8_eq c 10 (by decide); have e := u8_eq c 13 (by decide)
  simp only [blankB, Bool.or_eq_true, beq_iff_eq]
  rw [← a, ← b, ← d, ← e]
  simp [or_assoc]

theorem small_any (c : UInt8) (w : World) : Calls Tryz.prog 63 #[B8 c] w fun e w' => e = .returned (.bool (smallB c)) ∧ w = w' := by
  have H := smallB_iff c
  go_enter Tryz.func63, Tryz.ntmps63
  go_wp2
  all_goals
    go_ret
    refine ⟨ret_bool ?_, rfl⟩
    rw [Bool.eq_iff_iff, H]
    simp
    try omega

theorem digit_any (c : UInt8) (w : World) : Calls Tryz.prog 65 #[B8 c] w fun e w' => e = .returned (.bool (digitB c)) ∧ w = w' := by
  have H := digitB_iff c
  go_enter Tryz.func65, Tryz.ntmps65
  go_wp2
  all_goals
    go_ret
    refine ⟨ret_bool ?_, rfl⟩
    rw [Bool.eq_iff_iff, H]
    simp
    try omega

theorem blank_any (c : UInt8) (w : World) : Calls Tryz.prog 62 #[B8 c] w fun e w' => e = .returned (.bool (blankB c)) ∧ w = w' := by
  have H := blankB_iff c
  go_enter Tryz.func62, Tryz.ntmps62
  go_wp2
  all_goals
    go_ret
    refine ⟨ret_bool ?_, rfl⟩
    rw [Bool.eq_iff_iff, H]
    simp
    try omega

theorem letter_any (c : UInt8) (w : World) : Calls Tryz.prog 82 #[B8 c] w fun e w' => e = .returned (.bool (letterB c)) ∧ w = w' := by
  have H := greatB_iff c
  go_enter Tryz.func82, Tryz.ntmps82
  go_wp2_with (go_at_call 63; refine (small_any c _).mono ?_; rintro e w' ⟨rfl, rfl⟩)
  all_goals
    go_ret
    refine ⟨ret_bool ?_, rfl⟩
    rw [Bool.eq_iff_iff, letterB, Bool.or_eq_true, H]
    simp [*]
    try omega

theorem name1_any (c : UInt8) (w : World) : Calls Tryz.prog 79 #[B8 c] w fun e w' => e = .returned (.bool (nameB c)) ∧ w = w' := by
  go_enter Tryz.func79, Tryz.ntmps79
  go_wp2_with (first | (go_at_call 63; refine (small_any c _).mono ?_; rintro e w' ⟨rfl, rfl⟩) | (go_at_call 65; refine (digit_any c _).mono ?_; rintro e w' ⟨rfl, rfl⟩))
  all_goals
    go_ret
    refine ⟨ret_bool ?_, rfl⟩
    simp [nameB, *]

theorem u8_beq (c : UInt8) (n : Nat) (h : n < 256) : ((c.toNat : Int) == (n : Int)) = (c == UInt8.ofNat n) := by
  rw [Bool.eq_iff_iff, beq_iff_eq, beq_iff_eq, u8_eq c n h]
  omega

theorem skip1_any (c : UInt8) (rb : Nat) (T : TypeId) (r : Bool) (w : World) (hb : w.heap[rb]? = some (.cells #[.bool r] T (0, 0))) :
    Calls Tryz.prog 61 #[B8 c, .pointer (some ⟨rb, 0, none⟩)] w fun e w' => e = .returned (.bool ((c == 35 || (r && c != 10)) || blankB c)) ∧
      w'.heap[rb]? = some (.cells #[.bool (c == 35 || (r && c != 10))] T (0, 0)) ∧ w.grownBy w' (some rb) := by
  have ha := cell_of_one hb
  have hf := free_of_one hb
  have s1 := one_setCell (u := .bool true) hb
  have s2 := one_setCell (u := .bool false) hb
  have H := Lib.hid (And.intro hb (And.intro s1 s2))
  clear hb s1 s2
  go_enter Tryz.func61, Tryz.ntmps61
  go_wp2_with (go_at_call 62; refine (blank_any c _).mono ?_; rintro e w' ⟨rfl, rfl⟩)
  all_goals
    have e35 := u8_beq c 35 (by decide)
    have e10 := u8_beq c 10 (by decide)
    have h35 : UInt8.ofNat 35 = 35 := rfl
    have h10 : UInt8.ofNat 10 = 10 := rfl
    rw [h35] at e35
    rw [h10] at e10
    obtain ⟨hb, s1, s2⟩ := H.out
    go_ret
  · have h1 : ((c.toNat : Int) == 35) = true := by assumption
    have g1 : (c == 35) = true := by rw [← e35]; exact h1
    rw [g1]
    exact ⟨rfl, s1, Lib.grownBy_setCell _ _ _ _⟩
  · have h1 : ((c.toNat : Int) == 35) = false := by assumption
    have h2 : ((c.toNat : Int) == 10) = true := by assumption
    have g1 : (c == 35) = false := by rw [← e35]; exact h1
    have g2 : (c == 10) = true := by rw [← e10]; exact h2
    have g3 : (c != 10) = false := by simp [bne, g2]
    rw [g1, g3, Bool.and_false]
    exact ⟨rfl, s2, Lib.grownBy_setCell _ _ _ _⟩
  · have h1 : ((c.toNat : Int) == 35) = false := by assumption
    have h2 : ((c.toNat : Int) == 10) = false := by assumption
    have hr : r = true := by assumption
    have g1 : (c == 35) = false := by rw [← e35]; exact h1
    have g2 : (c == 10) = false := by rw [← e10]; exact h2
    have g3 : (c != 10) = true := by simp [bne, g2]
    rw [hr] at hb
    rw [g1, g3, hr]
    exact ⟨rfl, hb, World.grownBy.refl _ _⟩
  · have h1 : ((c.toNat : Int) == 35) = false := by assumption
    have h2 : ((c.toNat : Int) == 10) = false := by assumption
    have hr : r = false := by rename_i h; simpa using h
    have g1 : (c == 35) = false := by rw [← e35]; exact h1
    rw [hr] at hb
    rw [g1, hr]
    exact ⟨rfl, hb, World.grownBy.refl _ _⟩

/-- Giving up: the panic bears the place and the error. -/
theorem giveUp_any (p n : Int) (w : World) : Calls Tryz.prog 45 #[.int .i64 p, .int .i64 n] w fun e w' => e = .panicked [{ v := .iface 83 (.agg #[.int .i64 p, .int .i64 n]), recovered := false }] ∧ w = w' := by
  go_enter Tryz.func45, Tryz.ntmps45
  go_wp2
  exact ⟨rfl, rfl, rfl⟩

/-- The closure that counts down. -/
theorem sign1_any (c : Value) (lb : Nat) (T : TypeId) (n : Int) (w : World) (h1 : -9 ≤ n) (h2 : n ≤ 9) (hb : w.heap[lb]? = some (.cells #[.int .i64 n] T (0, 0))) :
    Calls Tryz.prog 84 #[c, .pointer (some ⟨lb, 0, none⟩)] w fun e w' => e = .returned (.bool (decide (1 ≤ n))) ∧
      w'.heap[lb]? = some (.cells #[.int .i64 (n - 1)] T (0, 0)) ∧ w.grownBy w' (some lb) := by
  have ha := cell_of_one hb
  have hf := free_of_one hb
  have s1 := one_setCell (u := .int .i64 (n - 1)) hb
  have H := Lib.hid s1
  clear hb s1
  go_enter Tryz.func84, Tryz.ntmps84
  go_wp2
  go_ret
  exact ⟨rfl, H.out, Lib.grownBy_setCell _ _ _ _⟩
end Go.Proofs.YtcgllooeimacdaaGreatDoor
