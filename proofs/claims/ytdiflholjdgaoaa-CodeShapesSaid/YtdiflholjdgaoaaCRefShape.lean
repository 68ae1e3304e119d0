/-
  The document's answer to what is told of an Op.
-/
import Derived.Test.YtdiflholjdgaoaaCSmall
import Derived.Below
import Derived.Laws.Rows
import Derived.RegionTactic
import Derived.Deep.Cut
namespace Go.Proofs.Ytdiflholjdgaoaa
open Go Go.RowKit Cd

def refArgs : Obj := .cells #[.int .i64 0, .int .i64 1, .int .i64 0, .int .i64 2, .int .i64 3, .int .i64 1, .int .i64 0, .int .i64 0, .int .i64 1, .int .i64 (-1), .int .i64 1, .int .i64 0, .int .i64 0, .int .i64 0, .int .i64 1, .int .i64 (-1)] 3
def refMakes : Obj := .cells #[.bool true, .bool true, .bool true, .bool true, .bool false, .bool true, .bool true, .bool true, .bool false, .bool true, .bool false, .bool true, .bool false, .bool true, .bool false, .bool true] 4
theorem refArgs_cell (w : World) (j : Nat) (h : j < 16) : ((w.alloc refArgs).alloc refMakes).cell? ⟨w.heap.size, j, none⟩ = some (.int .i64 (shapeF (j + 30)).1) := by
  unfold refArgs
  rw [World.cell?_alloc_past _ _ _ (by show w.heap.size < _; simp), cell_of_row _ _ _ _ _ _ (heap_alloc_new w _)]
  match j, h with
  | 0, _ => rfl
  | 1, _ => rfl
  | 2, _ => rfl
  | 3, _ => rfl
  | 4, _ => rfl
  | 5, _ => rfl
  | 6, _ => rfl
  | 7, _ => rfl
  | 8, _ => rfl
  | 9, _ => rfl
  | 10, _ => rfl
  | 11, _ => rfl
  | 12, _ => rfl
  | 13, _ => rfl
  | 14, _ => rfl
  | 15, _ => rfl
  | n + 16, h => exact absurd h (by omega)
theorem refMakes_cell (w : World) (j : Nat) (h : j < 16) : ((w.alloc refArgs).alloc refMakes).cell? ⟨w.heap.size + 1, j, none⟩ = some (.bool (shapeF (j + 30)).2.1) := by
  unfold refMakes
  rw [cell_of_row _ _ _ _ _ _ (by have := heap_alloc_new (w.alloc refArgs) (.cells #[.bool true, .bool true, .bool true, .bool true, .bool false, .bool true, .bool true, .bool true, .bool false, .bool true, .bool false, .bool true, .bool false, .bool true, .bool false, .bool true] 4); simpa using this)]
  match j, h with
  | 0, _ => rfl
  | 1, _ => rfl
  | 2, _ => rfl
  | 3, _ => rfl
  | 4, _ => rfl
  | 5, _ => rfl
  | 6, _ => rfl
  | 7, _ => rfl
  | 8, _ => rfl
  | 9, _ => rfl
  | 10, _ => rfl
  | 11, _ => rfl
  | 12, _ => rfl
  | 13, _ => rfl
  | 14, _ => rfl
  | 15, _ => rfl
  | n + 16, h => exact absurd h (by omega)
theorem shapeF_in (op : Nat) (h1 : 30 ≤ op) (h2 : op ≤ 45) : (shapeF op).2.2 = true := by
  unfold shapeF
  repeat' split
  all_goals first | rfl | omega

set_option maxRecDepth 100000 in
set_option maxHeartbeats 1600000 in
theorem refShape_any (op : Nat) (ho : op < 256) (w : World) : Calls Try.prog 46 #[.int .u8 (op : Int)] w fun e w' => e = shapeV (shapeF op) ∧ Below w.heap.size w w' := by
  have HB := Lib.hid (((Below.refl w.heap.size w).alloc (Nat.le_refl _) refArgs).alloc (by simp) refMakes)
  have HB0 := Lib.hid (Below.refl w.heap.size w)
  by_cases h1 : 30 ≤ op ∧ op ≤ 45
  · obtain ⟨j, rfl⟩ : ∃ j, op = j + 30 := ⟨op - 30, by omega⟩
    have hj : j < 16 := by omega
    have c1 := refArgs_cell w j hj
    have c2 := refMakes_cell w j hj
    have h3 := shapeF_in (j + 30) (by omega) (by omega)
    obtain ⟨p, hp⟩ : ∃ p, p = shapeF (j + 30) := ⟨_, rfl⟩
    rw [← hp] at c1 c2 h3 ⊢
    obtain ⟨a, b, c⟩ := p
    simp only at c1 c2 h3
    subst h3
    clear hp
    obtain ⟨W, hW⟩ : ∃ W, W = (w.alloc refArgs).alloc refMakes := ⟨_, rfl⟩
    rw [← hW] at c1 c2 HB
    have HW := Lib.hid hW
    clear hW h1
    go_enter Try.func46, Try.ntmps46
    go_upto_region 9 with (fail)
    all_goals first | (exfalso; omega) | skip
    change Code.wp _ _ _ _ ((w.alloc refArgs).alloc refMakes)
    rw [← HW.out]
    have e1 : IntKind.u8.wrap (((j + 30 : Nat) : Int) - 30) = (j : Int) := by
      rw [show ((j + 30 : Nat) : Int) - 30 = (j : Int) by omega]
      exact IntWalk.u8_in _ ⟨by omega, by omega⟩
    have e2 : (0 : Int) ≤ (j : Int) := by omega
    have e3 : (j : Int) < 16 := by omega
    go_quiet (fail)
    go_wp2_with fail
    go_ret3
    exact ⟨shapeV_of rfl, ⟨HB.out.os, HB.out.tape, HB.out.output, HB.out.size, HB.out.block⟩⟩
  · rcases Nat.lt_or_ge op 30 with h | h
    · go_enter Try.func46, Try.ntmps46
      go_wp2_with fail
      all_goals first | (exfalso; omega) | skip
      all_goals go_ret3
      all_goals refine ⟨shapeV_of ?_, by first | exact HB.out | exact HB0.out⟩
      all_goals (unfold shapeF; repeat (first | rw [if_pos (by omega)] | rw [if_neg (by omega)]))
    · have h4 : 45 < op := by omega
      clear h1 h
      go_enter Try.func46, Try.ntmps46
      go_wp2_with fail
      all_goals first | (exfalso; omega) | skip
      all_goals go_ret3
      all_goals refine ⟨shapeV_of ?_, by first | exact HB.out | exact HB0.out⟩
      all_goals (unfold shapeF; repeat (first | rw [if_pos (by omega)] | rw [if_neg (by omega)]))
end Go.Proofs.Ytdiflholjdgaoaa
