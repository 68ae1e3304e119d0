/-
  The face of the scanner: the deferred closure that catches a fault.
-/
import Derived.Test.YtcgllooeimacdaaGreatDoorProg
import Derived.WalkKit
import Derived.WalkLawsBesides
import Derived.Defers
import Derived.Recover
import Derived.RegionTactic
import Derived.BigRegion
import Derived.Laws.NewBlocks
import Derived.Lib.Hide
namespace Go.Proofs.YtcgllooeimacdaaGreatDoor
open Go Go.RowKit

theorem slots (x y z : Value) : (#[x, y, z] ++ Array.replicate (Tryz.f31.ntmps - #[x, y, z].size) undef) = #[x, y, z, undef, undef, undef, undef, undef, undef, undef, undef, undef, undef, undef, undef, undef] := by kernel_rfl

set_option maxRecDepth 100000 in
theorem catch_idle (pt pa pe : Addr) (w : World) :
    CallsD Tryz.prog 31 #[.pointer (some pt), .pointer (some pa), .pointer (some pe)] .returning w fun e u' w' => e = .returned (.tuple #[]) ∧ u' = .returning ∧ w' = w := by
  refine callsD_of_wpS Tryz.func31 rfl fun c₀ cs hu => ?_
  rw [slots]
  apply wpS_seq
  apply wpS_region
  simp [wpOpsS, go_sem, recoverD, hu, Exit.thenS]
  refine wpS_of_wp ?_
  go_wp2
  cases c₀
  simp_all [bodyPostS, results, Tryz.results31]

/-- What the closure leaves behind a fault: nothing, the place, the error; below the three variables nothing has turned. -/
def CatchPost (N : Nat) (p n : Int) (w w' : World) : Prop := Below N w w' ∧ w'.cell? ⟨N, 0, none⟩ = some (.slice none 0 0) ∧ w'.cell? ⟨N + 1, 0, none⟩ = some (.int .i64 p) ∧ w'.cell? ⟨N + 2, 0, none⟩ = some (.int .i64 n)

set_option maxRecDepth 100000 in
set_option maxHeartbeats 800000 in
theorem catch_fault (N : Nat) (p n : Int) (x0 x1 x2 : Value) (older : List PanicEntry) (w : World) (ht : w.cell? ⟨N, 0, none⟩ = some x0) (ha : w.cell? ⟨N + 1, 0, none⟩ = some x1) (he : w.cell? ⟨N + 2, 0, none⟩ = some x2)
    (ft : w.frozen? ⟨N, 0, none⟩ = false) (fa : w.frozen? ⟨N + 1, 0, none⟩ = false) (fe : w.frozen? ⟨N + 2, 0, none⟩ = false) (hN : N + 2 < w.heap.size) :
    CallsD Tryz.prog 31 #[.pointer (some ⟨N, 0, none⟩), .pointer (some ⟨N + 1, 0, none⟩), .pointer (some ⟨N + 2, 0, none⟩)] (.panicking ({ v := .iface 83 (.agg #[.int .i64 p, .int .i64 n]), recovered := false } :: older)) w fun e u' w' =>
      e = .returned (.tuple #[]) ∧ u' = .panicking ({ v := .iface 83 (.agg #[.int .i64 p, .int .i64 n]), recovered := true } :: older) ∧ CatchPost N p n w w' := by
  refine callsD_of_wpS Tryz.func31 rfl fun c₀ cs hu => ?_
  rw [slots]
  apply wpS_seq
  apply wpS_region
  simp [wpOpsS, go_sem, recoverD, hu, Exit.thenS]
  refine wpS_of_wp ?_
  have a0 : (w.alloc (.cells #[.int .i64 p, .int .i64 n] 83)).cell? ⟨w.heap.size, 0, none⟩ = some (.int .i64 p) := by simp
  have a1 : (w.alloc (.cells #[.int .i64 p, .int .i64 n] 83)).cell? ⟨w.heap.size, 1, none⟩ = some (.int .i64 n) := by simp
  have b0 : (w.alloc (.cells #[.int .i64 p, .int .i64 n] 83)).cell? ⟨N, 0, none⟩ = some x0 := by rw [World.cell?_alloc_past _ _ _ (by show N < _; omega)]; exact ht
  have b1 : (w.alloc (.cells #[.int .i64 p, .int .i64 n] 83)).cell? ⟨N + 1, 0, none⟩ = some x1 := by rw [World.cell?_alloc_past _ _ _ (by show N + 1 < _; omega)]; exact ha
  have b2 : (w.alloc (.cells #[.int .i64 p, .int .i64 n] 83)).cell? ⟨N + 2, 0, none⟩ = some x2 := by rw [World.cell?_alloc_past _ _ _ (by show N + 2 < _; omega)]; exact he
  have d0 : (w.alloc (.cells #[.int .i64 p, .int .i64 n] 83)).frozen? ⟨N, 0, none⟩ = false := by rw [World.frozen?_alloc_past _ _ _ (by show N < _; omega)]; exact ft
  have d1 : (w.alloc (.cells #[.int .i64 p, .int .i64 n] 83)).frozen? ⟨N + 1, 0, none⟩ = false := by rw [World.frozen?_alloc_past _ _ _ (by show N + 1 < _; omega)]; exact fa
  have d2 : (w.alloc (.cells #[.int .i64 p, .int .i64 n] 83)).frozen? ⟨N + 2, 0, none⟩ = false := by rw [World.frozen?_alloc_past _ _ _ (by show N + 2 < _; omega)]; exact fe
  have hta : ∀ (v : Value) (w : World), (Instr.typeAssert (.iface 83 v) 20 83 true).run Tryz.prog w = .ok (.tuple #[v, .bool true]) w := fun _ _ => by kernel_rfl
  go_wp2
  go_region
  have hp : CatchPost N p n w ((((w.alloc (.cells #[.int .i64 p, .int .i64 n] 83)).setCell ⟨N, 0, none⟩ (.slice none 0 0)).setCell ⟨N + 1, 0, none⟩ (.int .i64 p)).setCell ⟨N + 2, 0, none⟩ (.int .i64 n)).drew := by
    refine ⟨?_, ?_, ?_, ?_⟩
    · exact (((((Below.refl _ _).alloc (by omega) _).setCell (by show N ≤ N; omega) _).setCell (by show N ≤ N + 1; omega) _).setCell (by show N ≤ N + 2; omega) _).drew
    · rw [World.cell?_drew, World.cell?_setCell_other _ _ _ _ (by simp), World.cell?_setCell_other _ _ _ _ (by simp)]
      exact World.cell?_setCell_same _ _ _ b0
    · rw [World.cell?_drew, World.cell?_setCell_other _ _ _ _ (by simp)]
      exact World.cell?_setCell_same _ _ _ ((World.cell?_setCell_other _ _ _ _ (by simp)).trans b1)
    · rw [World.cell?_drew]
      exact World.cell?_setCell_same _ _ _ ((World.cell?_setCell_other _ _ _ _ (by simp)).trans ((World.cell?_setCell_other _ _ _ _ (by simp)).trans b2))
  have HP := Lib.hid hp
  clear hp a0 a1 b0 b1 b2 d0 d1 d2 ht ha he ft fa fe
  simp only [Exit.inBlock]
  show bodyPostS _ _ _ _ _ _ _ _ _
  simp only [bodyPostS]
  exact ⟨trivial, _, rfl, _, results_none rfl _ _ _, rfl, rfl, HP.out⟩
end Go.Proofs.YtcgllooeimacdaaGreatDoor
