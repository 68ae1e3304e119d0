/-
  The statement's own signs and names: they are the plain functions'.
-/
import Derived.Test.YtcgllooeimacdaaGreatDoorTParse
namespace Go.Proofs.YtcgllooeimacdaaGreatDoor
open Go Go.RowKit Px

theorem refName_any (k : Nat) (w : World) : Calls Tryz.prog 16 #[.int .u8 (k : Int)] w fun e w' => e = .returned (.string ⟨(nameOf k).toArray⟩) ∧ w = w' := by
  go_enter Tryz.func16, Tryz.ntmps16
  go_wp2_with fail
  all_goals go_ret
  all_goals refine ⟨?_, rfl⟩
  all_goals simp only [beq_iff_eq, beq_eq_false_iff_ne] at *
  all_goals first | (obtain rfl : k = 1 := (by omega); rfl) | (obtain rfl : k = 2 := (by omega); rfl) | (obtain rfl : k = 3 := (by omega); rfl) | (unfold nameOf; rw [if_neg (by omega), if_neg (by omega), if_neg (by omega)]; rfl)

abbrev nmsV : Array Value := #[.string ⟨#[]⟩, .string ⟨#[43]⟩, .string ⟨#[45]⟩, .string ⟨#[42]⟩, .string ⟨#[47]⟩, .string ⟨#[37]⟩, .string ⟨#[38]⟩, .string ⟨#[124]⟩, .string ⟨#[94]⟩, .string ⟨#[60, 60]⟩, .string ⟨#[62, 62]⟩, .string ⟨#[60]⟩, .string ⟨#[60, 61]⟩, .string ⟨#[62]⟩, .string ⟨#[62, 61]⟩, .string ⟨#[61, 61]⟩, .string ⟨#[33, 61]⟩, .string ⟨#[38, 38]⟩, .string ⟨#[124, 124]⟩, .string ⟨#[45]⟩, .string ⟨#[126]⟩, .string ⟨#[33]⟩]
abbrev levV : Array Value := #[.int .i64 0, .int .i64 9, .int .i64 9, .int .i64 10, .int .i64 10, .int .i64 10, .int .i64 7, .int .i64 5, .int .i64 6, .int .i64 8, .int .i64 8, .int .i64 4, .int .i64 4, .int .i64 4, .int .i64 4, .int .i64 3, .int .i64 3, .int .i64 2, .int .i64 1, .int .i64 11, .int .i64 11, .int .i64 11]
theorem nms_eq : nmsV = ((List.range 22).map fun k => Value.string ⟨(signOf k).1.toArray⟩).toArray := rfl
theorem lev_eq : levV = ((List.range 22).map fun k => Value.int .i64 ((signOf k).2 : Int)).toArray := rfl

set_option maxRecDepth 100000 in
set_option maxHeartbeats 1600000 in
theorem refSigns_any (op : Nat) (ho : op < 256) (w : World) : Calls Tryz.prog 14 #[.int .u8 (op : Int)] w fun e w' => e = signV (signOf op) ∧ Below w.heap.size w w' := by
  by_cases h : 22 ≤ op
  · have hi : decide ((22 : Int) ≤ (op : Int)) = true := by simp; omega
    go_enter Tryz.func14, Tryz.ntmps14
    go_wp2_with fail
    go_ret2
    refine ⟨by rw [signOf_none op (by omega)]; rfl, by go_grown⟩
  · have hi : decide ((22 : Int) ≤ (op : Int)) = false := by simp; omega
    obtain ⟨W, hW⟩ : ∃ W, W = (w.alloc (.cells nmsV 9)).alloc (.cells levV 3) := ⟨_, rfl⟩
    have hbW : Below w.heap.size w W := by rw [hW]; exact ((Below.refl _ _).alloc (Nat.le_refl _) _).alloc (by simp) _
    have hP : Blk w.heap.size nmsV 9 W := by rw [hW]; exact (Blk.new w _ _).below ((Below.refl _ _).alloc (Nat.le_refl _) _) (by simp)
    have hQ : Blk (w.heap.size + 1) levV 3 W := by rw [hW]; exact Blk.new' _ _ _ (by simp)
    have hc1 : W.cell? ⟨w.heap.size, op, none⟩ = some (.string ⟨(signOf op).1.toArray⟩) := hP.get op _ (by rw [nms_eq]; simp only [List.getElem?_toArray, List.getElem?_map, List.getElem?_range (show op < 22 by omega), Option.map_some])
    have hc2 : W.cell? ⟨w.heap.size + 1, op, none⟩ = some (.int .i64 ((signOf op).2 : Int)) := hQ.get op _ (by rw [lev_eq]; simp only [List.getElem?_toArray, List.getElem?_map, List.getElem?_range (show op < 22 by omega), Option.map_some])
    have HWW := Lib.hid hW
    have HB := Lib.hid hbW
    have ho22 : (op : Int) < 22 := by omega
    clear hW hbW hP hQ
    go_enter Tryz.func14, Tryz.ntmps14
    go_upto_region 3 with (fail)
    rw [← HWW.out]
    go_wp2_with fail
    go_region
    all_goals (go_wp2; go_ret2; exact ⟨rfl, by first | exact HB.out | exact HB.out.drew⟩)
end Go.Proofs.YtcgllooeimacdaaGreatDoor
