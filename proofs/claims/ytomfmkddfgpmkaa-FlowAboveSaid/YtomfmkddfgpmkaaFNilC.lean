/-
  The graph of no nodes: a climb's beginning.
-/
import Derived.Test.YtomfmkddfgpmkaaFClimb2
namespace Go.Proofs.Ytomfmkddfgpmkaa
open Go Go.RowKit Fl

set_option maxRecDepth 100000 in
set_option maxHeartbeats 8000000 in
theorem newClimb_nil (bw bn n : Nat) (hn : n = 0) (w : World) (c0 : w.cell? ⟨bw, 0, none⟩ = some (.slice none n 0)) :
    Calls Try.prog 40 #[.pointer (some ⟨bw, 0, none⟩), .slice (some ⟨bn, 0, none⟩) n n] w fun e w' => ClimbT w n [] [] [] w' e := by
  have hmk := mkIn n (by omega)
  have HN := Lib.hid hn
  have hem : ([] : List Nat).length = n := by rw [hn]; rfl
  have HE := Lib.hid hem
  have hno : ∀ j : Nat, decide (j < n) = false := fun j => by simp; omega
  have HNO := Lib.hid hno
  clear hn hem hno
  go_enter Try.func40, Try.ntmps40
  go_upto_region 2 with (fail)
  go_cut [6] from 13 to 22 (fun p W => ClimbB w n [] [] [] p W)
  case first =>
    have HA := Lib.hid (fourJ w n [] [] [] HE.out)
    go_region
    all_goals (go_wp2_with fail; go_meet; case rel => exact ⟨_, _, _, _, _, rfl, HA.out _ _ _ _ _ (by omega) (by omega) (by omega) (by omega) (by omega) (by omega)⟩)
  case rest =>
    obtain ⟨bc, b0, b1, b2, b3, rfl, hW⟩ := hcut
    obtain ⟨W, rfl⟩ : ∃ W, W = wc := ⟨_, rfl⟩
    have FIN := Lib.hid (show ClimbT w n [] [] [] W (.returned (.pointer (some ⟨bc, 0, none⟩))) by
      have hJ : ClimbJ w bc b0 b1 b2 b3 n [] [] [] n W := by have := hW; rw [show (0 : Nat) = n from HN.out.symm] at this; exact this
      obtain ⟨h1, h2⟩ := hJ
      rw [Fl.fromL_all HE.out, Fl.idL_all] at h1
      exact ⟨bc, b0, b1, b2, b3, rfl, h1, h2⟩)
    clear hW c0
    go_wp2_with fail
    go_loop [24] (fun iv => iv = I 0) (fun _ => 0)
    case atStart => rfl
    case round =>
      subst hrel
      have d1 : decide (0 < n) = false := HNO.out 0
      go_wp2_with fail
      go_ret
      exact FIN.out

end Go.Proofs.Ytomfmkddfgpmkaa
