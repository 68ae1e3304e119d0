/-
  The graph of no nodes: nothing stands above.
-/
import Derived.Test.YtomfmkddfgpmkaaFNst
namespace Go.Proofs.Ytomfmkddfgpmkaa
open Go Go.RowKit Fl

set_option maxRecDepth 100000 in
set_option maxHeartbeats 8000000 in
theorem nearest_nil (bc b0 m : Nat) (hn : m = 0) (w : World) (c0 : w.cell? ⟨bc, 0, none⟩ = some (.slice (some ⟨b0, 0, none⟩) m m)) :
    Calls Try.prog 42 #[.pointer (some ⟨bc, 0, none⟩)] w fun e w' => ∃ b, e = .returned (.slice (some ⟨b, 0, none⟩) m m) ∧ Below w.heap.size w w' := by
  have hmk := mkIn m (by omega)
  have hmf : ∀ (fn : Fn) (first cap : Array Value) (w : World), (Instr.makeFunc fn first cap).run Try.prog w = .ok (.func fn first cap) w := fun _ _ _ _ => rfl
  have d1 : decide (1 < m) = false := by simp; omega
  have d2 : decide ((1 : Int) < (m : Int)) = false := by simp; omega
  have D1 := Lib.hid (And.intro d1 d2)
  clear hn d1 d2
  go_enter Try.func42, Try.ntmps42
  go_upto_region 2 with (fail)
  go_cut [4, 5, 6] from 16 to 21 (fun p q r W => Near5 w m p q r W)
  case first =>
    clear c0 hmf
    go_region
    all_goals (go_wp2_with fail; go_meet; case rel => as_aux_lemma => exact near5_of (by first | exact five_get w _ _ _ _ _ 0 _ rfl | exact five_get w _ _ _ _ _ 1 _ rfl | exact five_get w _ _ _ _ _ 2 _ rfl | exact five_get w _ _ _ _ _ 3 _ rfl | exact five_get w _ _ _ _ _ 4 _ rfl) (by first | exact five_get w _ _ _ _ _ 0 _ rfl | exact five_get w _ _ _ _ _ 1 _ rfl | exact five_get w _ _ _ _ _ 2 _ rfl | exact five_get w _ _ _ _ _ 3 _ rfl | exact five_get w _ _ _ _ _ 4 _ rfl) (by first | exact five_get w _ _ _ _ _ 0 _ rfl | exact five_get w _ _ _ _ _ 1 _ rfl | exact five_get w _ _ _ _ _ 2 _ rfl | exact five_get w _ _ _ _ _ 3 _ rfl | exact five_get w _ _ _ _ _ 4 _ rfl) (by first | exact five_get w _ _ _ _ _ 0 _ rfl | exact five_get w _ _ _ _ _ 1 _ rfl | exact five_get w _ _ _ _ _ 2 _ rfl | exact five_get w _ _ _ _ _ 3 _ rfl | exact five_get w _ _ _ _ _ 4 _ rfl) (by first | exact five_get w _ _ _ _ _ 0 _ rfl | exact five_get w _ _ _ _ _ 1 _ rfl | exact five_get w _ _ _ _ _ 2 _ rfl | exact five_get w _ _ _ _ _ 3 _ rfl | exact five_get w _ _ _ _ _ 4 _ rfl) (below5 _ _ _ _ _ _) (by omega) (by omega) (by omega))
  case rest =>
    as_aux_lemma =>
    obtain ⟨fb, nb, f, n, d, rfl, rfl, rfl, hN⟩ := hcut
    obtain ⟨W, rfl⟩ : ∃ W, W = wc := ⟨_, rfl⟩
    have FIN := Lib.hid hN.bel
    have n0 := hN.bn.get 0 (.slice (some ⟨n, 0, none⟩) m m) rfl
    clear hN c0
    go_wp2_with fail
    go_loop [8] (fun iv => iv = I 1) (fun _ => 0)
    case atStart => rfl
    case round =>
      subst hrel
      have d1 := D1.out.1
      have d2 := D1.out.2
      go_wp2_with fail
      go_ret
      exact ⟨⟨_, rfl⟩, FIN.out⟩

end Go.Proofs.Ytomfmkddfgpmkaa
