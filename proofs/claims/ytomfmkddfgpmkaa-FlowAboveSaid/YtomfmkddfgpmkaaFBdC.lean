/-
  Borders: does a node have another in its border already: the closure.
-/
import Derived.Test.YtomfmkddfgpmkaaFInt
namespace Go.Proofs.Ytomfmkddfgpmkaa
open Go Go.RowKit Fl

set_option maxRecDepth 100000 in
set_option maxHeartbeats 1600000 in
theorem has_nil (bb nb bl N n sc : Nat) (sa : Option Addr) (hn : n < N) (w : World) (c0 : w.cell? ⟨bb, 0, none⟩ = some (.slice (some ⟨bl, 0, none⟩) N N)) (c1 : w.cell? ⟨bl, n, none⟩ = some (.slice sa 0 sc)) :
    Calls Try.prog 43 #[I (n : Int), .pointer (some ⟨bb, 0, none⟩), .pointer (some ⟨nb, 0, none⟩)] w fun e w' => e = .returned (.bool false) ∧ ∃ k, w' = w.drewN k := by
  have d0 : (0 : Int) ≤ (n : Int) := by omega
  have d1 : (n : Int) < (N : Int) := by omega
  clear hn
  go_enter Try.func43, Try.ntmps43
  go_wp2_with fail
  go_quiet (fail)
  go_wp2_with fail
  go_ret
  exact ⟨rfl, _, rfl⟩

set_option maxRecDepth 100000 in
set_option maxHeartbeats 1600000 in
theorem has_one (bb nb bl N n M gg sc x b : Nat) (hM : M ≤ 60000) (hn : n < N) (w : World) (c0 : w.cell? ⟨bb, 0, none⟩ = some (.slice (some ⟨bl, 0, none⟩) N N)) (c1 : w.cell? ⟨bl, n, none⟩ = some (.slice (some ⟨gg, 0, none⟩) (M + 1) sc)) (c2 : w.cell? ⟨gg, M, none⟩ = some (I (x : Int))) (c3 : w.cell? ⟨nb, 0, none⟩ = some (I (b : Int))) :
    Calls Try.prog 43 #[I (n : Int), .pointer (some ⟨bb, 0, none⟩), .pointer (some ⟨nb, 0, none⟩)] w fun e w' => e = .returned (.bool ((x : Int) == (b : Int))) ∧ ∃ k, w' = w.drewN k := by
  have d0 : (0 : Int) ≤ (n : Int) := by omega
  have d1 : (n : Int) < (N : Int) := by omega
  have e2 : (0 : Int) ≤ (M : Int) := by omega
  have e3 : (M : Int) + 1 ≤ 60001 := by omega
  have e5 : decide ((0 : Int) < (M : Int) + 1) = true := by rw [decide_eq_true_eq]; omega
  clear hn hM
  go_enter Try.func43, Try.ntmps43
  go_wp2_with fail
  go_quiet (fail)
  go_wp2_with fail
  go_ret
  exact ⟨rfl, _, rfl⟩
end Go.Proofs.Ytomfmkddfgpmkaa
