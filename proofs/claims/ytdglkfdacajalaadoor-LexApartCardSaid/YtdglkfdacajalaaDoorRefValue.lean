/-
  What digits are worth, as the document reckons it.
-/
import Derived.Test.YtdglkfdacajalaaDoorRefWord
import Derived.Test.YtdglkfdacajalaaDoorNum
namespace Go.Proofs.YtdglkfdacajalaaDoor
open Go Go.RowKit Lx

/-- What is told of a number of so much worth. -/
def valR (v : Nat) : Ending := if v ≤ 9223372036854775807 then .returned (.tuple #[.int .i64 (v : Int), .bool true]) else .returned (.tuple #[.int .i64 0, .bool false])

set_option maxRecDepth 100000 in
set_option maxHeartbeats 800000 in
theorem value_any (X : ByteArray) (hs : X.size ≤ 20000) (hd : ∀ c ∈ Bs X, digitB c = true) (w : World) :
    Calls Tryd.prog 18 #[.string X] w fun e w' => e = valR (valueF 0 (Bs X)) ∧ w = w' := by
  have HD := Lib.hid hd
  clear hd
  go_enter Tryd.func18, Tryd.ntmps18
  go_wp2
  go_loop [4, 5] (fun n i => ∃ k N : Nat, k ≤ X.size ∧ i = .int .i64 k ∧ n = .int .i64 N ∧ N ≤ 9223372036854775807 ∧ valueF 0 (Bs X) = valueF N ((Bs X).drop k)) (fun _ i => X.size - (intOf i).toNat)
  case atStart => exact ⟨0, 0, by omega, rfl, rfl, by omega, rfl⟩
  case round =>
    obtain ⟨k, N, hk, rfl, rfl, hN, hv⟩ := hrel
    have HV := Lib.hid hv
    clear hv
    by_cases hlt : k < X.size
    · obtain ⟨c, hc⟩ : ∃ c : UInt8, c = X[k] := ⟨_, rfl⟩
      have h1 := getElem_drop X k hlt
      have hmem : X[k] ∈ Bs X := List.mem_of_mem_drop (i := k) (by rw [h1]; exact List.mem_cons_self)
      have h2 := (digitB_iff X[k]).1 (HD.out X[k] hmem)
      have HC := Lib.hid (And.intro h1 h2)
      clear h1 hmem
      go_wp2
      · rename_i hg _
        refine bodyPost_ret (v := .tuple #[.int .i64 0, .bool false]) (by simp [results, Tryd.results18, go_sem]) rfl ?_
        refine ⟨?_, rfl⟩
        have h3 := valueF_ge ((Bs X).drop (k + 1)) (10 * N + (X[k].toNat - 48))
        have h4 := HV.out
        have h5 : (9223372036854775807 - ((X[k].toNat : Int) - 48)) / 10 < (N : Int) := hg
        rw [HC.out.1] at h4
        have h6 : valueF N (X[k] :: (Bs X).drop (k + 1)) = valueF (10 * N + (X[k].toNat - 48)) ((Bs X).drop (k + 1)) := rfl
        rw [valR, if_neg (by omega)]
      · rename_i hg
        have hg' : (N : Int) ≤ (9223372036854775807 - ((X[k].toNat : Int) - 48)) / 10 := hg
        have hb : 10 * (N : Int) + ((X[k].toNat : Int) - 48) ≤ 9223372036854775807 := by omega
        go_round
        case rel =>
          refine ⟨k + 1, 10 * N + (X[k].toNat - 48), by omega, by go_num, ?_, by omega, ?_⟩
          · exact congrArg (Value.int IntKind.i64) (by omega)
          · have h4 := HV.out
            rw [HC.out.1] at h4
            exact h4
        case measure => simp [intOf]; omega
    · have hke : k = X.size := by omega
      have HK := Lib.hid hke
      clear hke
      go_wp2
      refine bodyPost_ret (v := .tuple #[.int .i64 (N : Int), .bool true]) (by simp [results, Tryd.results18, go_sem]) rfl ?_
      refine ⟨?_, rfl⟩
      have h4 := HV.out
      rw [List.drop_of_length_le (by rw [bs_length]; exact Nat.le_of_eq HK.out.symm)] at h4
      have h5 : valueF 0 (Bs X) = N := h4
      rw [valR, h5, if_pos hN]
end Go.Proofs.YtdglkfdacajalaaDoor
