/-
  The document's list of words, gone through.
-/
import Derived.Test.YtdglkfdacajalaaDoorScan1
import Derived.Deep.LoopGhost
namespace Go.Proofs.YtdglkfdacajalaaDoor
open Go Go.RowKit Lx

def refWords : Obj := .cells #[.string ⟨#[102, 110]⟩, .string ⟨#[108, 101, 116]⟩, .string ⟨#[105, 102]⟩, .string ⟨#[101, 108, 115, 101]⟩, .string ⟨#[119, 104, 105, 108, 101]⟩, .string ⟨#[114, 101, 116, 117, 114, 110]⟩, .string ⟨#[112, 114, 105, 110, 116]⟩, .string ⟨#[116, 114, 117, 101]⟩, .string ⟨#[102, 97, 108, 115, 101]⟩, .string ⟨#[114, 101, 97, 100]⟩, .string ⟨#[108, 101, 110]⟩, .string ⟨#[105, 110, 116]⟩, .string ⟨#[98, 111, 111, 108]⟩, .string ⟨#[97, 114, 114]⟩] 9
theorem refWords_cell (w : World) (j : Nat) (h : j < 14) : (w.alloc refWords).cell? ⟨w.heap.size, j, none⟩ = some (.string ⟨(wordsL[j]'h).toArray⟩) := by
  unfold refWords
  rw [cell_of_row _ _ _ _ _ _ (heap_alloc_new w _)]
  match j, h with
  | 0, _ => rfl
  | 1, _ => rfl
  | 2, _ => rfl
  | 3, _ => rfl
  | 4, _ => rfl
  | 5, _ => rfl
  | 6, _ => rfl
  | 7, _ => rfl
  | 8, _ => rfl
  | 9, _ => rfl
  | 10, _ => rfl
  | 11, _ => rfl
  | 12, _ => rfl
  | 13, _ => rfl

theorem word_of {l : List UInt8} {k : Nat} (h : k < 14) (e : l = wordsL[k]'h) : wordB l = true := by
  unfold wordB
  rw [List.contains_iff_mem, e]
  exact List.getElem_mem _
theorem word_not {l : List UInt8} (h : ∀ j (hj : j < 14), l ≠ wordsL[j]'hj) : wordB l = false := by
  rw [Bool.eq_false_iff]
  intro e
  unfold wordB at e
  rw [List.contains_iff_mem] at e
  obtain ⟨j, hj, e2⟩ := List.getElem_of_mem e
  exact h j hj e2.symm

set_option maxRecDepth 100000 in
set_option maxHeartbeats 800000 in
theorem refWord_any (X : ByteArray) (w : World) :
    Calls Tryd.prog 14 #[.string X] w fun e w' => e = .returned (.bool (wordB (Bs X))) ∧ Below w.heap.size w w' := by
  have HC := Lib.hid (refWords_cell w)
  have HB := Lib.hid ((Below.refl w.heap.size w).alloc (Nat.le_refl _) refWords)
  obtain ⟨W, hW⟩ : ∃ W, W = w.alloc refWords := ⟨_, rfl⟩
  rw [← hW] at HC HB
  have HW := Lib.hid hW
  clear hW
  go_enter Tryd.func14, Tryd.ntmps14
  go_wp2
  change Code.wp _ _ _ _ (w.alloc refWords)
  rw [← HW.out]
  go_loop [7] (fun i => ∃ k : Nat, k ≤ 14 ∧ i = .int .i64 k ∧ ∀ j (hj : j < 14), j < k → Bs X ≠ wordsL[j]'hj) (fun i => 14 - (intOf i).toNat)
  case atStart => exact ⟨0, by omega, rfl, fun j _ h => by omega⟩
  case round =>
    obtain ⟨k, hk, rfl, hn⟩ := hrel
    have HN := Lib.hid hn
    clear hn
    by_cases hlt : k < 14
    · obtain ⟨x, hx⟩ : ∃ x : ByteArray, x = ⟨(wordsL[k]'hlt).toArray⟩ := ⟨_, rfl⟩
      have hc : W.cell? ⟨w.heap.size, k, none⟩ = some (.string x) := by rw [hx]; exact HC.out k hlt
      have HX : Hid (x.toList = wordsL[k]'hlt) := by
        show _ = _
        rw [Lib.toList_data, hx]
      clear hx
      by_cases he : (X.toList == x.toList) = true
      · have HE := Lib.hid (eq_of_beq he)
        go_wp2
        go_ret
        refine ⟨ret_bool ?_, HB.out⟩
        refine (word_of hlt ?_).symm
        rw [← HX.out, ← HE.out, Lib.toList_data]
      · have he' : (X.toList == x.toList) = false := by simpa using he
        have HE := Lib.hid (ne_of_beq_false he')
        clear he
        go_wp2
        go_round
        case rel =>
          refine ⟨k + 1, by omega, by go_num, fun j hj hjk => ?_⟩
          by_cases hjk2 : j = k
          · subst hjk2
            intro e
            exact HE.out (by rw [HX.out, Lib.toList_data]; exact e)
          · exact HN.out j hj (by omega)
        case measure => simp [intOf]; omega
    · go_wp2
      go_ret
      refine ⟨ret_bool ?_, HB.out⟩
      exact (word_not (fun j hj => HN.out j hj (by omega))).symm
end Go.Proofs.YtdglkfdacajalaaDoor
