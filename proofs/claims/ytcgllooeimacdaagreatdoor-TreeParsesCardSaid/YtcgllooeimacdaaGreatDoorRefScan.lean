/-
  Joined: RefWord, RefSmall, RefValue, RefScan.
-/
import Derived.Test.YtcgllooeimacdaaGreatDoorScan1
import Derived.Test.YtcgllooeimacdaaGreatDoorSign
import Derived.Test.YtcgllooeimacdaaGreatDoorNum
import Derived.Test.YtcgllooeimacdaaGreatDoorScan
import Derived.Deep.LoopGhost
import Derived.KernelRfl
import Derived.Lib.SlBytesConst
/-! The document's list of words, gone through. -/

namespace Go.Proofs.YtcgllooeimacdaaGreatDoor
open Go Go.RowKit Lx

def refWords : Obj := .cells #[.string ⟨#[102, 110]⟩, .string ⟨#[108, 101, 116]⟩, .string ⟨#[105, 102]⟩, .string ⟨#[101, 108, 115, 101]⟩, .string ⟨#[119, 104, 105, 108, 101]⟩, .string ⟨#[114, 101, 116, 117, 114, 110]⟩, .string ⟨#[112, 114, 105, 110, 116]⟩, .string ⟨#[116, 114, 117, 101]⟩, .string ⟨#[102, 97, 108, 115, 101]⟩, .string ⟨#[114, 101, 97, 100]⟩, .string ⟨#[108, 101, 110]⟩, .string ⟨#[105, 110, 116]⟩, .string ⟨#[98, 111, 111, 108]⟩, .string ⟨#[97, 114, 114]⟩] 9
theorem refWords_cell (w : World) (j : Nat) (h : j < 14) : (w.alloc refWords).cell? ⟨w.heap.size, j, none⟩ = some (.string ⟨(wordsL[j]'h).toArray⟩) := by
  unfold refWords
  rw [cell_of_row _ _ _ _ _ _ (heap_alloc_new w _)]
  match j, h with
  | 0, _ => rfl
  | 1, _ => rfl
  | 2, _ => rfl
  | 3, _ => rfl
  | 4, _ => rfl
  | 5, _ => rfl
  | 6, _ => rfl
  | 7, _ => rfl
  | 8, _ => rfl
  | 9, _ => rfl
  | 10, _ => rfl
  | 11, _ => rfl
  | 12, _ => rfl
  | 13, _ => rfl

theorem word_of {l : List UInt8} {k : Nat} (h : k < 14) (e : l = wordsL[k]'h) : wordB l = true := by
  unfold wordB
  rw [List.contains_iff_mem, e]
  exact List.getElem_mem _
theorem word_not {l : List UInt8} (h : ∀ j (hj : j < 14), l ≠ wordsL[j]'hj) : wordB l = false := by
  rw [Bool.eq_false_iff]
  intro e
  unfold wordB at e
  rw [List.contains_iff_mem] at e
  obtain ⟨j, hj, e2⟩ := List.getElem_of_mem e
  exact h j hj e2.symm

set_option maxRecDepth 100000 in
set_option maxHeartbeats 800000 in
theorem refWord_any (X : ByteArray) (w : World) :
    Calls Tryz.prog 28 #[.string X] w fun e w' => e = .returned (.bool (wordB (Bs X))) ∧ Below w.heap.size w w' := by
  have HC := Lib.hid (refWords_cell w)
  have HB := Lib.hid ((Below.refl w.heap.size w).alloc (Nat.le_refl _) refWords)
  obtain ⟨W, hW⟩ : ∃ W, W = w.alloc refWords := ⟨_, rfl⟩
  rw [← hW] at HC HB
  have HW := Lib.hid hW
  clear hW
  go_enter Tryz.func28, Tryz.ntmps28
  go_wp2
  change Code.wp _ _ _ _ (w.alloc refWords)
  rw [← HW.out]
  go_loop [7] (fun i => ∃ k : Nat, k ≤ 14 ∧ i = .int .i64 k ∧ ∀ j (hj : j < 14), j < k → Bs X ≠ wordsL[j]'hj) (fun i => 14 - (intOf i).toNat)
  case atStart => exact ⟨0, by omega, rfl, fun j _ h => by omega⟩
  case round =>
    obtain ⟨k, hk, rfl, hn⟩ := hrel
    have HN := Lib.hid hn
    clear hn
    by_cases hlt : k < 14
    · obtain ⟨x, hx⟩ : ∃ x : ByteArray, x = ⟨(wordsL[k]'hlt).toArray⟩ := ⟨_, rfl⟩
      have hc : W.cell? ⟨w.heap.size, k, none⟩ = some (.string x) := by rw [hx]; exact HC.out k hlt
      have HX : Hid (x.toList = wordsL[k]'hlt) := by
        show _ = _
        rw [Lib.toList_data, hx]
      clear hx
      by_cases he : (X.toList == x.toList) = true
      · have HE := Lib.hid (eq_of_beq he)
        go_wp2
        go_ret
        refine ⟨ret_bool ?_, HB.out⟩
        refine (word_of hlt ?_).symm
        rw [← HX.out, ← HE.out, Lib.toList_data]
      · have he' : (X.toList == x.toList) = false := by simpa using he
        have HE := Lib.hid (ne_of_beq_false he')
        clear he
        go_wp2
        go_round
        case rel =>
          refine ⟨k + 1, by omega, by go_num, fun j hj hjk => ?_⟩
          by_cases hjk2 : j = k
          · subst hjk2
            intro e
            exact HE.out (by rw [HX.out, Lib.toList_data]; exact e)
          · exact HN.out j hj (by omega)
        case measure => simp [intOf]; omega
    · go_wp2
      go_ret
      refine ⟨ret_bool ?_, HB.out⟩
      exact (word_not (fun j hj => HN.out j hj (by omega))).symm
end Go.Proofs.YtcgllooeimacdaaGreatDoor

/-! The document's own small functions: what class a byte is of, whether two bytes make a sign, what digits are worth. -/

namespace Go.Proofs.YtcgllooeimacdaaGreatDoor
open Go Go.RowKit Lx

/-- What class a byte is of. -/
def classN (c : UInt8) : Nat := if blankB c then 1 else if smallB c then 2 else if digitB c then 3 else if c == 35 then 5 else if greatB c then 6 else if signsL.contains c then 4 else 0

theorem u8_beq2 (a b : UInt8) : (a == b) = ((a.toNat : Int) == (b.toNat : Int)) := by
  rw [Bool.eq_iff_iff]
  simp only [beq_iff_eq]
  constructor
  · rintro rfl; rfl
  · intro h; exact UInt8.toNat_inj.1 (by omega)
theorem pair_int (a b : UInt8) : pairB a b = if ((b.toNat : Int) == 61) = true then (a.toNat : Int) == 61 || (a.toNat : Int) == 33 || (a.toNat : Int) == 60 || (a.toNat : Int) == 62
    else (a.toNat : Int) == (b.toNat : Int) && ((a.toNat : Int) == 38 || (a.toNat : Int) == 124 || (a.toNat : Int) == 60 || (a.toNat : Int) == 62) := by
  have h1 := (u8_beq b 61 (by decide)).symm
  have h2 := (u8_beq a 61 (by decide)).symm
  have h3 := (u8_beq a 33 (by decide)).symm
  have h4 := (u8_beq a 60 (by decide)).symm
  have h5 := (u8_beq a 62 (by decide)).symm
  have h6 := (u8_beq a 38 (by decide)).symm
  have h7 := (u8_beq a 124 (by decide)).symm
  have h8 := u8_beq2 a b
  change (b == 61) = _ at h1
  change (a == 61) = _ at h2
  change (a == 33) = _ at h3
  change (a == 60) = _ at h4
  change (a == 62) = _ at h5
  change (a == 38) = _ at h6
  change (a == 124) = _ at h7
  unfold pairB
  rw [h1, h2, h3, h4, h5, h6, h7, h8]
  rfl

set_option maxRecDepth 100000 in
theorem pair_any (a b : UInt8) (w : World) : Calls Tryz.prog 30 #[B8 a, B8 b] w fun e w' => e = .returned (.bool (pairB a b)) ∧ w = w' := by
  have HP := Lib.hid (pair_int a b)
  go_enter Tryz.func30, Tryz.ntmps30
  go_wp2
  all_goals
    go_ret
    refine ⟨ret_bool ?_, rfl⟩
    rw [HP.out]
    first | (simp [*]; done) | (simp_all; done)

set_option maxRecDepth 100000 in
set_option maxHeartbeats 800000 in
theorem class_1 (c : UInt8) (hn : classN c = 1) (g : c.toNat = 32 ∨ c.toNat = 9 ∨ c.toNat = 10 ∨ c.toNat = 13) (w : World) : Calls Tryz.prog 27 #[B8 c] w fun e w' => e = .returned (.int .i64 (classN c : Int)) ∧ Below w.heap.size w w' := by
  have HC := Lib.hid hn
  have G := Lib.hid g
  clear hn g
  go_enter Tryz.func27, Tryz.ntmps27
  go_wp2
  all_goals first
    | (go_ret; exact ⟨ret_int (by rw [HC.out]; rfl), Below.refl _ _⟩)
    | (exfalso; have := G.out; simp_all; omega)

set_option maxRecDepth 100000 in
set_option maxHeartbeats 800000 in
theorem class_2 (c : UInt8) (hn : classN c = 2) (g : 97 ≤ c.toNat ∧ c.toNat ≤ 122) (w : World) : Calls Tryz.prog 27 #[B8 c] w fun e w' => e = .returned (.int .i64 (classN c : Int)) ∧ Below w.heap.size w w' := by
  have HC := Lib.hid hn
  have e32 : ((c.toNat : Int) == 32) = false := by simp; omega
  have e9 : ((c.toNat : Int) == 9) = false := by simp; omega
  have e10 : ((c.toNat : Int) == 10) = false := by simp; omega
  have e13 : ((c.toNat : Int) == 13) = false := by simp; omega
  have g97 : decide ((97 : Int) ≤ (c.toNat : Int)) = true := by simp; omega
  have l122 : decide ((c.toNat : Int) ≤ 122) = true := by simp; omega
  have G := Lib.hid g
  clear hn g
  go_enter Tryz.func27, Tryz.ntmps27
  go_wp2
  all_goals first
    | (go_ret; exact ⟨ret_int (by rw [HC.out]; rfl), Below.refl _ _⟩)
    | (exfalso; have := G.out; simp_all; omega)

set_option maxRecDepth 100000 in
set_option maxHeartbeats 800000 in
theorem class_3 (c : UInt8) (hn : classN c = 3) (g : 48 ≤ c.toNat ∧ c.toNat ≤ 57) (w : World) : Calls Tryz.prog 27 #[B8 c] w fun e w' => e = .returned (.int .i64 (classN c : Int)) ∧ Below w.heap.size w w' := by
  have HC := Lib.hid hn
  have e32 : ((c.toNat : Int) == 32) = false := by simp; omega
  have e9 : ((c.toNat : Int) == 9) = false := by simp; omega
  have e10 : ((c.toNat : Int) == 10) = false := by simp; omega
  have e13 : ((c.toNat : Int) == 13) = false := by simp; omega
  have g97 : decide ((97 : Int) ≤ (c.toNat : Int)) = false := by simp; omega
  have g48 : decide ((48 : Int) ≤ (c.toNat : Int)) = true := by simp; omega
  have l57 : decide ((c.toNat : Int) ≤ 57) = true := by simp; omega
  have G := Lib.hid g
  clear hn g
  go_enter Tryz.func27, Tryz.ntmps27
  go_wp2
  all_goals first
    | (go_ret; exact ⟨ret_int (by rw [HC.out]; rfl), Below.refl _ _⟩)
    | (exfalso; have := G.out; simp_all; omega)

set_option maxRecDepth 100000 in
set_option maxHeartbeats 800000 in
theorem class_5 (c : UInt8) (hn : classN c = 5) (g : c.toNat = 35) (w : World) : Calls Tryz.prog 27 #[B8 c] w fun e w' => e = .returned (.int .i64 (classN c : Int)) ∧ Below w.heap.size w w' := by
  have HC := Lib.hid hn
  have e32 : ((c.toNat : Int) == 32) = false := by simp; omega
  have e9 : ((c.toNat : Int) == 9) = false := by simp; omega
  have e10 : ((c.toNat : Int) == 10) = false := by simp; omega
  have e13 : ((c.toNat : Int) == 13) = false := by simp; omega
  have e35 : ((c.toNat : Int) == 35) = true := by simp; omega
  have g97 : decide ((97 : Int) ≤ (c.toNat : Int)) = false := by simp; omega
  have g48 : decide ((48 : Int) ≤ (c.toNat : Int)) = false := by simp; omega
  have G := Lib.hid g
  clear hn g
  go_enter Tryz.func27, Tryz.ntmps27
  go_wp2
  all_goals first
    | (go_ret; exact ⟨ret_int (by rw [HC.out]; rfl), Below.refl _ _⟩)
    | (exfalso; have := G.out; simp_all; omega)

set_option maxRecDepth 100000 in
set_option maxHeartbeats 800000 in
theorem class_6 (c : UInt8) (hn : classN c = 6) (g : 65 ≤ c.toNat ∧ c.toNat ≤ 90) (w : World) : Calls Tryz.prog 27 #[B8 c] w fun e w' => e = .returned (.int .i64 (classN c : Int)) ∧ Below w.heap.size w w' := by
  have HC := Lib.hid hn
  have e32 : ((c.toNat : Int) == 32) = false := by simp; omega
  have e9 : ((c.toNat : Int) == 9) = false := by simp; omega
  have e10 : ((c.toNat : Int) == 10) = false := by simp; omega
  have e13 : ((c.toNat : Int) == 13) = false := by simp; omega
  have e35 : ((c.toNat : Int) == 35) = false := by simp; omega
  have g97 : decide ((97 : Int) ≤ (c.toNat : Int)) = false := by simp; omega
  have g48 : decide ((48 : Int) ≤ (c.toNat : Int)) = true := by simp; omega
  have g65 : decide ((65 : Int) ≤ (c.toNat : Int)) = true := by simp; omega
  have l57 : decide ((c.toNat : Int) ≤ 57) = false := by simp; omega
  have l90 : decide ((c.toNat : Int) ≤ 90) = true := by simp; omega
  have G := Lib.hid g
  clear hn g
  go_enter Tryz.func27, Tryz.ntmps27
  go_wp2
  all_goals first
    | (go_ret; exact ⟨ret_int (by rw [HC.out]; rfl), Below.refl _ _⟩)
    | (exfalso; have := G.out; simp_all; omega)

def refSigns : Obj := .cells #[.int .u8 40, .int .u8 41, .int .u8 123, .int .u8 125, .int .u8 91, .int .u8 93, .int .u8 44, .int .u8 59, .int .u8 58, .int .u8 61, .int .u8 60, .int .u8 62, .int .u8 43, .int .u8 45, .int .u8 42, .int .u8 47, .int .u8 37, .int .u8 38, .int .u8 124, .int .u8 94, .int .u8 33, .int .u8 126] 5 (22, 23)
theorem refSigns_cell (w : World) (j : Nat) (h : j < 22) : (w.alloc refSigns).cell? ⟨w.heap.size, j, none⟩ = some (B8 (signsL[j]'h)) := by
  unfold refSigns
  rw [cell_of_row _ _ _ _ _ _ (heap_alloc_new w _)]
  have : ∀ j (hj : j < 22), (#[(.int .u8 40 : Value), .int .u8 41, .int .u8 123, .int .u8 125, .int .u8 91, .int .u8 93, .int .u8 44, .int .u8 59, .int .u8 58, .int .u8 61, .int .u8 60, .int .u8 62, .int .u8 43, .int .u8 45, .int .u8 42, .int .u8 47, .int .u8 37, .int .u8 38, .int .u8 124, .int .u8 94, .int .u8 33, .int .u8 126] : Array Value)[j]? = some (B8 (signsL[j]'hj)) := by
    intro j hj
    match j, hj with
    | 0, _ => rfl
    | 1, _ => rfl
    | 2, _ => rfl
    | 3, _ => rfl
    | 4, _ => rfl
    | 5, _ => rfl
    | 6, _ => rfl
    | 7, _ => rfl
    | 8, _ => rfl
    | 9, _ => rfl
    | 10, _ => rfl
    | 11, _ => rfl
    | 12, _ => rfl
    | 13, _ => rfl
    | 14, _ => rfl
    | 15, _ => rfl
    | 16, _ => rfl
    | 17, _ => rfl
    | 18, _ => rfl
    | 19, _ => rfl
    | 20, _ => rfl
    | 21, _ => rfl
    | j + 22, h => exact absurd h (by omega)
  exact this j h

set_option maxRecDepth 100000 in
set_option maxHeartbeats 1600000 in
theorem class_rest (c : UInt8) (hn : classN c = if signsL.contains c then 4 else 0) (b1 : ¬ (c.toNat = 32 ∨ c.toNat = 9 ∨ c.toNat = 10 ∨ c.toNat = 13)) (b2 : ¬ (97 ≤ c.toNat ∧ c.toNat ≤ 122)) (b3 : ¬ (48 ≤ c.toNat ∧ c.toNat ≤ 57)) (b4 : ¬ c.toNat = 35) (b5 : ¬ (65 ≤ c.toNat ∧ c.toNat ≤ 90)) (w : World) :
    Calls Tryz.prog 27 #[B8 c] w fun e w' => e = .returned (.int .i64 (classN c : Int)) ∧ Below w.heap.size w w' := by
  have hcv := Lib.run_convert_bytes_const w 50 5 #[.int .u8 40, .int .u8 41, .int .u8 123, .int .u8 125, .int .u8 91, .int .u8 93, .int .u8 44, .int .u8 59, .int .u8 58, .int .u8 61, .int .u8 60, .int .u8 62, .int .u8 43, .int .u8 45, .int .u8 42, .int .u8 47, .int .u8 37, .int .u8 38, .int .u8 124, .int .u8 94, .int .u8 33, .int .u8 126] 22 22 Tryz.underlying50 Tryz.underlying5
  have HC := Lib.hid hn
  have HB := Lib.hid ((Below.refl w.heap.size w).alloc (Nat.le_refl _) refSigns)
  have HL := Lib.hid (refSigns_cell w)
  obtain ⟨W, hW⟩ : ∃ W, W = w.alloc refSigns := ⟨_, rfl⟩
  rw [← hW] at HL HB
  have HW := Lib.hid hW
  have e32 : ((c.toNat : Int) == 32) = false := by simp; omega
  have e9 : ((c.toNat : Int) == 9) = false := by simp; omega
  have e10 : ((c.toNat : Int) == 10) = false := by simp; omega
  have e13 : ((c.toNat : Int) == 13) = false := by simp; omega
  have e35 : ((c.toNat : Int) == 35) = false := by simp; omega
  clear hW hn
  have hr : c.toNat < 48 ∨ (57 < c.toNat ∧ c.toNat < 65) ∨ (90 < c.toNat ∧ c.toNat < 97) ∨ 122 < c.toNat := by omega
  clear b1 b2 b3 b4 b5
  rcases hr with hr | hr | hr | hr
  · have g97 : decide ((97 : Int) ≤ (c.toNat : Int)) = false := by simp; omega
    have g48 : decide ((48 : Int) ≤ (c.toNat : Int)) = false := by simp; omega
    have g65 : decide ((65 : Int) ≤ (c.toNat : Int)) = false := by simp; omega
    have HR := Lib.hid hr
    clear hr
    go_enter Tryz.func27, Tryz.ntmps27
    go_wp2
    change Code.wp _ _ _ _ (w.alloc refSigns)
    rw [← HW.out]
    go_loop [47] (fun i => ∃ k : Nat, k ≤ 22 ∧ i = .int .i64 k ∧ ∀ j (hj : j < 22), j < k → c ≠ signsL[j]'hj) (fun i => 22 - (intOf i).toNat)
    case atStart => exact ⟨0, by omega, rfl, fun j _ h => by omega⟩
    case round =>
      obtain ⟨k, hk, rfl, hn⟩ := hrel
      have HN := Lib.hid hn
      clear hn
      by_cases hlt : k < 22
      · obtain ⟨x, hx⟩ : ∃ x : UInt8, x = signsL[k]'hlt := ⟨_, rfl⟩
        have hc : W.cell? ⟨w.heap.size, k, none⟩ = some (B8 x) := by rw [hx]; exact HL.out k hlt
        have HX := Lib.hid hx
        clear hx
        by_cases he : ((x.toNat : Int) == (c.toNat : Int)) = true
        · have HE := Lib.hid he
          go_wp2
          go_ret
          refine ⟨ret_int ?_, HB.out⟩
          rw [HC.out, if_pos]
          · rfl
          · rw [← u8_beq2] at he
            rw [List.contains_iff_mem, ← eq_of_beq he, HX.out]
            exact List.getElem_mem _
        · have he' : ((x.toNat : Int) == (c.toNat : Int)) = false := by simpa using he
          have HE := Lib.hid he'
          clear he
          go_wp2
          go_round
          case rel =>
            refine ⟨k + 1, by omega, by go_num, fun j hj hjk => ?_⟩
            by_cases hjk2 : j = k
            · subst hjk2
              intro e
              have h2 := HE.out
              rw [← u8_beq2, HX.out, e] at h2
              simp at h2
            · exact HN.out j hj (by omega)
          case measure => simp [intOf]; omega
      · go_wp2
        go_ret
        refine ⟨ret_int ?_, HB.out⟩
        rw [HC.out, if_neg]
        · rfl
        · intro e
          rw [List.contains_iff_mem] at e
          obtain ⟨j, hj, e2⟩ := List.getElem_of_mem e
          exact HN.out j hj (by have h22 : signsL.length = 22 := rfl; omega) e2.symm
  · have g97 : decide ((97 : Int) ≤ (c.toNat : Int)) = false := by simp; omega
    have g48 : decide ((48 : Int) ≤ (c.toNat : Int)) = true := by simp; omega
    have g65 : decide ((65 : Int) ≤ (c.toNat : Int)) = false := by simp; omega
    have l57 : decide ((c.toNat : Int) ≤ 57) = false := by simp; omega
    have HR := Lib.hid hr
    clear hr
    go_enter Tryz.func27, Tryz.ntmps27
    go_wp2
    change Code.wp _ _ _ _ (w.alloc refSigns)
    rw [← HW.out]
    go_loop [47] (fun i => ∃ k : Nat, k ≤ 22 ∧ i = .int .i64 k ∧ ∀ j (hj : j < 22), j < k → c ≠ signsL[j]'hj) (fun i => 22 - (intOf i).toNat)
    case atStart => exact ⟨0, by omega, rfl, fun j _ h => by omega⟩
    case round =>
      obtain ⟨k, hk, rfl, hn⟩ := hrel
      have HN := Lib.hid hn
      clear hn
      by_cases hlt : k < 22
      · obtain ⟨x, hx⟩ : ∃ x : UInt8, x = signsL[k]'hlt := ⟨_, rfl⟩
        have hc : W.cell? ⟨w.heap.size, k, none⟩ = some (B8 x) := by rw [hx]; exact HL.out k hlt
        have HX := Lib.hid hx
        clear hx
        by_cases he : ((x.toNat : Int) == (c.toNat : Int)) = true
        · have HE := Lib.hid he
          go_wp2
          go_ret
          refine ⟨ret_int ?_, HB.out⟩
          rw [HC.out, if_pos]
          · rfl
          · rw [← u8_beq2] at he
            rw [List.contains_iff_mem, ← eq_of_beq he, HX.out]
            exact List.getElem_mem _
        · have he' : ((x.toNat : Int) == (c.toNat : Int)) = false := by simpa using he
          have HE := Lib.hid he'
          clear he
          go_wp2
          go_round
          case rel =>
            refine ⟨k + 1, by omega, by go_num, fun j hj hjk => ?_⟩
            by_cases hjk2 : j = k
            · subst hjk2
              intro e
              have h2 := HE.out
              rw [← u8_beq2, HX.out, e] at h2
              simp at h2
            · exact HN.out j hj (by omega)
          case measure => simp [intOf]; omega
      · go_wp2
        go_ret
        refine ⟨ret_int ?_, HB.out⟩
        rw [HC.out, if_neg]
        · rfl
        · intro e
          rw [List.contains_iff_mem] at e
          obtain ⟨j, hj, e2⟩ := List.getElem_of_mem e
          exact HN.out j hj (by have h22 : signsL.length = 22 := rfl; omega) e2.symm
  · have g97 : decide ((97 : Int) ≤ (c.toNat : Int)) = false := by simp; omega
    have g48 : decide ((48 : Int) ≤ (c.toNat : Int)) = true := by simp; omega
    have g65 : decide ((65 : Int) ≤ (c.toNat : Int)) = true := by simp; omega
    have l57 : decide ((c.toNat : Int) ≤ 57) = false := by simp; omega
    have l90 : decide ((c.toNat : Int) ≤ 90) = false := by simp; omega
    have HR := Lib.hid hr
    clear hr
    go_enter Tryz.func27, Tryz.ntmps27
    go_wp2
    change Code.wp _ _ _ _ (w.alloc refSigns)
    rw [← HW.out]
    go_loop [47] (fun i => ∃ k : Nat, k ≤ 22 ∧ i = .int .i64 k ∧ ∀ j (hj : j < 22), j < k → c ≠ signsL[j]'hj) (fun i => 22 - (intOf i).toNat)
    case atStart => exact ⟨0, by omega, rfl, fun j _ h => by omega⟩
    case round =>
      obtain ⟨k, hk, rfl, hn⟩ := hrel
      have HN := Lib.hid hn
      clear hn
      by_cases hlt : k < 22
      · obtain ⟨x, hx⟩ : ∃ x : UInt8, x = signsL[k]'hlt := ⟨_, rfl⟩
        have hc : W.cell? ⟨w.heap.size, k, none⟩ = some (B8 x) := by rw [hx]; exact HL.out k hlt
        have HX := Lib.hid hx
        clear hx
        by_cases he : ((x.toNat : Int) == (c.toNat : Int)) = true
        · have HE := Lib.hid he
          go_wp2
          go_ret
          refine ⟨ret_int ?_, HB.out⟩
          rw [HC.out, if_pos]
          · rfl
          · rw [← u8_beq2] at he
            rw [List.contains_iff_mem, ← eq_of_beq he, HX.out]
            exact List.getElem_mem _
        · have he' : ((x.toNat : Int) == (c.toNat : Int)) = false := by simpa using he
          have HE := Lib.hid he'
          clear he
          go_wp2
          go_round
          case rel =>
            refine ⟨k + 1, by omega, by go_num, fun j hj hjk => ?_⟩
            by_cases hjk2 : j = k
            · subst hjk2
              intro e
              have h2 := HE.out
              rw [← u8_beq2, HX.out, e] at h2
              simp at h2
            · exact HN.out j hj (by omega)
          case measure => simp [intOf]; omega
      · go_wp2
        go_ret
        refine ⟨ret_int ?_, HB.out⟩
        rw [HC.out, if_neg]
        · rfl
        · intro e
          rw [List.contains_iff_mem] at e
          obtain ⟨j, hj, e2⟩ := List.getElem_of_mem e
          exact HN.out j hj (by have h22 : signsL.length = 22 := rfl; omega) e2.symm
  · have g97 : decide ((97 : Int) ≤ (c.toNat : Int)) = true := by simp; omega
    have g48 : decide ((48 : Int) ≤ (c.toNat : Int)) = true := by simp; omega
    have g65 : decide ((65 : Int) ≤ (c.toNat : Int)) = true := by simp; omega
    have l122 : decide ((c.toNat : Int) ≤ 122) = false := by simp; omega
    have l57 : decide ((c.toNat : Int) ≤ 57) = false := by simp; omega
    have l90 : decide ((c.toNat : Int) ≤ 90) = false := by simp; omega
    have HR := Lib.hid hr
    clear hr
    go_enter Tryz.func27, Tryz.ntmps27
    go_wp2
    change Code.wp _ _ _ _ (w.alloc refSigns)
    rw [← HW.out]
    go_loop [47] (fun i => ∃ k : Nat, k ≤ 22 ∧ i = .int .i64 k ∧ ∀ j (hj : j < 22), j < k → c ≠ signsL[j]'hj) (fun i => 22 - (intOf i).toNat)
    case atStart => exact ⟨0, by omega, rfl, fun j _ h => by omega⟩
    case round =>
      obtain ⟨k, hk, rfl, hn⟩ := hrel
      have HN := Lib.hid hn
      clear hn
      by_cases hlt : k < 22
      · obtain ⟨x, hx⟩ : ∃ x : UInt8, x = signsL[k]'hlt := ⟨_, rfl⟩
        have hc : W.cell? ⟨w.heap.size, k, none⟩ = some (B8 x) := by rw [hx]; exact HL.out k hlt
        have HX := Lib.hid hx
        clear hx
        by_cases he : ((x.toNat : Int) == (c.toNat : Int)) = true
        · have HE := Lib.hid he
          go_wp2
          go_ret
          refine ⟨ret_int ?_, HB.out⟩
          rw [HC.out, if_pos]
          · rfl
          · rw [← u8_beq2] at he
            rw [List.contains_iff_mem, ← eq_of_beq he, HX.out]
            exact List.getElem_mem _
        · have he' : ((x.toNat : Int) == (c.toNat : Int)) = false := by simpa using he
          have HE := Lib.hid he'
          clear he
          go_wp2
          go_round
          case rel =>
            refine ⟨k + 1, by omega, by go_num, fun j hj hjk => ?_⟩
            by_cases hjk2 : j = k
            · subst hjk2
              intro e
              have h2 := HE.out
              rw [← u8_beq2, HX.out, e] at h2
              simp at h2
            · exact HN.out j hj (by omega)
          case measure => simp [intOf]; omega
      · go_wp2
        go_ret
        refine ⟨ret_int ?_, HB.out⟩
        rw [HC.out, if_neg]
        · rfl
        · intro e
          rw [List.contains_iff_mem] at e
          obtain ⟨j, hj, e2⟩ := List.getElem_of_mem e
          exact HN.out j hj (by have h22 : signsL.length = 22 := rfl; omega) e2.symm

set_option maxRecDepth 100000 in
set_option maxHeartbeats 800000 in
theorem class_any (c : UInt8) (w : World) : Calls Tryz.prog 27 #[B8 c] w fun e w' => e = .returned (.int .i64 (classN c : Int)) ∧ Below w.heap.size w w' := by
  have H1 := blankB_iff c
  have H2 := smallB_iff c
  have H3 := digitB_iff c
  have H4 := greatB_iff c
  have H5 := u8_eq c 35 (by decide)
  by_cases h1 : blankB c = true
  · exact class_1 c (by simp [classN, h1]) (H1.1 h1) w
  by_cases h2 : smallB c = true
  · exact class_2 c (by simp [classN, h1, h2]) (H2.1 h2) w
  by_cases h3 : digitB c = true
  · exact class_3 c (by simp [classN, h1, h2, h3]) (H3.1 h3) w
  by_cases h4 : c = 35
  · exact class_5 c (by subst h4; rfl) (by rw [h4]; rfl) w
  by_cases h5 : greatB c = true
  · exact class_6 c (by simp [classN, h1, h2, h3, h4, h5]) (H4.1 h5) w
  have h6 : classN c = if signsL.contains c then 4 else 0 := by simp [classN, h1, h2, h3, h4, h5]
  exact class_rest c h6 (fun e => h1 (H1.2 e)) (fun e => h2 (H2.2 e)) (fun e => h3 (H3.2 e)) (fun e => h4 (by rw [show (35 : UInt8) = UInt8.ofNat 35 from rfl, u8_eq c 35 (by decide)]; exact e)) (fun e => h5 (H4.2 e)) w
end Go.Proofs.YtcgllooeimacdaaGreatDoor

/-! What digits are worth, as the document reckons it. -/

namespace Go.Proofs.YtcgllooeimacdaaGreatDoor
open Go Go.RowKit Lx

/-- What is told of a number of so much worth. -/
def valR (v : Nat) : Ending := if v ≤ 9223372036854775807 then .returned (.tuple #[.int .i64 (v : Int), .bool true]) else .returned (.tuple #[.int .i64 0, .bool false])

set_option maxRecDepth 100000 in
set_option maxHeartbeats 800000 in
theorem value_any (X : ByteArray) (hs : X.size ≤ 20000) (hd : ∀ c ∈ Bs X, digitB c = true) (w : World) :
    Calls Tryz.prog 29 #[.string X] w fun e w' => e = valR (valueF 0 (Bs X)) ∧ w = w' := by
  have HD := Lib.hid hd
  clear hd
  go_enter Tryz.func29, Tryz.ntmps29
  go_wp2
  go_loop [4, 5] (fun n i => ∃ k N : Nat, k ≤ X.size ∧ i = .int .i64 k ∧ n = .int .i64 N ∧ N ≤ 9223372036854775807 ∧ valueF 0 (Bs X) = valueF N ((Bs X).drop k)) (fun _ i => X.size - (intOf i).toNat)
  case atStart => exact ⟨0, 0, by omega, rfl, rfl, by omega, rfl⟩
  case round =>
    obtain ⟨k, N, hk, rfl, rfl, hN, hv⟩ := hrel
    have HV := Lib.hid hv
    clear hv
    by_cases hlt : k < X.size
    · obtain ⟨c, hc⟩ : ∃ c : UInt8, c = X[k] := ⟨_, rfl⟩
      have h1 := getElem_drop X k hlt
      have hmem : X[k] ∈ Bs X := List.mem_of_mem_drop (i := k) (by rw [h1]; exact List.mem_cons_self)
      have h2 := (digitB_iff X[k]).1 (HD.out X[k] hmem)
      have HC := Lib.hid (And.intro h1 h2)
      clear h1 hmem
      go_wp2
      · rename_i hg _
        refine bodyPost_ret (v := .tuple #[.int .i64 0, .bool false]) (by simp [results, Tryz.results29, go_sem]) rfl ?_
        refine ⟨?_, rfl⟩
        have h3 := valueF_ge ((Bs X).drop (k + 1)) (10 * N + (X[k].toNat - 48))
        have h4 := HV.out
        have h5 : (9223372036854775807 - ((X[k].toNat : Int) - 48)) / 10 < (N : Int) := hg
        rw [HC.out.1] at h4
        have h6 : valueF N (X[k] :: (Bs X).drop (k + 1)) = valueF (10 * N + (X[k].toNat - 48)) ((Bs X).drop (k + 1)) := rfl
        rw [valR, if_neg (by omega)]
      · rename_i hg
        have hg' : (N : Int) ≤ (9223372036854775807 - ((X[k].toNat : Int) - 48)) / 10 := hg
        have hb : 10 * (N : Int) + ((X[k].toNat : Int) - 48) ≤ 9223372036854775807 := by omega
        go_round
        case rel =>
          refine ⟨k + 1, 10 * N + (X[k].toNat - 48), by omega, by go_num, ?_, by omega, ?_⟩
          · exact congrArg (Value.int IntKind.i64) (by omega)
          · have h4 := HV.out
            rw [HC.out.1] at h4
            exact h4
        case measure => simp [intOf]; omega
    · have hke : k = X.size := by omega
      have HK := Lib.hid hke
      clear hke
      go_wp2
      refine bodyPost_ret (v := .tuple #[.int .i64 (N : Int), .bool true]) (by simp [results, Tryz.results29, go_sem]) rfl ?_
      refine ⟨?_, rfl⟩
      have h4 := HV.out
      rw [List.drop_of_length_le (by rw [bs_length]; exact Nat.le_of_eq HK.out.symm)] at h4
      have h5 : valueF 0 (Bs X) = N := h4
      rw [valR, h5, if_pos hN]
end Go.Proofs.YtcgllooeimacdaaGreatDoor

/-! The document's own scanner. -/

namespace Go.Proofs.YtcgllooeimacdaaGreatDoor
open Go Go.RowKit Lx Go.Maps Go.WideMaps Go.WideShapes

theorem tw_step (P : UInt8 → Bool) : ∀ (l : List UInt8) (j : Nat), j ≤ (l.takeWhile P).length →
    (∀ c, l[j]? = some c → P c = true → j + 1 ≤ (l.takeWhile P).length) ∧ (∀ c, l[j]? = some c → P c = false → j = (l.takeWhile P).length) ∧ (l.length ≤ j → j = (l.takeWhile P).length) := by
  intro l
  induction l with
  | nil => intro j hj; simp at hj ⊢; omega
  | cons c t ih =>
    intro j hj
    by_cases hc : P c = true
    · simp only [List.takeWhile_cons, hc, if_true, List.length_cons] at hj ⊢
      match j with
      | 0 => simp [hc]
      | j + 1 =>
        obtain ⟨h1, h2, h3⟩ := ih j (by omega)
        exact ⟨fun d hd hp => by have := h1 d (by simpa using hd) hp; omega, fun d hd hp => by have := h2 d (by simpa using hd) hp; omega, fun h => by have := h3 (by omega); omega⟩
    · have hc' : P c = false := by simpa using hc
      simp only [List.takeWhile_cons, hc', Bool.false_eq_true, if_false, List.length_nil] at hj ⊢
      obtain rfl : j = 0 := by omega
      simp [hc']

theorem at_drop (s : ByteArray) (k j : Nat) (h : k + j < s.size) : ((Bs s).drop k)[j]? = some s[k + j] := by
  have h1 := getElem_drop s (k + j) h
  have h2 : ((Bs s).drop (k + j))[0]? = some s[k + j] := by rw [h1]; rfl
  rw [List.getElem?_drop] at h2 ⊢
  simpa using h2

theorem class_name {c : UInt8} (h : nameB c = true) : classN c = 2 ∨ classN c = 3 := by
  have hb : blankB c = false := by
    rw [Bool.eq_false_iff]
    intro e
    have h2 := (blankB_iff c).1 e
    unfold nameB at h
    rw [Bool.or_eq_true, smallB_iff, digitB_iff] at h
    omega
  unfold nameB at h
  by_cases hs : smallB c = true
  · exact Or.inl (by simp [classN, hb, hs])
  · rw [Bool.or_eq_true] at h
    have hd : digitB c = true := h.resolve_left hs
    exact Or.inr (by simp [classN, hb, hs, hd])
theorem class_noname {c : UInt8} (h : nameB c = false) : ((classN c : Int) == 2) = false ∧ ((classN c : Int) == 3) = false := by
  unfold nameB at h
  rw [Bool.or_eq_false_iff] at h
  unfold classN
  rw [h.1, h.2]
  split
  · simp
  · simp only [Bool.false_eq_true, if_false]
    split
    · simp
    · split
      · simp
      · split <;> simp

theorem class_digit {c : UInt8} (h : digitB c = true) : classN c = 3 := by
  have h3 := (digitB_iff c).1 h
  have hb : blankB c = false := by
    rw [Bool.eq_false_iff]
    intro e
    have h2 := (blankB_iff c).1 e
    omega
  have hs : smallB c = false := by
    rw [Bool.eq_false_iff]
    intro e
    have h2 := (smallB_iff c).1 e
    omega
  simp [classN, hb, hs, h]
theorem class_nodigit {c : UInt8} (h : digitB c = false) : ((classN c : Int) == 3) = false := by
  unfold classN
  rw [h]
  split
  · rfl
  · split
    · rfl
    · simp only [Bool.false_eq_true, if_false]
      split
      · rfl
      · split
        · rfl
        · split <;> rfl
theorem class_letter {c : UInt8} (h : letterB c = true) : classN c = 2 ∨ classN c = 6 := by
  unfold letterB at h
  rw [Bool.or_eq_true, smallB_iff, greatB_iff] at h
  have hb : blankB c = false := by
    rw [Bool.eq_false_iff]
    intro e
    have h2 := (blankB_iff c).1 e
    omega
  by_cases hs : smallB c = true
  · exact Or.inl (by simp [classN, hb, hs])
  · have h1 : ¬ (97 ≤ c.toNat ∧ c.toNat ≤ 122) := fun e => hs ((smallB_iff c).2 e)
    have h2 := h.resolve_left h1
    have hd : digitB c = false := by
      rw [Bool.eq_false_iff]
      intro e
      have h2 := (digitB_iff c).1 e
      omega
    have hg : greatB c = true := (greatB_iff c).2 h2
    have h35 : (c == 35) = false := by
      rw [Bool.eq_false_iff]
      intro e
      have : c = 35 := eq_of_beq e
      subst this
      simp at h2
    exact Or.inr (by simp [classN, hb, hs, hd, hg, h35])
theorem class_noletter {c : UInt8} (h : letterB c = false) : ((classN c : Int) == 2) = false ∧ ((classN c : Int) == 6) = false := by
  unfold letterB at h
  rw [Bool.or_eq_false_iff] at h
  unfold classN
  rw [h.1, h.2]
  split
  · exact ⟨rfl, rfl⟩
  · simp only [Bool.false_eq_true, if_false]
    split
    · exact ⟨rfl, rfl⟩
    · split
      · exact ⟨rfl, rfl⟩
      · split <;> exact ⟨rfl, rfl⟩

theorem pair_signs {a b : UInt8} (h : pairB a b = true) : signsL.contains a = true := by
  have : a = 61 ∨ a = 33 ∨ a = 60 ∨ a = 62 ∨ a = 38 ∨ a = 124 := by
    unfold pairB at h
    split at h
    · simp only [Bool.or_eq_true, beq_iff_eq] at h
      rcases h with ((h | h) | h) | h <;> simp [h]
    · simp only [Bool.and_eq_true, Bool.or_eq_true, beq_iff_eq] at h
      rcases h.2 with ((h | h) | h) | h <;> simp [h]
  rcases this with rfl | rfl | rfl | rfl | rfl | rfl <;> decide

theorem sign_tok {c : UInt8} {t : List UInt8} {k m : Nat} (h3 : ¬ smallB c = true) (h4 : ¬ digitB c = true) (hm : signSize (c :: t) = m) (h0 : 0 < m) : tokL k (c :: t) = .ok ⟨4, k, (c :: t).take m, 0⟩ ∧ ((c :: t).take m).length = m := by
  have hl := signSize_le (c :: t)
  subst hm
  refine ⟨?_, by rw [List.length_take]; omega⟩
  rw [tokL, if_neg h3, if_neg h4, if_neg (by omega)]

theorem sign_none {c : UInt8} {t : List UInt8} {k : Nat} (h3 : ¬ smallB c = true) (h4 : ¬ digitB c = true) (hn : signsL.contains c = false) : tokL k (c :: t) = .error 4 := by
  have hm : signSize (c :: t) = 0 := by
    match t with
    | [] => rw [signSize, if_neg (by rw [hn]; simp)]
    | b :: t =>
      have hp : ¬ pairB c b = true := fun e => by have := pair_signs e; rw [hn] at this; cases this
      rw [signSize, if_neg hp, if_neg (by rw [hn]; simp)]
  rw [tokL, if_neg h3, if_neg h4, if_pos hm]

theorem slice_run (s : ByteArray) (a b : Nat) (ia ib : Int) (ea : ia = (a : Int)) (eb : ib = (b : Int)) (h : a ≤ b) (hb : b ≤ s.size) (w : World) :
    (Instr.slice 9 (.string s) (some (.int .i64 ia)) (some (.int .i64 ib)) none).run Tryz.prog w = .ok (.string (s.extract a b)) w := by
  subst ea eb
  have h1 : (a : Int) ≤ b := by omega
  have h2 : (b : Int) ≤ s.size := by omega
  have h3 : (0 : Int) ≤ a := by omega
  simp [go_sem, h1, h2, h3]

/-- What a run of bytes of one sort is, as a text. -/
theorem run_text (P : UInt8 → Bool) (s : ByteArray) (k j : Nat) (hkk : k < s.size) (hp : P s[k] = true) (hj : j = (((Bs s).drop (k + 1)).takeWhile P).length) :
    s.extract k (k + 1 + j) = ⟨(((Bs s).drop k).takeWhile P).toArray⟩ ∧ Bs (s.extract k (k + 1 + j)) = ((Bs s).drop k).takeWhile P ∧ (((Bs s).drop k).takeWhile P).length = 1 + j := by
  have hc := getElem_drop s k hkk
  have hl : (((Bs s).drop k).takeWhile P).length = 1 + j := by
    rw [hc, List.takeWhile_cons, if_pos hp, List.length_cons, ← hj]; omega
  have e : ((Bs s).drop k).take (k + 1 + j - k) = ((Bs s).drop k).takeWhile P := by
    rw [show k + 1 + j - k = (((Bs s).drop k).takeWhile P).length by omega]
    exact (List.prefix_iff_eq_take.1 (List.takeWhile_prefix P)).symm
  have e1 : s.extract k (k + 1 + j) = ⟨(((Bs s).drop k).takeWhile P).toArray⟩ := by
    rw [extract_str, e]
  refine ⟨e1, ?_, hl⟩
  rw [e1]

theorem word_short {l : List UInt8} (h : wordB l = true) : l.length ≤ 6 := by
  unfold wordB at h
  rw [List.contains_iff_mem] at h
  have : ∀ x ∈ wordsL, x.length ≤ 6 := by decide
  exact this l h

theorem grown_of_belowR {w w' : World} (h : Below w.heap.size w w') : w.grownBy w' none := ⟨h.os, h.tape, h.output, h.size, fun i hi _ => h.block i hi⟩

theorem owns_below {w w' : World} {base n : Nat} {v : Value} {xs : List Value} (h : w.ownsRow base 55 4 v n xs) (hb : Below w.heap.size w w') : w'.ownsRow base 55 4 v n xs := by
  refine h.kept (grown_of_belowR hb) ?_
  cases hu : v.ownBlock with
  | none => exact Or.inl rfl
  | some g => exact Or.inr (by simp)

/-- What holds at the loop's head. -/
def RRel (s : ByteArray) (w : World) (gk : Nat) (v i : Value) (wr : World) : Prop :=
  ∃ k ts, k ≤ s.size ∧ gk = s.size - k ∧ i = .int .i64 (k : Int) ∧ ts.length ≤ k ∧ wr.ownsRow w.heap.size 55 4 v ts.length (toksCells ts) ∧ Below w.heap.size w wr ∧ scan (Bs s) = pre ts (res k ((Bs s).drop k))

theorem RRel.next {s : ByteArray} {w w2 w4 : World} {k : Nat} {ts : List Tok} {t : Tok} {v v' i : Value} {o : Obj} (hkk : k < s.size) (hl : ts.length ≤ k) (hb : blankB s[k] = false) (h35 : (s[k] == 35) = false)
    (hsc : scan (Bs s) = pre ts (res k ((Bs s).drop k))) (ht : tokL k ((Bs s).drop k) = .ok t) (hi : i = .int .i64 ((k + t.text.length : Nat) : Int))
    (hw2 : Below w.heap.size w w2) (ho2 : w2.ownsRow w.heap.size 55 4 v ts.length (toksCells ts)) (hg : (w2.alloc o).grownBy w4 v.ownBlock)
    (ho4 : w4.ownsRow w.heap.size 55 4 v' (ts.length + 1) (toksCells ts ++ tokCells t)) : RRel s w (s.size - (k + t.text.length)) v' i w4 := by
  have hc := getElem_drop s k hkk
  obtain ⟨h1, h2, h3⟩ := scan_step hkk hsc (fun c' t' e => by rw [hc] at e; cases e; exact ⟨hb, h35⟩) ht
  refine ⟨k + t.text.length, ts ++ [t], h1, rfl, hi, by rw [List.length_append]; show ts.length + 1 ≤ _; omega, ?_, ?_, h3⟩
  · rw [toksCells_snoc, List.length_append]; exact ho4
  · exact (hw2.alloc hw2.size o).grown hg (by have := hw2.size; simp; omega) (fun g e => (ho2.lt g e).1)

theorem RRel.err {s : ByteArray} {w w2 : World} {k n : Nat} {ts : List Tok} (hkk : k < s.size) (hb : blankB s[k] = false) (h35 : (s[k] == 35) = false)
    (hsc : scan (Bs s) = pre ts (res k ((Bs s).drop k))) (ht : tokL k ((Bs s).drop k) = .error n) (hw2 : Below w.heap.size w w2) :
    ScanPost w (scan (Bs s)) (.returned (.tuple #[.slice none 0 0, .int .i64 (k : Int), .int .i64 (n : Int)])) w2 := by
  have hc := getElem_drop s k hkk
  refine ⟨hw2, ?_⟩
  rw [hsc]
  rw [hc] at ht ⊢
  rw [res_error hb h35 ht]
  rfl

set_option maxRecDepth 100000 in
set_option maxHeartbeats 16000000 in
theorem refScan_any (s : ByteArray) (hs : s.size ≤ 9223372036854775806) (w : World) :
    Calls Tryz.prog 18 #[.string s] w (ScanPost w (scan (Bs s))) := by
  by_cases hlen : 20000 < s.size
  · go_enter Tryz.func18, Tryz.ntmps18
    have hd : decide (20000 < (s.size : Int)) = true := by simp; omega
    go_wp2
    refine bodyPost_ret (v := .tuple #[.slice none 0 0, .int .i64 0, .int .i64 2]) (by simp [results, Tryz.results18, go_sem]) rfl ?_
    refine ⟨Below.refl _ _, ?_⟩
    unfold scan
    rw [bs_length, if_pos hlen]
    rfl
  · have hd : decide (20000 < (s.size : Int)) = false := by simp; omega
    obtain ⟨i0, hi, hz0, hz1, hz2⟩ := info_parts Tryz.infoTok
    have HREL : Hid (RRel s w (s.size - 0) (.slice none 0 0) (.int .i64 0) w) := by
      refine ⟨0, [], Nat.zero_le _, rfl, rfl, Nat.le_refl _, World.ownsRow_nil _ _ _ _, Below.refl _ _, ?_⟩
      unfold scan
      rw [bs_length, if_neg hlen, List.drop_zero, pre_nil]
    go_enter Tryz.func18, Tryz.ntmps18
    go_wp2_with fail
    go_loopg [5, 6] (s.size - 0) (fun gk v i wr => RRel s w gk v i wr)
    case atStart => exact HREL.out
    case round =>
      obtain ⟨k, ts, hk, rfl, rfl, hl, ho, hb, hsc⟩ := hrel
      have HR := Lib.hid (And.intro ho (And.intro hb hsc))
      clear ho hb hsc
      by_cases hkk : k < s.size
      · have hcc := getElem_drop s k hkk
        have HCC := Lib.hid hcc
        clear hcc
        have HCA := fun w => Lib.hid (class_any s[k] w)
        by_cases h1 : blankB s[k] = true
        · skip
          -- S1
          as_aux_lemma =>
            have hcl : classN s[k] = 1 := by simp [classN, h1]
            go_wp2_with fail
            refine (HCA _).out.mono ?_
            rintro e w1 ⟨rfl, hb1⟩
            have HX : Hid (RRel s w (s.size - (k + 1)) u5 (.int .i64 ((k : Int) + 1)) w1) := by
              refine ⟨k + 1, ts, by omega, rfl, by go_num, by omega, owns_below HR.out.1 hb1, HR.out.2.1.trans (hb1.mono HR.out.2.1.size), ?_⟩
              rw [HR.out.2.2, HCC.out, res_blank h1]
            clear hb1
            go_wp2
            go_roundg (s.size - (k + 1))
            case measure => omega
            case rel => exact HX.out
          -- E1
        by_cases h2 : (s[k] == 35) = true
        · skip
          -- S2
          as_aux_lemma =>
            have hcl : classN s[k] = 5 := by rw [eq_of_beq h2]; rfl
            go_wp2_with fail
            refine (HCA _).out.mono ?_
            rintro e w1 ⟨rfl, hb1⟩
            have HB1 := Lib.hid hb1
            clear hb1
            go_wp2_with fail
            obtain ⟨L, hL⟩ : ∃ L, L = (((Bs s).drop (k + 1)).takeWhile (· != 10)).length := ⟨_, rfl⟩
            have hLs : k + 1 + L ≤ s.size := by
              have := takeWhile_le (· != 10) ((Bs s).drop (k + 1))
              rw [List.length_drop, bs_length] at this
              omega
            have HL := Lib.hid hL
            clear hL
            go_loop [7] (fun i => ∃ j : Nat, i = .int .i64 ((k : Int) + 1 + j) ∧ j ≤ L) (fun i => s.size - (intOf i).toNat)
            case atStart => exact ⟨0, by go_num, Nat.zero_le _⟩
            case round =>
              obtain ⟨j, rfl, hj⟩ := hrel
              have HT := Lib.hid (tw_step (· != 10) ((Bs s).drop (k + 1)) j (by rw [← HL.out]; exact hj))
              have fin : j = L → Hid (RRel s w (s.size - (k + 1 + j)) u5 (.int .i64 ((k : Int) + 1 + j)) w1) := by
                intro e
                subst e
                refine ⟨k + 1 + j, ts, by omega, rfl, by go_num, by omega, owns_below HR.out.1 HB1.out, HR.out.2.1.trans (HB1.out.mono HR.out.2.1.size), ?_⟩
                rw [HR.out.2.2, HCC.out, res_remark h2, ← HL.out, ← drop_takeWhile, ← HL.out, List.drop_drop]
              have FIN := Lib.hid fin
              clear fin
              by_cases hlt : k + 1 + j < s.size
              · by_cases hc : ((s[k + 1 + j].toNat : Int) != 10) = false
                · have HX := FIN.out (by
                    rw [HL.out]
                    exact HT.out.2.1 _ (at_drop s (k + 1) j hlt) (by
                      have := u8_beq s[k + 1 + j] 10 (by decide)
                      show (!(s[k + 1 + j] == 10)) = false
                      rw [show (s[k + 1 + j] == 10) = _ from this.symm]
                      exact hc))
                  go_wp2
                  go_roundg (s.size - (k + 1 + j))
                  case measure => omega
                  case rel => exact HX.out
                · have hc' : ((s[k + 1 + j].toNat : Int) != 10) = true := by simpa using hc
                  have hj' : j + 1 ≤ L := by
                    rw [HL.out]
                    exact HT.out.1 _ (at_drop s (k + 1) j hlt) (by
                      have := u8_beq s[k + 1 + j] 10 (by decide)
                      show (!(s[k + 1 + j] == 10)) = true
                      rw [show (s[k + 1 + j] == 10) = _ from this.symm]
                      exact hc')
                  clear hc
                  go_wp2
                  go_round
                  case rel => exact ⟨j + 1, by go_num, hj'⟩
                  case measure => simp [intOf]; omega
              · have HX := FIN.out (by
                  rw [HL.out]
                  exact HT.out.2.2 (by rw [List.length_drop, bs_length]; omega))
                go_wp2
                go_roundg (s.size - (k + 1 + j))
                case measure => omega
                case rel => exact HX.out
          -- E2
        by_cases h3 : smallB s[k] = true
        · skip
          -- S3
          as_aux_lemma =>
            have hcl : classN s[k] = 2 := by simp [classN, h1, h3]
            go_wp2_with fail
            refine (HCA _).out.mono ?_
            rintro e w1 ⟨rfl, hb1⟩
            have HR1 := Lib.hid (And.intro (owns_below HR.out.1 hb1) (And.intro (HR.out.2.1.trans (hb1.mono HR.out.2.1.size)) HR.out.2.2))
            clear hb1
            go_wp2_with fail
            obtain ⟨L, hL⟩ : ∃ L, L = (((Bs s).drop (k + 1)).takeWhile nameB).length := ⟨_, rfl⟩
            have hLs : k + 1 + L ≤ s.size := by
              have := takeWhile_le nameB ((Bs s).drop (k + 1))
              rw [List.length_drop, bs_length] at this
              omega
            have HL := Lib.hid hL
            clear hL
            go_loopw [7] (fun i wq => ∃ j : Nat, i = .int .i64 ((k : Int) + 1 + j) ∧ j ≤ L ∧ Below w1.heap.size w1 wq) (fun i _ => s.size - (intOf i).toNat)
            case atStart => exact ⟨0, by go_num, Nat.zero_le _, Below.refl _ _⟩
            case round =>
              obtain ⟨j, rfl, hj, hbq⟩ := hrel
              have HT := Lib.hid (tw_step nameB ((Bs s).drop (k + 1)) j (by rw [← HL.out]; exact hj))
              have HBQ := Lib.hid hbq
              clear hbq
              have hex : (∃ hlt : k + 1 + j < s.size, nameB s[k + 1 + j] = true) ∨ (j = L ∧ ((∃ hlt : k + 1 + j < s.size, nameB s[k + 1 + j] = false) ∨ k + 1 + j = s.size)) := by
                by_cases hlt : k + 1 + j < s.size
                · by_cases hn : nameB s[k + 1 + j] = true
                  · exact Or.inl ⟨hlt, hn⟩
                  · have hn' : nameB s[k + 1 + j] = false := by simpa using hn
                    exact Or.inr ⟨by rw [HL.out]; exact HT.out.2.1 _ (at_drop s (k + 1) j hlt) hn', Or.inl ⟨hlt, hn'⟩⟩
                · exact Or.inr ⟨by rw [HL.out]; exact HT.out.2.2 (by rw [List.length_drop, bs_length]; omega), Or.inr (by omega)⟩
              rcases hex with ⟨hlt, hn⟩ | ⟨rfl, hex⟩
              · as_aux_lemma =>
                  have hj1 : j + 1 ≤ L := by rw [HL.out]; exact HT.out.1 _ (at_drop s (k + 1) j hlt) hn
                  have HCJ := fun w => Lib.hid (class_any s[k + 1 + j] w)
                  have hcj : classN s[k + 1 + j] = 2 ∨ classN s[k + 1 + j] = 3 := class_name hn
                  have HHL := Lib.hid hlt
                  rcases hcj with hcj | hcj
                  all_goals
                    go_wp2_with (go_at_call 27; refine (HCJ _).out.mono ?_; rintro e w2 ⟨rfl, hb2⟩; replace HBQ := Lib.hid (HBQ.out.trans (hb2.mono HBQ.out.size)); clear hb2)
                    go_roundw
                    case rel => exact ⟨j + 1, by go_num, hj1, HBQ.out⟩
                    case measure => have := HHL.out; simp [intOf]; omega
              · obtain ⟨x1, x2, x3⟩ := run_text nameB s k j hkk (by simp [nameB, h3]) HL.out
                obtain ⟨T, hTT⟩ : ∃ T, T = ((Bs s).drop k).takeWhile nameB := ⟨_, rfl⟩
                have hsl := slice_run s k (k + 1 + j) (k : Int) ((k : Int) + 1 + j) rfl (by omega) (by omega) hLs
                rw [x1, ← hTT] at hsl
                rw [← hTT] at x3
                have htk : tokL k ((Bs s).drop k) = if 12 < T.length then .error 2 else .ok ⟨if wordB T then 2 else 1, k, T, 0⟩ := by
                  rw [HCC.out, tokL, if_pos h3, ← HCC.out, ← hTT]
                have HXX := Lib.hid (And.intro x3 htk)
                clear x1 x2 x3 hTT htk
                have hb' : blankB s[k] = false := by simpa using h1
                have h35' : (s[k] == 35) = false := by simpa using h2
                have HK := Lib.hid (And.intro hb' h35')
                clear hb' h35'
                have HWD := fun w => Lib.hid (refWord_any ⟨T.toArray⟩ w)
                have eWD : wordB (Bs ⟨T.toArray⟩) = wordB T := rfl
                rw [eWD] at HWD
                clear eWD
                have hways : (wordB T = true) ∨ (wordB T = false ∧ 12 < 1 + j) ∨ (wordB T = false ∧ ¬ 12 < 1 + j) := by
                  cases wordB T <;> simp <;> omega
                rcases hways with hwd | ⟨hwd, h12⟩ | ⟨hwd, h12⟩
                · as_aux_lemma =>
                    have HTK : Hid (tokL k ((Bs s).drop k) = .ok ⟨2, k, T, 0⟩) := by
                      have := word_short hwd
                      show _ = _
                      rw [HXX.out.2, if_neg (by omega), if_pos hwd]
                    rcases hex with ⟨hlt, hn⟩ | hend
                    all_goals
                      have HCJ := fun hlt w => Lib.hid (class_any (s[k + 1 + j]'hlt) w)
                      try have hcj := class_noname hn
                      go_wp2_with (first
                        | (go_at_call 27; refine (HCJ hlt _).out.mono ?_; rintro e w2 ⟨rfl, hb2⟩; replace HBQ := Lib.hid (HBQ.out.trans (hb2.mono HBQ.out.size)); clear hb2)
                        | (go_at_call 28; refine (HWD _).out.mono ?_; rintro e w2 ⟨rfl, hb2⟩; replace HBQ := Lib.hid (HBQ.out.trans (hb2.mono HBQ.out.size)); clear hb2)
                        | (at_builtin; refine wpList_append_own _ rfl _ _ 51 rfl w.heap.size 55 i0 _ 4 40 Tryz.underlying51 hi hz0 hz1 hz2 rfl (by decide) _ _ _ rfl ((owns_below HR1.out.1 HBQ.out).alloc _) ⟨w2.heap.size, 0, none⟩ 1 1 (tokCells ⟨2, k, T, 0⟩) rfl rfl (tok_new w2 ⟨2, k, T, 0⟩) (tok_one _) (by unfold maxLen; omega) (by omega) (by have q1 := HR1.out.2.1.size; have q2 := HBQ.out.size; simp; omega) ?_; intro v' w4 ho4 hg4 _)
                        | fail)
                      go_roundg (s.size - (k + T.length))
                      case measure => have := HXX.out.1; omega
                      case rel => exact RRel.next hkk hl HK.out.1 HK.out.2 HR1.out.2.2 HTK.out (congrArg (Value.int IntKind.i64) (by have := HXX.out.1; show (k : Int) + 1 + j = ((k + T.length : Nat) : Int); omega)) (HR1.out.2.1.trans (HBQ.out.mono HR1.out.2.1.size)) (owns_below HR1.out.1 HBQ.out) hg4 ho4
                · as_aux_lemma =>
                    have HTK : Hid (tokL k ((Bs s).drop k) = .error 2) := by
                      show _ = _
                      rw [HXX.out.2, if_pos (by have := HXX.out.1; omega)]
                    have h12' : decide ((12 : Int) < (k : Int) + 1 + j - k) = true := by simp; omega
                    rcases hex with ⟨hlt, hn⟩ | hend
                    all_goals
                      have HCJ := fun hlt w => Lib.hid (class_any (s[k + 1 + j]'hlt) w)
                      try have hcj := class_noname hn
                      go_wp2_with (first
                        | (go_at_call 27; refine (HCJ hlt _).out.mono ?_; rintro e w2 ⟨rfl, hb2⟩; replace HBQ := Lib.hid (HBQ.out.trans (hb2.mono HBQ.out.size)); clear hb2)
                        | (go_at_call 28; refine (HWD _).out.mono ?_; rintro e w2 ⟨rfl, hb2⟩; replace HBQ := Lib.hid (HBQ.out.trans (hb2.mono HBQ.out.size)); clear hb2)
                        | fail)
                      refine bodyPost_ret (v := .tuple #[.slice none 0 0, .int .i64 (k : Int), .int .i64 2]) (by simp [results, Tryz.results18, go_sem]) rfl ?_
                      exact RRel.err hkk HK.out.1 HK.out.2 HR1.out.2.2 HTK.out (HR1.out.2.1.trans (HBQ.out.mono HR1.out.2.1.size))
                · as_aux_lemma =>
                    have HTK : Hid (tokL k ((Bs s).drop k) = .ok ⟨1, k, T, 0⟩) := by
                      show _ = _
                      rw [HXX.out.2, if_neg (by have := HXX.out.1; omega), hwd]
                      rfl
                    have h12' : decide ((12 : Int) < (k : Int) + 1 + j - k) = false := by simp; omega
                    rcases hex with ⟨hlt, hn⟩ | hend
                    all_goals
                      have HCJ := fun hlt w => Lib.hid (class_any (s[k + 1 + j]'hlt) w)
                      try have hcj := class_noname hn
                      go_wp2_with (first
                        | (go_at_call 27; refine (HCJ hlt _).out.mono ?_; rintro e w2 ⟨rfl, hb2⟩; replace HBQ := Lib.hid (HBQ.out.trans (hb2.mono HBQ.out.size)); clear hb2)
                        | (go_at_call 28; refine (HWD _).out.mono ?_; rintro e w2 ⟨rfl, hb2⟩; replace HBQ := Lib.hid (HBQ.out.trans (hb2.mono HBQ.out.size)); clear hb2)
                        | (at_builtin; refine wpList_append_own _ rfl _ _ 51 rfl w.heap.size 55 i0 _ 4 40 Tryz.underlying51 hi hz0 hz1 hz2 rfl (by decide) _ _ _ rfl ((owns_below HR1.out.1 HBQ.out).alloc _) ⟨w2.heap.size, 0, none⟩ 1 1 (tokCells ⟨1, k, T, 0⟩) rfl rfl (tok_new w2 ⟨1, k, T, 0⟩) (tok_one _) (by unfold maxLen; omega) (by omega) (by have q1 := HR1.out.2.1.size; have q2 := HBQ.out.size; simp; omega) ?_; intro v' w4 ho4 hg4 _)
                        | fail)
                      go_roundg (s.size - (k + T.length))
                      case measure => have := HXX.out.1; omega
                      case rel => exact RRel.next hkk hl HK.out.1 HK.out.2 HR1.out.2.2 HTK.out (congrArg (Value.int IntKind.i64) (by have := HXX.out.1; show (k : Int) + 1 + j = ((k + T.length : Nat) : Int); omega)) (HR1.out.2.1.trans (HBQ.out.mono HR1.out.2.1.size)) (owns_below HR1.out.1 HBQ.out) hg4 ho4
          -- E3
        by_cases h4 : digitB s[k] = true
        · skip
          -- S4
          as_aux_lemma =>
            have hcl : classN s[k] = 3 := class_digit h4
            go_wp2_with fail
            refine (HCA _).out.mono ?_
            rintro e w1 ⟨rfl, hb1⟩
            have HR1 := Lib.hid (And.intro (owns_below HR.out.1 hb1) (And.intro (HR.out.2.1.trans (hb1.mono HR.out.2.1.size)) HR.out.2.2))
            clear hb1
            go_wp2_with fail
            obtain ⟨L, hL⟩ : ∃ L, L = (((Bs s).drop (k + 1)).takeWhile digitB).length := ⟨_, rfl⟩
            have hLs : k + 1 + L ≤ s.size := by
              have := takeWhile_le digitB ((Bs s).drop (k + 1))
              rw [List.length_drop, bs_length] at this
              omega
            have HL := Lib.hid hL
            clear hL
            go_loopw [7] (fun i wq => ∃ j : Nat, i = .int .i64 ((k : Int) + 1 + j) ∧ j ≤ L ∧ Below w1.heap.size w1 wq) (fun i _ => s.size - (intOf i).toNat)
            case atStart => exact ⟨0, by go_num, Nat.zero_le _, Below.refl _ _⟩
            case round =>
              obtain ⟨j, rfl, hj, hbq⟩ := hrel
              have HT := Lib.hid (tw_step digitB ((Bs s).drop (k + 1)) j (by rw [← HL.out]; exact hj))
              have HBQ := Lib.hid hbq
              clear hbq
              have hex : (∃ hlt : k + 1 + j < s.size, digitB s[k + 1 + j] = true) ∨ (j = L ∧ ((∃ hlt : k + 1 + j < s.size, digitB s[k + 1 + j] = false) ∨ k + 1 + j = s.size)) := by
                by_cases hlt : k + 1 + j < s.size
                · by_cases hn : digitB s[k + 1 + j] = true
                  · exact Or.inl ⟨hlt, hn⟩
                  · have hn' : digitB s[k + 1 + j] = false := by simpa using hn
                    exact Or.inr ⟨by rw [HL.out]; exact HT.out.2.1 _ (at_drop s (k + 1) j hlt) hn', Or.inl ⟨hlt, hn'⟩⟩
                · exact Or.inr ⟨by rw [HL.out]; exact HT.out.2.2 (by rw [List.length_drop, bs_length]; omega), Or.inr (by omega)⟩
              rcases hex with ⟨hlt, hn⟩ | ⟨rfl, hex⟩
              · as_aux_lemma =>
                  have hj1 : j + 1 ≤ L := by rw [HL.out]; exact HT.out.1 _ (at_drop s (k + 1) j hlt) hn
                  have HCJ := fun hlt w => Lib.hid (class_any (s[k + 1 + j]'hlt) w)
                  have hcj := class_digit hn
                  have HHL := Lib.hid hlt
                  go_wp2_with (go_at_call 27; refine (HCJ hlt _).out.mono ?_; rintro e w2 ⟨rfl, hb2⟩; replace HBQ := Lib.hid (HBQ.out.trans (hb2.mono HBQ.out.size)); clear hb2)
                  go_roundw
                  case rel => exact ⟨j + 1, by go_num, hj1, HBQ.out⟩
                  case measure => have := HHL.out; simp [intOf]; omega
              · obtain ⟨x1, x2, x3⟩ := run_text digitB s k j hkk h4 HL.out
                obtain ⟨T, hTT⟩ : ∃ T, T = ((Bs s).drop k).takeWhile digitB := ⟨_, rfl⟩
                have hsl := slice_run s k (k + 1 + j) (k : Int) ((k : Int) + 1 + j) rfl (by omega) (by omega) hLs
                rw [x1, ← hTT] at hsl
                rw [← hTT] at x3
                have hdw : ((Bs s).drop k).dropWhile digitB = (Bs s).drop (k + 1 + j) := by
                  rw [← drop_takeWhile, List.drop_drop, ← hTT, x3, show k + (1 + j) = k + 1 + j by omega]
                have h3' : smallB s[k] = false := by simpa using h3
                have htk : tokL k ((Bs s).drop k) = if 9223372036854775807 < valueF 0 T then .error 2 else if s[k] == 48 && decide (1 < T.length) then .error 4 else if ((Bs s).drop (k + 1 + j)).head?.any letterB then .error 4 else .ok ⟨3, k, T, valueF 0 T⟩ := by
                  rw [HCC.out, tokL, if_neg h3, if_pos h4, ← HCC.out, ← hTT, hdw]
                have hTd : ∀ c ∈ T, digitB c = true := by
                  rw [hTT]
                  intro c hc
                  exact List.all_eq_true.1 List.all_takeWhile c hc
                have HVA := fun w => Lib.hid (value_any ⟨T.toArray⟩ (by show T.toArray.size ≤ 20000; rw [List.size_toArray]; omega) hTd w)
                have eVA : Bs ⟨T.toArray⟩ = T := rfl
                rw [eVA] at HVA
                clear eVA
                have HXX := Lib.hid (And.intro x3 htk)
                clear x1 x2 x3 hTT htk hdw hTd
                have hb' : blankB s[k] = false := by simpa using h1
                have h35' : (s[k] == 35) = false := by simpa using h2
                have HK := Lib.hid (And.intro hb' h35')
                clear hb' h35' h3'
                have h48 := u8_beq s[k] 48 (by decide)
                have H48 : Hid ((s[k] == 48) = ((s[k].toNat : Int) == 48)) := h48.symm
                clear h48
                obtain ⟨V, hV⟩ : ∃ V, V = valueF 0 T := ⟨_, rfl⟩
                rw [← hV] at HXX HVA
                have HV := Lib.hid hV
                clear hV
                by_cases hbig : 9223372036854775807 < V
                · as_aux_lemma =>
                    have HTK : Hid (tokL k ((Bs s).drop k) = .error 2) := by
                      show _ = _
                      rw [HXX.out.2, if_pos hbig]
                    have hvr : valR V = .returned (.tuple #[.int .i64 0, .bool false]) := by rw [valR, if_neg (by omega)]
                    rw [hvr] at HVA
                    rcases hex with ⟨hlt, hn⟩ | hend
                    all_goals
                      have HCJ := fun hlt w => Lib.hid (class_any (s[k + 1 + j]'hlt) w)
                      try have hcj := class_nodigit hn
                      go_wp2_with (first
                        | (go_at_call 27; refine (HCJ hlt _).out.mono ?_; rintro e w2 ⟨rfl, hb2⟩; replace HBQ := Lib.hid (HBQ.out.trans (hb2.mono HBQ.out.size)); clear hb2)
                        | (go_at_call 29; refine (HVA _).out.mono ?_; rintro e w2 ⟨rfl, rfl⟩)
                        | fail)
                      refine bodyPost_ret (v := .tuple #[.slice none 0 0, .int .i64 (k : Int), .int .i64 2]) (by simp [results, Tryz.results18, go_sem]) rfl ?_
                      exact RRel.err hkk HK.out.1 HK.out.2 HR1.out.2.2 HTK.out (HR1.out.2.1.trans (HBQ.out.mono HR1.out.2.1.size))
                · have hvr : valR V = .returned (.tuple #[.int .i64 (V : Int), .bool true]) := by rw [valR, if_pos (by omega)]
                  rw [hvr] at HVA
                  by_cases hz : ((s[k].toNat : Int) == 48) = true ∧ 0 < j
                  · as_aux_lemma =>
                      have HTK : Hid (tokL k ((Bs s).drop k) = .error 4) := by
                        show _ = _
                        rw [HXX.out.2, if_neg hbig, if_pos]
                        rw [H48.out, hz.1]
                        have := HXX.out.1
                        simp; omega
                      have hq1 := hz.1
                      have hq2 : decide ((k : Int) + 1 < (k : Int) + 1 + j) = true := by simp; omega
                      rcases hex with ⟨hlt, hn⟩ | hend
                      all_goals
                        have HCJ := fun hlt w => Lib.hid (class_any (s[k + 1 + j]'hlt) w)
                        try have hcj := class_nodigit hn
                        go_wp2_with (first
                          | (go_at_call 27; refine (HCJ hlt _).out.mono ?_; rintro e w2 ⟨rfl, hb2⟩; replace HBQ := Lib.hid (HBQ.out.trans (hb2.mono HBQ.out.size)); clear hb2)
                          | (go_at_call 29; refine (HVA _).out.mono ?_; rintro e w2 ⟨rfl, rfl⟩)
                          | fail)
                        refine bodyPost_ret (v := .tuple #[.slice none 0 0, .int .i64 (k : Int), .int .i64 4]) (by simp [results, Tryz.results18, go_sem]) rfl ?_
                        exact RRel.err hkk HK.out.1 HK.out.2 HR1.out.2.2 HTK.out (HR1.out.2.1.trans (HBQ.out.mono HR1.out.2.1.size))
                  · have hz' : (((s[k].toNat : Int) == 48) = true ∧ decide ((k : Int) + 1 < (k : Int) + 1 + j) = false) ∨ ((s[k].toNat : Int) == 48) = false := by
                      by_cases h : ((s[k].toNat : Int) == 48) = true
                      · have h0 : ¬ 0 < j := fun e => hz ⟨h, e⟩
                        exact Or.inl ⟨h, by simp; omega⟩
                      · exact Or.inr (by simpa using h)
                    have HTK2 : Hid (tokL k ((Bs s).drop k) = if ((Bs s).drop (k + 1 + j)).head?.any letterB then .error 4 else .ok ⟨3, k, T, V⟩) := by
                      show _ = _
                      rw [HXX.out.2, if_neg hbig, if_neg]
                      rw [H48.out]
                      intro e
                      rw [Bool.and_eq_true] at e
                      have h2 := of_decide_eq_true e.2
                      have := HXX.out.1
                      exact hz ⟨e.1, by omega⟩
                    clear hz
                    rcases hex with ⟨hlt, hn⟩ | hend
                    · have hhd : ((Bs s).drop (k + 1 + j)).head?.any letterB = letterB s[k + 1 + j] := by rw [getElem_drop s (k + 1 + j) hlt]; rfl
                      have HCJ := fun hlt w => Lib.hid (class_any (s[k + 1 + j]'hlt) w)
                      have hcj := class_nodigit hn
                      by_cases hle : letterB s[k + 1 + j] = true
                      · as_aux_lemma =>
                          have HTK : Hid (tokL k ((Bs s).drop k) = .error 4) := by
                            show _ = _
                            rw [HTK2.out, if_pos (by rw [hhd]; exact hle)]
                          clear hhd
                          have hcl2 := class_letter hle
                          rcases hz' with ⟨hq1, hq2⟩ | hq1
                          all_goals
                            rcases hcl2 with hcl2 | hcl2
                            all_goals
                              go_wp2_with (first
                                | (go_at_call 27; refine (HCJ hlt _).out.mono ?_; rintro e w2 ⟨rfl, hb2⟩; replace HBQ := Lib.hid (HBQ.out.trans (hb2.mono HBQ.out.size)); clear hb2)
                                | (go_at_call 29; refine (HVA _).out.mono ?_; rintro e w2 ⟨rfl, rfl⟩)
                                | fail)
                              refine bodyPost_ret (v := .tuple #[.slice none 0 0, .int .i64 (k : Int), .int .i64 4]) (by simp [results, Tryz.results18, go_sem]) rfl ?_
                              exact RRel.err hkk HK.out.1 HK.out.2 HR1.out.2.2 HTK.out (HR1.out.2.1.trans (HBQ.out.mono HR1.out.2.1.size))
                      · as_aux_lemma =>
                          have HTK : Hid (tokL k ((Bs s).drop k) = .ok ⟨3, k, T, V⟩) := by
                            show _ = _
                            rw [HTK2.out, if_neg (by rw [hhd]; exact hle)]
                          clear hhd
                          have hcl2 := class_noletter (by simpa using hle)
                          have hcl3 := hcl2.1
                          have hcl4 := hcl2.2
                          clear hcl2
                          rcases hz' with ⟨hq1, hq2⟩ | hq1
                          all_goals
                            go_wp2_with (first
                              | (go_at_call 27; refine (HCJ hlt _).out.mono ?_; rintro e w2 ⟨rfl, hb2⟩; replace HBQ := Lib.hid (HBQ.out.trans (hb2.mono HBQ.out.size)); clear hb2)
                              | (go_at_call 29; refine (HVA _).out.mono ?_; rintro e w2 ⟨rfl, rfl⟩)
                              | (at_builtin; refine wpList_append_own _ rfl _ _ 51 rfl w.heap.size 55 i0 _ 4 40 Tryz.underlying51 hi hz0 hz1 hz2 rfl (by decide) _ _ _ rfl ((owns_below HR1.out.1 HBQ.out).alloc _) ⟨_, 0, none⟩ 1 1 (tokCells ⟨3, k, T, V⟩) rfl rfl (tok_new _ ⟨3, k, T, V⟩) (tok_one _) (by unfold maxLen; omega) (by omega) (by have q1 := HR1.out.2.1.size; have q2 := HBQ.out.size; simp; omega) ?_; intro v' w4 ho4 hg4 _)
                              | fail)
                            go_roundg (s.size - (k + T.length))
                            case measure => have := HXX.out.1; omega
                            case rel => exact RRel.next hkk hl HK.out.1 HK.out.2 HR1.out.2.2 HTK.out (congrArg (Value.int IntKind.i64) (by have := HXX.out.1; show (k : Int) + 1 + j = ((k + T.length : Nat) : Int); omega)) (HR1.out.2.1.trans (HBQ.out.mono HR1.out.2.1.size)) (owns_below HR1.out.1 HBQ.out) hg4 ho4
                    · as_aux_lemma =>
                        have HTK : Hid (tokL k ((Bs s).drop k) = .ok ⟨3, k, T, V⟩) := by
                          show _ = _
                          rw [HTK2.out, List.drop_of_length_le (by rw [bs_length]; omega)]
                          rfl
                        have HCJ : True := trivial
                        rcases hz' with ⟨hq1, hq2⟩ | hq1
                        all_goals
                          go_wp2_with (first
                            | (go_at_call 29; refine (HVA _).out.mono ?_; rintro e w2 ⟨rfl, rfl⟩)
                            | (at_builtin; refine wpList_append_own _ rfl _ _ 51 rfl w.heap.size 55 i0 _ 4 40 Tryz.underlying51 hi hz0 hz1 hz2 rfl (by decide) _ _ _ rfl ((owns_below HR1.out.1 HBQ.out).alloc _) ⟨_, 0, none⟩ 1 1 (tokCells ⟨3, k, T, V⟩) rfl rfl (tok_new _ ⟨3, k, T, V⟩) (tok_one _) (by unfold maxLen; omega) (by omega) (by have q1 := HR1.out.2.1.size; have q2 := HBQ.out.size; simp; omega) ?_; intro v' w4 ho4 hg4 _)
                            | fail)
                          go_roundg (s.size - (k + T.length))
                          case measure => have := HXX.out.1; omega
                          case rel => exact RRel.next hkk hl HK.out.1 HK.out.2 HR1.out.2.2 HTK.out (congrArg (Value.int IntKind.i64) (by have := HXX.out.1; show (k : Int) + 1 + j = ((k + T.length : Nat) : Int); omega)) (HR1.out.2.1.trans (HBQ.out.mono HR1.out.2.1.size)) (owns_below HR1.out.1 HBQ.out) hg4 ho4
          -- E4
        have hb' : blankB s[k] = false := by simpa using h1
        have h35' : (s[k] == 35) = false := by simpa using h2
        have HK := Lib.hid (And.intro hb' h35')
        by_cases h5 : signsL.contains s[k] = true
        · skip
          -- S5
          as_aux_lemma =>
            have hg' : greatB s[k] = false := by
              have : ∀ c ∈ signsL, greatB c = false := by decide
              exact this _ (List.contains_iff_mem.1 h5)
            have hcl : classN s[k] = 4 := by simp [classN, h1, h3, h4, h35', hg', List.contains_iff_mem.1 h5]
            clear hb' h35' hg'
            go_wp2_with fail
            refine (HCA _).out.mono ?_
            rintro e w1 ⟨rfl, hb1⟩
            have HR1 : Hid (w1.drew.ownsRow w.heap.size 55 4 u5 ts.length (toksCells ts) ∧ Below w.heap.size w w1.drew ∧ scan (Bs s) = pre ts (res k ((Bs s).drop k))) := And.intro (owns_below HR.out.1 hb1.drew) (And.intro (HR.out.2.1.trans (hb1.mono HR.out.2.1.size)).drew HR.out.2.2)
            clear hb1
            by_cases hlt : k + 1 < s.size
            · have hc2 := getElem_drop s (k + 1) hlt
              have HPA := fun w => Lib.hid (pair_any s[k] s[k + 1] w)
              by_cases hp : pairB s[k] s[k + 1] = true
              · have hsz : signSize (s[k] :: (Bs s).drop (k + 1)) = 2 := by rw [hc2, signSize, if_pos hp]
                clear hc2
                have hsl := slice_run s k (k + 2) (k : Int) ((k : Int) + 1 + 1) rfl (by omega) (by omega) (by omega)
                rw [extract_str, show k + 2 - k = 2 by omega] at hsl
                obtain ⟨T, hTT⟩ : ∃ T, T = ((Bs s).drop k).take 2 := ⟨_, rfl⟩
                rw [← hTT] at hsl
                have HTK : Hid (tokL k ((Bs s).drop k) = .ok ⟨4, k, T, 0⟩ ∧ T.length = 2) := by
                  rw [hTT, HCC.out]
                  exact sign_tok h3 h4 hsz (by omega)
                clear hTT hsz
                have hd2 : decide ((k : Int) + 1 < s.size) = true := by simp; omega
                have hd3 : (0 : Int) ≤ (k : Int) + 1 := by omega
                have hd4 : (k : Int) + 1 < s.size := by omega
                have hd5 : ((k : Int) + 1).toNat = k + 1 := by omega
                go_wp2_with fail
                go_still_tail 11, (by kernel_rfl)
                change wpList _ _ _ _ _ w1.drew
                go_wp2_with (first
                  | (go_at_call 30; refine (HPA _).out.mono ?_; rintro e w2 ⟨rfl, rfl⟩)
                  | (at_builtin; refine wpList_append_own _ rfl _ _ 51 rfl w.heap.size 55 i0 _ 4 40 Tryz.underlying51 hi hz0 hz1 hz2 rfl (by decide) _ _ _ rfl (HR1.out.1.alloc _) ⟨w1.drew.heap.size, 0, none⟩ 1 1 (tokCells ⟨4, k, T, 0⟩) rfl rfl (tok_new w1.drew ⟨4, k, T, 0⟩) (tok_one _) (by unfold maxLen; omega) (by omega) (by have q1 : w.heap.size ≤ w1.heap.size := HR1.out.2.1.size; simp; omega) ?_; intro v' w4 ho4 hg4 _)
                  | fail)
                go_roundg (s.size - (k + T.length))
                case measure => have := HTK.out.2; omega
                case rel => exact RRel.next hkk hl HK.out.1 HK.out.2 HR1.out.2.2 HTK.out.1 (congrArg (Value.int IntKind.i64) (by have := HTK.out.2; show (k : Int) + 1 + 1 = ((k + T.length : Nat) : Int); omega)) HR1.out.2.1 HR1.out.1 hg4 ho4
              · have hp' : pairB s[k] s[k + 1] = false := by simpa using hp
                have hsz : signSize (s[k] :: (Bs s).drop (k + 1)) = 1 := by rw [hc2, signSize, if_neg hp, if_pos h5]
                clear hc2
                have hsl := slice_run s k (k + 1) (k : Int) ((k : Int) + 1) rfl (by omega) (by omega) (by omega)
                rw [extract_str, show k + 1 - k = 1 by omega] at hsl
                obtain ⟨T, hTT⟩ : ∃ T, T = ((Bs s).drop k).take 1 := ⟨_, rfl⟩
                rw [← hTT] at hsl
                have HTK : Hid (tokL k ((Bs s).drop k) = .ok ⟨4, k, T, 0⟩ ∧ T.length = 1) := by
                  rw [hTT, HCC.out]
                  exact sign_tok h3 h4 hsz (by omega)
                clear hTT hsz
                have hd2 : decide ((k : Int) + 1 < s.size) = true := by simp; omega
                have hd3 : (0 : Int) ≤ (k : Int) + 1 := by omega
                have hd4 : (k : Int) + 1 < s.size := by omega
                have hd5 : ((k : Int) + 1).toNat = k + 1 := by omega
                go_wp2_with fail
                go_still_tail 11, (by kernel_rfl)
                change wpList _ _ _ _ _ w1.drew
                go_wp2_with (first
                  | (go_at_call 30; refine (HPA _).out.mono ?_; rintro e w2 ⟨rfl, rfl⟩)
                  | (at_builtin; refine wpList_append_own _ rfl _ _ 51 rfl w.heap.size 55 i0 _ 4 40 Tryz.underlying51 hi hz0 hz1 hz2 rfl (by decide) _ _ _ rfl (HR1.out.1.alloc _) ⟨w1.drew.heap.size, 0, none⟩ 1 1 (tokCells ⟨4, k, T, 0⟩) rfl rfl (tok_new w1.drew ⟨4, k, T, 0⟩) (tok_one _) (by unfold maxLen; omega) (by omega) (by have q1 : w.heap.size ≤ w1.heap.size := HR1.out.2.1.size; simp; omega) ?_; intro v' w4 ho4 hg4 _)
                  | fail)
                go_roundg (s.size - (k + T.length))
                case measure => have := HTK.out.2; omega
                case rel => exact RRel.next hkk hl HK.out.1 HK.out.2 HR1.out.2.2 HTK.out.1 (congrArg (Value.int IntKind.i64) (by have := HTK.out.2; show (k : Int) + 1 = ((k + T.length : Nat) : Int); omega)) HR1.out.2.1 HR1.out.1 hg4 ho4
            · have hsz : signSize (s[k] :: (Bs s).drop (k + 1)) = 1 := by
                rw [List.drop_of_length_le (by rw [bs_length]; omega), signSize, if_pos h5]
              have hsl := slice_run s k (k + 1) (k : Int) ((k : Int) + 1) rfl (by omega) (by omega) (by omega)
              rw [extract_str, show k + 1 - k = 1 by omega] at hsl
              obtain ⟨T, hTT⟩ : ∃ T, T = ((Bs s).drop k).take 1 := ⟨_, rfl⟩
              rw [← hTT] at hsl
              have HTK : Hid (tokL k ((Bs s).drop k) = .ok ⟨4, k, T, 0⟩ ∧ T.length = 1) := by
                rw [hTT, HCC.out]
                exact sign_tok h3 h4 hsz (by omega)
              clear hTT hsz
              have hd2 : decide ((k : Int) + 1 < s.size) = false := by simp; omega
              go_wp2_with fail
              go_quiet (fail)
              have HO3 : Hid ((w1.drewN nq).ownsRow w.heap.size 55 4 u5 ts.length (toksCells ts)) := HR1.out.1
              have HB3 : Hid (Below w.heap.size w (w1.drewN nq)) := ⟨HR1.out.2.1.os, HR1.out.2.1.tape, HR1.out.2.1.output, HR1.out.2.1.size, HR1.out.2.1.block⟩
              have HTN : Hid (∀ j u, (tokCells ⟨4, k, T, 0⟩)[j]? = some u → ((w1.drewN nq).alloc (.cells #[.int .u8 4, .int .i64 (k : Int), .string ⟨T.toArray⟩, .int .i64 0] 55)).cell? ((⟨w1.heap.size, 0, none⟩ : Addr).add j) = some u) := tok_new (w1.drewN nq) ⟨4, k, T, 0⟩
              go_wp2_with (first
                | (at_builtin; refine wpList_append_own _ rfl _ _ 51 rfl w.heap.size 55 i0 _ 4 40 Tryz.underlying51 hi hz0 hz1 hz2 rfl (by decide) _ _ _ rfl (HO3.out.alloc _) ⟨w1.heap.size, 0, none⟩ 1 1 (tokCells ⟨4, k, T, 0⟩) rfl rfl HTN.out (tok_one _) (by unfold maxLen; omega) (by omega) (by have q1 : w.heap.size ≤ w1.heap.size := HR1.out.2.1.size; simp; omega) ?_; intro v' w4 ho4 hg4 _)
                | fail)
              go_roundg (s.size - (k + T.length))
              case measure => have := HTK.out.2; omega
              case rel => exact RRel.next hkk hl HK.out.1 HK.out.2 HR1.out.2.2 HTK.out.1 (congrArg (Value.int IntKind.i64) (by have := HTK.out.2; show (k : Int) + 1 = ((k + T.length : Nat) : Int); omega)) HB3.out HO3.out hg4 ho4
          -- E5
        · skip
          -- S6
          as_aux_lemma =>
            have HTK : Hid (tokL k ((Bs s).drop k) = .error 4) := by
              show _ = _
              rw [HCC.out]
              exact sign_none h3 h4 (by simpa using h5)
            have hcl : classN s[k] = 6 ∨ classN s[k] = 0 := by
              by_cases hg : greatB s[k] = true
              · exact Or.inl (by simp [classN, h1, h3, h4, h35', hg])
              · exact Or.inr (by unfold classN; rw [if_neg h1, if_neg h3, if_neg h4, if_neg (by rw [h35']; simp), if_neg hg, if_neg h5])
            clear hb' h35'
            rcases hcl with hcl | hcl
            all_goals
              go_wp2_with fail
              refine (HCA _).out.mono ?_
              rintro e w1 ⟨rfl, hb1⟩
              have HR1 := Lib.hid (And.intro (HR.out.2.1.trans (hb1.mono HR.out.2.1.size)) HR.out.2.2)
              clear hb1
              go_wp2_with fail
              refine bodyPost_ret (v := .tuple #[.slice none 0 0, .int .i64 (k : Int), .int .i64 4]) (by simp [results, Tryz.results18, go_sem]) rfl ?_
              exact RRel.err hkk HK.out.1 HK.out.2 HR1.out.2 HTK.out HR1.out.1
          -- E6
      · have hke : k = s.size := by omega
        have HKE := Lib.hid hke
        have hdd : decide ((k : Int) < s.size) = false := by simp; omega
        clear hke
        go_wp2_with (first
          | (at_builtin; refine wpList_append_own _ rfl _ _ 51 rfl w.heap.size 55 i0 _ 4 40 Tryz.underlying51 hi hz0 hz1 hz2 rfl (by decide) _ _ _ rfl (HR.out.1.alloc _) ⟨wr.heap.size, 0, none⟩ 1 1 (tokCells ⟨0, s.size, [], 0⟩) rfl rfl (tok_new wr ⟨0, s.size, [], 0⟩) (tok_one _) (by unfold maxLen; omega) (by omega) (by have q1 := HR.out.2.1.size; simp; omega) ?_; intro v' w4 ho4 hg4 _)
          | fail)
        refine bodyPost_ret (v := .tuple #[v', .int .i64 0, .int .i64 0]) (by simp [results, Tryz.results18, go_sem]) rfl ?_
        refine ⟨(HR.out.2.1.alloc HR.out.2.1.size _).grown hg4 (by have := HR.out.2.1.size; simp; omega) (fun g e => (HR.out.1.lt g e).1), ?_⟩
        rw [HR.out.2.2, HKE.out, List.drop_of_length_le (by rw [bs_length]; exact Nat.le_refl _), res_nil]
        refine ⟨_, rfl, ?_⟩
        show w4.ownsRow _ _ _ _ (ts ++ [(⟨0, s.size, [], 0⟩ : Tok)]).length (toksCells (ts ++ [(⟨0, s.size, [], 0⟩ : Tok)]))
        rw [toksCells_snoc, List.length_append]
        exact ho4
end Go.Proofs.YtcgllooeimacdaaGreatDoor
