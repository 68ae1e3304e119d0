/-
  The document's own small functions: what class a byte is of, whether two bytes make a sign, what digits are worth.
-/
import Derived.Test.YtdglkfdacajalaaDoorRefWord
import Derived.Test.YtdglkfdacajalaaDoorSign
import Derived.KernelRfl
import Derived.Lib.SlBytesConst
namespace Go.Proofs.YtdglkfdacajalaaDoor
open Go Go.RowKit Lx

/-- What class a byte is of. -/
def classN (c : UInt8) : Nat := if blankB c then 1 else if smallB c then 2 else if digitB c then 3 else if c == 35 then 5 else if greatB c then 6 else if signsL.contains c then 4 else 0

theorem u8_beq2 (a b : UInt8) : (a == b) = ((a.toNat : Int) == (b.toNat : Int)) := by
  rw [Bool.eq_iff_iff]
  simp only [beq_iff_eq]
  constructor
  · rintro rfl; rfl
  · intro h; exact UInt8.toNat_inj.1 (by omega)
theorem pair_int (a b : UInt8) : pairB a b = if ((b.toNat : Int) == 61) = true then (a.toNat : Int) == 61 || (a.toNat : Int) == 33 || (a.toNat : Int) == 60 || (a.toNat : Int) == 62
    else (a.toNat : Int) == (b.toNat : Int) && ((a.toNat : Int) == 38 || (a.toNat : Int) == 124 || (a.toNat : Int) == 60 || (a.toNat : Int) == 62) := by
  have h1 := (u8_beq b 61 (by decide)).symm
  have h2 := (u8_beq a 61 (by decide)).symm
  have h3 := (u8_beq a 33 (by decide)).symm
  have h4 := (u8_beq a 60 (by decide)).symm
  have h5 := (u8_beq a 62 (by decide)).symm
  have h6 := (u8_beq a 38 (by decide)).symm
  have h7 := (u8_beq a 124 (by decide)).symm
  have h8 := u8_beq2 a b
  change (b == 61) = _ at h1
  change (a == 61) = _ at h2
  change (a == 33) = _ at h3
  change (a == 60) = _ at h4
  change (a == 62) = _ at h5
  change (a == 38) = _ at h6
  change (a == 124) = _ at h7
  unfold pairB
  rw [h1, h2, h3, h4, h5, h6, h7, h8]
  rfl

set_option maxRecDepth 100000 in
theorem pair_any (a b : UInt8) (w : World) : Calls Tryd.prog 19 #[B8 a, B8 b] w fun e w' => e = .returned (.bool (pairB a b)) ∧ w = w' := by
  have HP := Lib.hid (pair_int a b)
  go_enter Tryd.func19, Tryd.ntmps19
  go_wp2
  all_goals
    go_ret
    refine ⟨ret_bool ?_, rfl⟩
    rw [HP.out]
    first | (simp [*]; done) | (simp_all; done)

set_option maxRecDepth 100000 in
set_option maxHeartbeats 800000 in
theorem class_1 (c : UInt8) (hn : classN c = 1) (g : c.toNat = 32 ∨ c.toNat = 9 ∨ c.toNat = 10 ∨ c.toNat = 13) (w : World) : Calls Tryd.prog 17 #[B8 c] w fun e w' => e = .returned (.int .i64 (classN c : Int)) ∧ Below w.heap.size w w' := by
  have HC := Lib.hid hn
  have G := Lib.hid g
  clear hn g
  go_enter Tryd.func17, Tryd.ntmps17
  go_wp2
  all_goals first
    | (go_ret; exact ⟨ret_int (by rw [HC.out]; rfl), Below.refl _ _⟩)
    | (exfalso; have := G.out; simp_all; omega)

set_option maxRecDepth 100000 in
set_option maxHeartbeats 800000 in
theorem class_2 (c : UInt8) (hn : classN c = 2) (g : 97 ≤ c.toNat ∧ c.toNat ≤ 122) (w : World) : Calls Tryd.prog 17 #[B8 c] w fun e w' => e = .returned (.int .i64 (classN c : Int)) ∧ Below w.heap.size w w' := by
  have HC := Lib.hid hn
  have e32 : ((c.toNat : Int) == 32) = false := by simp; omega
  have e9 : ((c.toNat : Int) == 9) = false := by simp; omega
  have e10 : ((c.toNat : Int) == 10) = false := by simp; omega
  have e13 : ((c.toNat : Int) == 13) = false := by simp; omega
  have g97 : decide ((97 : Int) ≤ (c.toNat : Int)) = true := by simp; omega
  have l122 : decide ((c.toNat : Int) ≤ 122) = true := by simp; omega
  have G := Lib.hid g
  clear hn g
  go_enter Tryd.func17, Tryd.ntmps17
  go_wp2
  all_goals first
    | (go_ret; exact ⟨ret_int (by rw [HC.out]; rfl), Below.refl _ _⟩)
    | (exfalso; have := G.out; simp_all; omega)

set_option maxRecDepth 100000 in
set_option maxHeartbeats 800000 in
theorem class_3 (c : UInt8) (hn : classN c = 3) (g : 48 ≤ c.toNat ∧ c.toNat ≤ 57) (w : World) : Calls Tryd.prog 17 #[B8 c] w fun e w' => e = .returned (.int .i64 (classN c : Int)) ∧ Below w.heap.size w w' := by
  have HC := Lib.hid hn
  have e32 : ((c.toNat : Int) == 32) = false := by simp; omega
  have e9 : ((c.toNat : Int) == 9) = false := by simp; omega
  have e10 : ((c.toNat : Int) == 10) = false := by simp; omega
  have e13 : ((c.toNat : Int) == 13) = false := by simp; omega
  have g97 : decide ((97 : Int) ≤ (c.toNat : Int)) = false := by simp; omega
  have g48 : decide ((48 : Int) ≤ (c.toNat : Int)) = true := by simp; omega
  have l57 : decide ((c.toNat : Int) ≤ 57) = true := by simp; omega
  have G := Lib.hid g
  clear hn g
  go_enter Tryd.func17, Tryd.ntmps17
  go_wp2
  all_goals first
    | (go_ret; exact ⟨ret_int (by rw [HC.out]; rfl), Below.refl _ _⟩)
    | (exfalso; have := G.out; simp_all; omega)

set_option maxRecDepth 100000 in
set_option maxHeartbeats 800000 in
theorem class_5 (c : UInt8) (hn : classN c = 5) (g : c.toNat = 35) (w : World) : Calls Tryd.prog 17 #[B8 c] w fun e w' => e = .returned (.int .i64 (classN c : Int)) ∧ Below w.heap.size w w' := by
  have HC := Lib.hid hn
  have e32 : ((c.toNat : Int) == 32) = false := by simp; omega
  have e9 : ((c.toNat : Int) == 9) = false := by simp; omega
  have e10 : ((c.toNat : Int) == 10) = false := by simp; omega
  have e13 : ((c.toNat : Int) == 13) = false := by simp; omega
  have e35 : ((c.toNat : Int) == 35) = true := by simp; omega
  have g97 : decide ((97 : Int) ≤ (c.toNat : Int)) = false := by simp; omega
  have g48 : decide ((48 : Int) ≤ (c.toNat : Int)) = false := by simp; omega
  have G := Lib.hid g
  clear hn g
  go_enter Tryd.func17, Tryd.ntmps17
  go_wp2
  all_goals first
    | (go_ret; exact ⟨ret_int (by rw [HC.out]; rfl), Below.refl _ _⟩)
    | (exfalso; have := G.out; simp_all; omega)

set_option maxRecDepth 100000 in
set_option maxHeartbeats 800000 in
theorem class_6 (c : UInt8) (hn : classN c = 6) (g : 65 ≤ c.toNat ∧ c.toNat ≤ 90) (w : World) : Calls Tryd.prog 17 #[B8 c] w fun e w' => e = .returned (.int .i64 (classN c : Int)) ∧ Below w.heap.size w w' := by
  have HC := Lib.hid hn
  have e32 : ((c.toNat : Int) == 32) = false := by simp; omega
  have e9 : ((c.toNat : Int) == 9) = false := by simp; omega
  have e10 : ((c.toNat : Int) == 10) = false := by simp; omega
  have e13 : ((c.toNat : Int) == 13) = false := by simp; omega
  have e35 : ((c.toNat : Int) == 35) = false := by simp; omega
  have g97 : decide ((97 : Int) ≤ (c.toNat : Int)) = false := by simp; omega
  have g48 : decide ((48 : Int) ≤ (c.toNat : Int)) = true := by simp; omega
  have g65 : decide ((65 : Int) ≤ (c.toNat : Int)) = true := by simp; omega
  have l57 : decide ((c.toNat : Int) ≤ 57) = false := by simp; omega
  have l90 : decide ((c.toNat : Int) ≤ 90) = true := by simp; omega
  have G := Lib.hid g
  clear hn g
  go_enter Tryd.func17, Tryd.ntmps17
  go_wp2
  all_goals first
    | (go_ret; exact ⟨ret_int (by rw [HC.out]; rfl), Below.refl _ _⟩)
    | (exfalso; have := G.out; simp_all; omega)

def refSigns : Obj := .cells #[.int .u8 40, .int .u8 41, .int .u8 123, .int .u8 125, .int .u8 91, .int .u8 93, .int .u8 44, .int .u8 59, .int .u8 58, .int .u8 61, .int .u8 60, .int .u8 62, .int .u8 43, .int .u8 45, .int .u8 42, .int .u8 47, .int .u8 37, .int .u8 38, .int .u8 124, .int .u8 94, .int .u8 33, .int .u8 126] 5 (22, 23)
theorem refSigns_cell (w : World) (j : Nat) (h : j < 22) : (w.alloc refSigns).cell? ⟨w.heap.size, j, none⟩ = some (B8 (signsL[j]'h)) := by
  unfold refSigns
  rw [cell_of_row _ _ _ _ _ _ (heap_alloc_new w _)]
  have : ∀ j (hj : j < 22), (#[(.int .u8 40 : Value), .int .u8 41, .int .u8 123, .int .u8 125, .int .u8 91, .int .u8 93, .int .u8 44, .int .u8 59, .int .u8 58, .int .u8 61, .int .u8 60, .int .u8 62, .int .u8 43, .int .u8 45, .int .u8 42, .int .u8 47, .int .u8 37, .int .u8 38, .int .u8 124, .int .u8 94, .int .u8 33, .int .u8 126] : Array Value)[j]? = some (B8 (signsL[j]'hj)) := by
    intro j hj
    match j, hj with
    | 0, _ => rfl
    | 1, _ => rfl
    | 2, _ => rfl
    | 3, _ => rfl
    | 4, _ => rfl
    | 5, _ => rfl
    | 6, _ => rfl
    | 7, _ => rfl
    | 8, _ => rfl
    | 9, _ => rfl
    | 10, _ => rfl
    | 11, _ => rfl
    | 12, _ => rfl
    | 13, _ => rfl
    | 14, _ => rfl
    | 15, _ => rfl
    | 16, _ => rfl
    | 17, _ => rfl
    | 18, _ => rfl
    | 19, _ => rfl
    | 20, _ => rfl
    | 21, _ => rfl
    | j + 22, h => exact absurd h (by omega)
  exact this j h

set_option maxRecDepth 100000 in
set_option maxHeartbeats 1600000 in
theorem class_rest (c : UInt8) (hn : classN c = if signsL.contains c then 4 else 0) (b1 : ¬ (c.toNat = 32 ∨ c.toNat = 9 ∨ c.toNat = 10 ∨ c.toNat = 13)) (b2 : ¬ (97 ≤ c.toNat ∧ c.toNat ≤ 122)) (b3 : ¬ (48 ≤ c.toNat ∧ c.toNat ≤ 57)) (b4 : ¬ c.toNat = 35) (b5 : ¬ (65 ≤ c.toNat ∧ c.toNat ≤ 90)) (w : World) :
    Calls Tryd.prog 17 #[B8 c] w fun e w' => e = .returned (.int .i64 (classN c : Int)) ∧ Below w.heap.size w w' := by
  have hcv := Lib.run_convert_bytes_const w 31 5 #[.int .u8 40, .int .u8 41, .int .u8 123, .int .u8 125, .int .u8 91, .int .u8 93, .int .u8 44, .int .u8 59, .int .u8 58, .int .u8 61, .int .u8 60, .int .u8 62, .int .u8 43, .int .u8 45, .int .u8 42, .int .u8 47, .int .u8 37, .int .u8 38, .int .u8 124, .int .u8 94, .int .u8 33, .int .u8 126] 22 22 Tryd.underlying31 Tryd.underlying5
  have HC := Lib.hid hn
  have HB := Lib.hid ((Below.refl w.heap.size w).alloc (Nat.le_refl _) refSigns)
  have HL := Lib.hid (refSigns_cell w)
  obtain ⟨W, hW⟩ : ∃ W, W = w.alloc refSigns := ⟨_, rfl⟩
  rw [← hW] at HL HB
  have HW := Lib.hid hW
  have e32 : ((c.toNat : Int) == 32) = false := by simp; omega
  have e9 : ((c.toNat : Int) == 9) = false := by simp; omega
  have e10 : ((c.toNat : Int) == 10) = false := by simp; omega
  have e13 : ((c.toNat : Int) == 13) = false := by simp; omega
  have e35 : ((c.toNat : Int) == 35) = false := by simp; omega
  clear hW hn
  have hr : c.toNat < 48 ∨ (57 < c.toNat ∧ c.toNat < 65) ∨ (90 < c.toNat ∧ c.toNat < 97) ∨ 122 < c.toNat := by omega
  clear b1 b2 b3 b4 b5
  rcases hr with hr | hr | hr | hr
  · have g97 : decide ((97 : Int) ≤ (c.toNat : Int)) = false := by simp; omega
    have g48 : decide ((48 : Int) ≤ (c.toNat : Int)) = false := by simp; omega
    have g65 : decide ((65 : Int) ≤ (c.toNat : Int)) = false := by simp; omega
    have HR := Lib.hid hr
    clear hr
    go_enter Tryd.func17, Tryd.ntmps17
    go_wp2
    change Code.wp _ _ _ _ (w.alloc refSigns)
    rw [← HW.out]
    go_loop [47] (fun i => ∃ k : Nat, k ≤ 22 ∧ i = .int .i64 k ∧ ∀ j (hj : j < 22), j < k → c ≠ signsL[j]'hj) (fun i => 22 - (intOf i).toNat)
    case atStart => exact ⟨0, by omega, rfl, fun j _ h => by omega⟩
    case round =>
      obtain ⟨k, hk, rfl, hn⟩ := hrel
      have HN := Lib.hid hn
      clear hn
      by_cases hlt : k < 22
      · obtain ⟨x, hx⟩ : ∃ x : UInt8, x = signsL[k]'hlt := ⟨_, rfl⟩
        have hc : W.cell? ⟨w.heap.size, k, none⟩ = some (B8 x) := by rw [hx]; exact HL.out k hlt
        have HX := Lib.hid hx
        clear hx
        by_cases he : ((x.toNat : Int) == (c.toNat : Int)) = true
        · have HE := Lib.hid he
          go_wp2
          go_ret
          refine ⟨ret_int ?_, HB.out⟩
          rw [HC.out, if_pos]
          · rfl
          · rw [← u8_beq2] at he
            rw [List.contains_iff_mem, ← eq_of_beq he, HX.out]
            exact List.getElem_mem _
        · have he' : ((x.toNat : Int) == (c.toNat : Int)) = false := by simpa using he
          have HE := Lib.hid he'
          clear he
          go_wp2
          go_round
          case rel =>
            refine ⟨k + 1, by omega, by go_num, fun j hj hjk => ?_⟩
            by_cases hjk2 : j = k
            · subst hjk2
              intro e
              have h2 := HE.out
              rw [← u8_beq2, HX.out, e] at h2
              simp at h2
            · exact HN.out j hj (by omega)
          case measure => simp [intOf]; omega
      · go_wp2
        go_ret
        refine ⟨ret_int ?_, HB.out⟩
        rw [HC.out, if_neg]
        · rfl
        · intro e
          rw [List.contains_iff_mem] at e
          obtain ⟨j, hj, e2⟩ := List.getElem_of_mem e
          exact HN.out j hj (by have h22 : signsL.length = 22 := rfl; omega) e2.symm
  · have g97 : decide ((97 : Int) ≤ (c.toNat : Int)) = false := by simp; omega
    have g48 : decide ((48 : Int) ≤ (c.toNat : Int)) = true := by simp; omega
    have g65 : decide ((65 : Int) ≤ (c.toNat : Int)) = false := by simp; omega
    have l57 : decide ((c.toNat : Int) ≤ 57) = false := by simp; omega
    have HR := Lib.hid hr
    clear hr
    go_enter Tryd.func17, Tryd.ntmps17
    go_wp2
    change Code.wp _ _ _ _ (w.alloc refSigns)
    rw [← HW.out]
    go_loop [47] (fun i => ∃ k : Nat, k ≤ 22 ∧ i = .int .i64 k ∧ ∀ j (hj : j < 22), j < k → c ≠ signsL[j]'hj) (fun i => 22 - (intOf i).toNat)
    case atStart => exact ⟨0, by omega, rfl, fun j _ h => by omega⟩
    case round =>
      obtain ⟨k, hk, rfl, hn⟩ := hrel
      have HN := Lib.hid hn
      clear hn
      by_cases hlt : k < 22
      · obtain ⟨x, hx⟩ : ∃ x : UInt8, x = signsL[k]'hlt := ⟨_, rfl⟩
        have hc : W.cell? ⟨w.heap.size, k, none⟩ = some (B8 x) := by rw [hx]; exact HL.out k hlt
        have HX := Lib.hid hx
        clear hx
        by_cases he : ((x.toNat : Int) == (c.toNat : Int)) = true
        · have HE := Lib.hid he
          go_wp2
          go_ret
          refine ⟨ret_int ?_, HB.out⟩
          rw [HC.out, if_pos]
          · rfl
          · rw [← u8_beq2] at he
            rw [List.contains_iff_mem, ← eq_of_beq he, HX.out]
            exact List.getElem_mem _
        · have he' : ((x.toNat : Int) == (c.toNat : Int)) = false := by simpa using he
          have HE := Lib.hid he'
          clear he
          go_wp2
          go_round
          case rel =>
            refine ⟨k + 1, by omega, by go_num, fun j hj hjk => ?_⟩
            by_cases hjk2 : j = k
            · subst hjk2
              intro e
              have h2 := HE.out
              rw [← u8_beq2, HX.out, e] at h2
              simp at h2
            · exact HN.out j hj (by omega)
          case measure => simp [intOf]; omega
      · go_wp2
        go_ret
        refine ⟨ret_int ?_, HB.out⟩
        rw [HC.out, if_neg]
        · rfl
        · intro e
          rw [List.contains_iff_mem] at e
          obtain ⟨j, hj, e2⟩ := List.getElem_of_mem e
          exact HN.out j hj (by have h22 : signsL.length = 22 := rfl; omega) e2.symm
  · have g97 : decide ((97 : Int) ≤ (c.toNat : Int)) = false := by simp; omega
    have g48 : decide ((48 : Int) ≤ (c.toNat : Int)) = true := by simp; omega
    have g65 : decide ((65 : Int) ≤ (c.toNat : Int)) = true := by simp; omega
    have l57 : decide ((c.toNat : Int) ≤ 57) = false := by simp; omega
    have l90 : decide ((c.toNat : Int) ≤ 90) = false := by simp; omega
    have HR := Lib.hid hr
    clear hr
    go_enter Tryd.func17, Tryd.ntmps17
    go_wp2
    change Code.wp _ _ _ _ (w.alloc refSigns)
    rw [← HW.out]
    go_loop [47] (fun i => ∃ k : Nat, k ≤ 22 ∧ i = .int .i64 k ∧ ∀ j (hj : j < 22), j < k → c ≠ signsL[j]'hj) (fun i => 22 - (intOf i).toNat)
    case atStart => exact ⟨0, by omega, rfl, fun j _ h => by omega⟩
    case round =>
      obtain ⟨k, hk, rfl, hn⟩ := hrel
      have HN := Lib.hid hn
      clear hn
      by_cases hlt : k < 22
      · obtain ⟨x, hx⟩ : ∃ x : UInt8, x = signsL[k]'hlt := ⟨_, rfl⟩
        have hc : W.cell? ⟨w.heap.size, k, none⟩ = some (B8 x) := by rw [hx]; exact HL.out k hlt
        have HX := Lib.hid hx
        clear hx
        by_cases he : ((x.toNat : Int) == (c.toNat : Int)) = true
        · have HE := Lib.hid he
          go_wp2
          go_ret
          refine ⟨ret_int ?_, HB.out⟩
          rw [HC.out, if_pos]
          · rfl
          · rw [← u8_beq2] at he
            rw [List.contains_iff_mem, ← eq_of_beq he, HX.out]
            exact List.getElem_mem _
        · have he' : ((x.toNat : Int) == (c.toNat : Int)) = false := by simpa using he
          have HE := Lib.hid he'
          clear he
          go_wp2
          go_round
          case rel =>
            refine ⟨k + 1, by omega, by go_num, fun j hj hjk => ?_⟩
            by_cases hjk2 : j = k
            · subst hjk2
              intro e
              have h2 := HE.out
              rw [← u8_beq2, HX.out, e] at h2
              simp at h2
            · exact HN.out j hj (by omega)
          case measure => simp [intOf]; omega
      · go_wp2
        go_ret
        refine ⟨ret_int ?_, HB.out⟩
        rw [HC.out, if_neg]
        · rfl
        · intro e
          rw [List.contains_iff_mem] at e
          obtain ⟨j, hj, e2⟩ := List.getElem_of_mem e
          exact HN.out j hj (by have h22 : signsL.length = 22 := rfl; omega) e2.symm
  · have g97 : decide ((97 : Int) ≤ (c.toNat : Int)) = true := by simp; omega
    have g48 : decide ((48 : Int) ≤ (c.toNat : Int)) = true := by simp; omega
    have g65 : decide ((65 : Int) ≤ (c.toNat : Int)) = true := by simp; omega
    have l122 : decide ((c.toNat : Int) ≤ 122) = false := by simp; omega
    have l57 : decide ((c.toNat : Int) ≤ 57) = false := by simp; omega
    have l90 : decide ((c.toNat : Int) ≤ 90) = false := by simp; omega
    have HR := Lib.hid hr
    clear hr
    go_enter Tryd.func17, Tryd.ntmps17
    go_wp2
    change Code.wp _ _ _ _ (w.alloc refSigns)
    rw [← HW.out]
    go_loop [47] (fun i => ∃ k : Nat, k ≤ 22 ∧ i = .int .i64 k ∧ ∀ j (hj : j < 22), j < k → c ≠ signsL[j]'hj) (fun i => 22 - (intOf i).toNat)
    case atStart => exact ⟨0, by omega, rfl, fun j _ h => by omega⟩
    case round =>
      obtain ⟨k, hk, rfl, hn⟩ := hrel
      have HN := Lib.hid hn
      clear hn
      by_cases hlt : k < 22
      · obtain ⟨x, hx⟩ : ∃ x : UInt8, x = signsL[k]'hlt := ⟨_, rfl⟩
        have hc : W.cell? ⟨w.heap.size, k, none⟩ = some (B8 x) := by rw [hx]; exact HL.out k hlt
        have HX := Lib.hid hx
        clear hx
        by_cases he : ((x.toNat : Int) == (c.toNat : Int)) = true
        · have HE := Lib.hid he
          go_wp2
          go_ret
          refine ⟨ret_int ?_, HB.out⟩
          rw [HC.out, if_pos]
          · rfl
          · rw [← u8_beq2] at he
            rw [List.contains_iff_mem, ← eq_of_beq he, HX.out]
            exact List.getElem_mem _
        · have he' : ((x.toNat : Int) == (c.toNat : Int)) = false := by simpa using he
          have HE := Lib.hid he'
          clear he
          go_wp2
          go_round
          case rel =>
            refine ⟨k + 1, by omega, by go_num, fun j hj hjk => ?_⟩
            by_cases hjk2 : j = k
            · subst hjk2
              intro e
              have h2 := HE.out
              rw [← u8_beq2, HX.out, e] at h2
              simp at h2
            · exact HN.out j hj (by omega)
          case measure => simp [intOf]; omega
      · go_wp2
        go_ret
        refine ⟨ret_int ?_, HB.out⟩
        rw [HC.out, if_neg]
        · rfl
        · intro e
          rw [List.contains_iff_mem] at e
          obtain ⟨j, hj, e2⟩ := List.getElem_of_mem e
          exact HN.out j hj (by have h22 : signsL.length = 22 := rfl; omega) e2.symm

set_option maxRecDepth 100000 in
set_option maxHeartbeats 800000 in
theorem class_any (c : UInt8) (w : World) : Calls Tryd.prog 17 #[B8 c] w fun e w' => e = .returned (.int .i64 (classN c : Int)) ∧ Below w.heap.size w w' := by
  have H1 := blankB_iff c
  have H2 := smallB_iff c
  have H3 := digitB_iff c
  have H4 := greatB_iff c
  have H5 := u8_eq c 35 (by decide)
  by_cases h1 : blankB c = true
  · exact class_1 c (by simp [classN, h1]) (H1.1 h1) w
  by_cases h2 : smallB c = true
  · exact class_2 c (by simp [classN, h1, h2]) (H2.1 h2) w
  by_cases h3 : digitB c = true
  · exact class_3 c (by simp [classN, h1, h2, h3]) (H3.1 h3) w
  by_cases h4 : c = 35
  · exact class_5 c (by subst h4; rfl) (by rw [h4]; rfl) w
  by_cases h5 : greatB c = true
  · exact class_6 c (by simp [classN, h1, h2, h3, h4, h5]) (H4.1 h5) w
  have h6 : classN c = if signsL.contains c then 4 else 0 := by simp [classN, h1, h2, h3, h4, h5]
  exact class_rest c h6 (fun e => h1 (H1.2 e)) (fun e => h2 (H2.2 e)) (fun e => h3 (H3.2 e)) (fun e => h4 (by rw [show (35 : UInt8) = UInt8.ofNat 35 from rfl, u8_eq c 35 (by decide)]; exact e)) (fun e => h5 (H4.2 e)) w
end Go.Proofs.YtdglkfdacajalaaDoor
