/-
  How long a sign is.
-/
import Derived.Test.YtcgllooeimacdaaGreatDoorNum
namespace Go.Proofs.YtcgllooeimacdaaGreatDoor
open Go Go.RowKit Lx Go.Maps Go.WideMaps Go.WideShapes

theorem index_mem (c : UInt8) : ∀ l : List UInt8, ((0 : Int) ≤ Lib.indexByte l c) ↔ c ∈ l := by
  intro l
  induction l with
  | nil => simp [Lib.indexByte]
  | cons b t ih =>
    have hg := Lib.indexByte_ge t c
    unfold Lib.indexByte
    by_cases h : b = c
    · subst h; simp
    · have h1 : (b == c) = false := by simpa using h
      have h2 : ¬ c = b := fun e => h e.symm
      rw [h1]
      simp only [Bool.false_eq_true, if_false, List.mem_cons, h2, false_or]
      rw [← ih]
      by_cases h3 : Lib.indexByte t c = -1
      · rw [if_pos (by simpa using h3), h3]
      · rw [if_neg (by simpa using h3)]
        constructor <;> intro h4 <;> omega

theorem pair_eq (a b : UInt8) : pairB a b = ([a, b] == [61, 61] || ([a, b] == [33, 61] || ([a, b] == [60, 61] || ([a, b] == [62, 61] || ([a, b] == [38, 38] || ([a, b] == [124, 124] || ([a, b] == [60, 60] || [a, b] == [62, 62]))))))) := by
  rw [Bool.eq_iff_iff]
  by_cases hb : b = 61
  · subst hb; simp [pairB, or_assoc]
  · simp [pairB, hb]
    constructor
    · rintro ⟨rfl, h⟩; simpa [or_assoc] using h
    · rintro (⟨rfl, rfl⟩ | ⟨rfl, rfl⟩ | ⟨rfl, rfl⟩ | ⟨rfl, rfl⟩) <;> simp

theorem sign_two (a b : UInt8) (t : List UInt8) : (signSize (a :: b :: t) : Int) = if pairB a b = true then 2 else if (0 : Int) ≤ Lib.indexByte signsL a then 1 else 0 := by
  have hm := index_mem a signsL
  by_cases h : pairB a b = true
  · rw [if_pos h]; simp [signSize, h]
  · rw [if_neg h]
    by_cases h2 : a ∈ signsL
    · rw [if_pos (hm.2 h2)]; simp [signSize, h, h2]
    · rw [if_neg (fun e => h2 (hm.1 e))]; simp [signSize, h, h2]
theorem sign_one (a : UInt8) : (signSize [a] : Int) = if (0 : Int) ≤ Lib.indexByte signsL a then 1 else 0 := by
  have hm := index_mem a signsL
  by_cases h2 : a ∈ signsL
  · rw [if_pos (hm.2 h2)]; simp [signSize, h2]
  · rw [if_neg (fun e => h2 (hm.1 e))]; simp [signSize, h2]

set_option maxRecDepth 100000 in
set_option maxHeartbeats 800000 in
theorem signSize_any (X : ByteArray) (h0 : 0 < X.size) (hs : X.size ≤ 20000) (w : World) :
    Calls Tryz.prog 83 #[.string X] w fun e w' => e = .returned (.int .i64 (signSize (Bs X) : Int)) ∧ w = w' := by
  by_cases h1 : 1 < X.size
  · have hB : Bs X = X[0] :: X[1] :: (Bs X).drop 2 := by
      have a := getElem_drop X 0 h0
      have b := getElem_drop X 1 h1
      rw [List.drop_zero] at a
      rw [a, b]
      simp
    have hE : (X.extract 0 2).toList = [X[0], X[1]] := by
      rw [Lib.extract_toList, List.drop_zero]
      show (Bs X).take (2 - 0) = _
      rw [hB]; rfl
    have HB := Lib.hid (And.intro hB hE)
    clear hB hE
    go_enter Tryz.func83, Tryz.ntmps83
    go_wp2_with (go_at_call 98; refine (Tryz.strings_IndexByte _ _ _).mono ?_; rintro e w' ⟨rfl, rfl⟩)
    all_goals
      go_ret
      refine ⟨ret_int ?_, rfl⟩
      rw [HB.out.1, sign_two, pair_eq, ← HB.out.2]
      by_cases hq : (0 : Int) ≤ Lib.indexByte signsL X[0]
      · rw [if_pos hq]; unfold signsL at hq; first | (simp_all; done) | (exfalso; omega)
      · rw [if_neg hq]; unfold signsL at hq; first | (simp_all; done) | (exfalso; omega)
  · have hB : Bs X = [X[0]] := by
      have a := getElem_drop X 0 h0
      rw [List.drop_zero] at a
      rw [a, List.drop_of_length_le (by rw [bs_length]; omega)]
    have HB := Lib.hid hB
    clear hB
    go_enter Tryz.func83, Tryz.ntmps83
    go_wp2_with (go_at_call 98; refine (Tryz.strings_IndexByte _ _ _).mono ?_; rintro e w' ⟨rfl, rfl⟩)
    all_goals
      go_ret
      refine ⟨ret_int ?_, rfl⟩
      rw [HB.out, sign_one]
      by_cases hq : (0 : Int) ≤ Lib.indexByte signsL X[0]
      · rw [if_pos hq] <;> (unfold signsL at hq; exfalso; omega)
      · rw [if_neg hq] <;> (unfold signsL at hq; exfalso; omega)
end Go.Proofs.YtcgllooeimacdaaGreatDoor
