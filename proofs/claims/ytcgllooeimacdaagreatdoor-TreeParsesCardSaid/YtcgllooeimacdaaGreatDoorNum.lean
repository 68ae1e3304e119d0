/-
  What the library's reading of a number comes to, where there are digits alone; and the reader's number.
-/
import Derived.Test.YtcgllooeimacdaaGreatDoorTok
import Derived.Lib.ParseIntB
namespace Go.Proofs.YtcgllooeimacdaaGreatDoor
open Go Go.RowKit Lx

theorem valueF_ge : ∀ (l : List UInt8) (n : Nat), n ≤ valueF n l := by
  intro l
  induction l with
  | nil => intro n; exact Nat.le_refl _
  | cons c t ih =>
    intro n
    have h1 : n ≤ 10 * n + (c.toNat - 48) := by omega
    exact Nat.le_trans h1 (ih (10 * n + (c.toNat - 48)))

theorem parseUintM_digits : ∀ (l : List UInt8) (acc : Nat), (∀ c ∈ l, digitB c = true) → acc ≤ 18446744073709551615 →
    Lib.parseUintM 18446744073709551615 acc l = if 18446744073709551615 < valueF acc l then .range else .ok (valueF acc l) := by
  intro l
  induction l with
  | nil => intro acc _ h; rw [show valueF acc [] = acc from rfl, if_neg (by omega)]; rfl
  | cons c t ih =>
    intro acc hd h
    have hc := (digitB_iff c).1 (hd c (by simp))
    have hg := valueF_ge t (10 * acc + (c.toNat - 48))
    have e : acc * 10 + (c.toNat - 48) = 10 * acc + (c.toNat - 48) := by omega
    rw [show valueF acc (c :: t) = valueF (10 * acc + (c.toNat - 48)) t from rfl]
    unfold Lib.parseUintM
    rw [if_pos hc, e]
    by_cases h1 : 1844674407370955162 ≤ acc
    · rw [if_pos h1, if_pos (by omega)]
    · rw [if_neg h1]
      by_cases h2 : 18446744073709551615 < 10 * acc + (c.toNat - 48)
      · rw [if_pos h2, if_pos (by omega)]
      · rw [if_neg h2]
        exact ih _ (fun c hc => hd c (by simp [hc])) (by omega)

theorem parseIntB_digits (c : UInt8) (t : List UInt8) (hd : ∀ x ∈ c :: t, digitB x = true) :
    Lib.parseIntB 64 (c :: t) = if 9223372036854775807 < valueF 0 (c :: t) then .range else .ok (valueF 0 (c :: t) : Int) := by
  have hc := (digitB_iff c).1 (hd c (by simp))
  have hu : Lib.parseUintB 64 (c :: t) = if 18446744073709551615 < valueF 0 (c :: t) then .range else .ok (valueF 0 (c :: t)) := by
    unfold Lib.parseUintB
    rw [if_neg (by simp)]
    exact parseUintM_digits (c :: t) 0 hd (by omega)
  unfold Lib.parseIntB
  simp only []
  rw [if_neg (show ¬ (c.toNat = 43 ∨ c.toNat = 45) by omega), hu]
  by_cases h1 : 18446744073709551615 < valueF 0 (c :: t)
  · rw [if_pos h1, if_pos (by omega)]
  · rw [if_neg h1]
    simp only []
    have hn : ¬ c.toNat = 45 := by omega
    by_cases h2 : 9223372036854775807 < valueF 0 (c :: t)
    · rw [if_pos h2, if_pos ⟨hn, by omega⟩]
    · rw [if_neg h2, if_neg (by omega), if_neg (by omega), if_neg hn]

theorem parse_ok (X : ByteArray) (hs : X.size ≤ 20000) (h0 : Bs X ≠ []) (hd : ∀ c ∈ Bs X, digitB c = true) (hv : valueF 0 (Bs X) ≤ 9223372036854775807) (w : World) :
    Calls Tryz.prog 81 #[.string X, .int .i64 10, .int .i64 64] w fun e w' => e = .returned (.tuple #[.int .i64 (valueF 0 (Bs X) : Int), .nilIface]) ∧ Below w.heap.size w w' := by
  have e : Lib.parseIntB 64 (Bs X) = .ok (valueF 0 (Bs X) : Int) := by
    cases hl : Bs X with
    | nil => exact absurd hl h0
    | cons c t =>
      rw [hl] at hd hv
      rw [parseIntB_digits c t hd, if_neg (by omega)]
  refine (Tryz.strconv_ParseInt_10_at64_ok X (by omega) _ e w).mono ?_
  rintro e w' ⟨rfl, h⟩
  refine ⟨rfl, ?_⟩
  rcases h with rfl | ⟨t, rfl⟩
  · exact Below.refl _ _
  · exact Lib.below_freeze (((Below.refl _ _).drew).alloc (Nat.le_refl _) _) (Nat.le_refl _) _

theorem parse_range (B : Nat) (X : ByteArray) (hs : X.size ≤ 20000) (hd : ∀ c ∈ Bs X, digitB c = true) (hv : 9223372036854775807 < valueF 0 (Bs X)) (w : World) (hT : Tabs B w) :
    Calls Tryz.prog 81 #[.string X, .int .i64 10, .int .i64 64] w fun e w' => (∃ n a, e = .returned (.tuple #[.int .i64 n, .iface 166 (.pointer (some a))])) ∧ Below w.heap.size w w' := by
  have e : Lib.parseIntB 64 (Bs X) = .range := by
    cases hl : Bs X with
    | nil =>
      rw [hl] at hv
      have h0 : valueF 0 [] = 0 := rfl
      rw [h0] at hv
      omega
    | cons c t =>
      rw [hl] at hd hv
      rw [parseIntB_digits c t hd, if_pos hv]
  obtain ⟨te, pe, hc⟩ := (hT w (Below.refl _ _)).2
  refine (Tryz.strconv_ParseInt_10_at64_range X (by omega) e _ w hc (Or.inr ⟨te, pe, rfl⟩)).mono ?_
  rintro e w' ⟨N, rfl, _, _, h⟩
  exact ⟨⟨_, _, rfl⟩, h⟩
end Go.Proofs.YtcgllooeimacdaaGreatDoor
