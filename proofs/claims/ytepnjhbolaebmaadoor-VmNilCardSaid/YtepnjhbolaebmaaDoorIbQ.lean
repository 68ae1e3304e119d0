/-
  The document's way of writing a number, plainly: when it goes on; and what is read.
-/
import Derived.Test.YtepnjhbolaebmaaDoorIbP
namespace Go.Proofs.YtepnjhbolaebmaaDoor
open Go
namespace Ib
/-- What is left of a number behind k bytes; its next byte. -/
def Nk (n : Int) (k : Nat) : Int := n / (256 ^ k : Nat)
def byteK (n : Int) (k : Nat) : Nat := u64 n / 256 ^ k % 256
theorem Nk_zero (n : Int) : Nk n 0 = n := by unfold Nk; simp
theorem Nk_succ (n : Int) (k : Nat) : Nk n (k + 1) = Nk n k / 256 := by
  unfold Nk
  rw [Int.ediv_ediv_of_nonneg (Int.natCast_nonneg _), Nat.pow_succ, Int.natCast_mul]
  rfl
theorem Nk_byte (n : Int) (k : Nat) (hk : k < 8) : Nk n k % 256 = (byteK n k : Int) := by
  unfold Nk byteK
  have hd : 256 ^ (k + 1) ∣ 18446744073709551616 := by
    rw [show (18446744073709551616 : Nat) = 256 ^ 8 by decide]
    exact Nat.pow_dvd_pow _ hk
  have h1 : ∀ m : Int, m / ((256 ^ k : Nat) : Int) % 256 = m % ((256 ^ (k + 1) : Nat) : Int) / ((256 ^ k : Nat) : Int) := fun m => by
    have hP : 0 < 256 ^ k := Nat.pow_pos (by decide)
    rw [Nat.pow_succ, Int.natCast_mul]
    obtain ⟨P, hPe⟩ : ∃ P : Int, P = ((256 ^ k : Nat) : Int) := ⟨_, rfl⟩
    rw [← hPe]
    have hP' : 0 < P := by omega
    have d1 := Int.mul_ediv_add_emod m (P * ((256 : Nat) : Int))
    have d2 := Int.emod_nonneg m (show P * ((256 : Nat) : Int) ≠ 0 by omega)
    have d3 := Int.emod_lt_of_pos m (show 0 < P * ((256 : Nat) : Int) by omega)
    obtain ⟨q, hq⟩ : ∃ q, q = m / (P * ((256 : Nat) : Int)) := ⟨_, rfl⟩
    obtain ⟨r, hr⟩ : ∃ r, r = m % (P * ((256 : Nat) : Int)) := ⟨_, rfl⟩
    rw [← hq, ← hr] at d1
    rw [← hr] at d2 d3 ⊢
    have e1 : m / P = ((256 : Nat) : Int) * q + r / P := by
      rw [← d1, Int.mul_assoc, Int.add_comm, Int.add_mul_ediv_left _ _ (by omega), Int.add_comm]
    have e2 : 0 ≤ r / P := Int.ediv_nonneg d2 (by omega)
    have e3 : r / P < 256 := Int.ediv_lt_of_lt_mul hP' (by rw [Int.mul_comm]; exact d3)
    rw [e1]
    omega
  rw [h1]
  have h2 : ((u64 n / 256 ^ k % 256 : Nat) : Int) = (u64 n : Int) / ((256 ^ k : Nat) : Int) % 256 := by rw [Int.natCast_emod, Int.natCast_ediv]; rfl
  rw [h2, h1]
  have h3 : (u64 n : Int) = n % 18446744073709551616 := by unfold u64; omega
  obtain ⟨D, hD⟩ := hd
  rw [h3, show (18446744073709551616 : Int) = ((256 ^ (k + 1) : Nat) : Int) * (D : Int) by rw [← Int.natCast_mul, ← hD]; rfl, Int.emod_emod_of_dvd _ ⟨_, rfl⟩]
theorem leB_byteK (n : Int) (k : Nat) : leB (u64 n) (k + 1) = leB (u64 n) k ++ [byteK n k] := leB_succ k _
theorem byteK_lt (n : Int) (k : Nat) : byteK n k < 256 := by unfold byteK; omega
/-- The document's condition for one byte more. -/
def Goes (n : Int) (sign : Bool) (k last : Nat) : Prop := (Nk n k ≠ 0 ∧ Nk n k ≠ -1) ∨ (Nk n k = -1 ∧ (k = 0 ∨ last < 128)) ∨ (Nk n k = 0 ∧ sign = true ∧ 0 < k ∧ 127 < last)
def lastK (n : Int) (k : Nat) : Nat := if k = 0 then 0 else byteK n (k - 1)
theorem Goes_iff {n : Int} {sign : Bool} {k : Nat} (h : In64 n) (hs : sign = false → 0 ≤ n) (hk : k ≤ 8) : Goes n sign k (lastK n k) ↔ k < nmK sign n := by
  unfold nmK
  cases sign with
  | false =>
    have h0 := hs rfl
    have e : u64 n = n.toNat := by unfold u64; unfold In64 at h; omega
    have h1 := sizeU_le (u64 n) k (u64_lt n) hk
    have hN : 0 ≤ Nk n k := Int.ediv_nonneg h0 (Int.natCast_nonneg _)
    have h2 : Nk n k = 0 ↔ u64 n < 256 ^ k := by
      unfold Nk
      obtain ⟨m, hm⟩ : ∃ m, m = u64 n := ⟨_, rfl⟩
      rw [← hm] at e ⊢
      rw [show n = (m : Int) by omega, ← Int.natCast_ediv]
      have : ((m / 256 ^ k : Nat) : Int) = 0 ↔ m / 256 ^ k = 0 := by omega
      rw [this, Nat.div_eq_zero_iff]
      have : 0 < 256 ^ k := Nat.pow_pos (by decide)
      omega
    simp only [Bool.false_eq_true, if_false]
    rw [← Nat.not_le, h1, ← h2]
    unfold Goes
    constructor
    · rintro (h | h | h)
      · exact h.1
      · omega
      · cases h.2.1
    · intro h; exact Or.inl ⟨h, by omega⟩
  | true =>
    have h1 := sizeS_le n k h hk
    simp only [if_true]
    rw [← Nat.not_le, h1]
    unfold Goes FitS
    cases k with
    | zero => rw [Nk_zero]; simp; omega
    | succ k =>
      rw [if_neg (by omega), Nk_succ, show lastK n (k + 1) = byteK n k from rfl]
      have hb := Nk_byte n k (by omega)
      have hq : 128 * 256 ^ k = 2 ^ (8 * (k + 1) - 1) := by rw [pow256', show 8 * (k + 1) - 1 = 7 + 8 * k by omega, Nat.pow_add]
      rw [← hq]
      have hP : 0 < 256 ^ k := Nat.pow_pos (by decide)
      have e : Nk n k = n / ((256 ^ k : Nat) : Int) := rfl
      have d1 := Int.mul_ediv_add_emod n ((256 ^ k : Nat) : Int)
      have d2 := Int.emod_nonneg n (show ((256 ^ k : Nat) : Int) ≠ 0 by omega)
      have d3 := Int.emod_lt_of_pos n (show (0 : Int) < ((256 ^ k : Nat) : Int) by omega)
      rw [← e] at d1
      obtain ⟨P, hP'⟩ : ∃ P : Int, P = ((256 ^ k : Nat) : Int) := ⟨_, rfl⟩
      obtain ⟨M, hM⟩ : ∃ M : Int, M = Nk n k := ⟨_, rfl⟩
      have hc : ((128 * 256 ^ k : Nat) : Int) = 128 * P := by rw [hP']; simp
      rw [← hP'] at d1 d2 d3
      rw [hc]
      rw [← hM] at d1 hb ⊢
      have hPp : 0 < P := by omega
      obtain ⟨R, hR⟩ : ∃ R, R = n % P := ⟨_, rfl⟩
      rw [← hR] at d1 d2 d3
      have k1 : -(128 * P) ≤ n ↔ -128 ≤ M := by
        constructor
        · intro h9
          by_cases h8 : M ≤ -129
          · have := Int.mul_le_mul_of_nonneg_left h8 (Int.le_of_lt hPp)
            omega
          · omega
        · intro h9
          have := Int.mul_le_mul_of_nonneg_left h9 (Int.le_of_lt hPp)
          omega
      have k2 : n < 128 * P ↔ M ≤ 127 := by
        constructor
        · intro h9
          by_cases h8 : 128 ≤ M
          · have := Int.mul_le_mul_of_nonneg_left h8 (Int.le_of_lt hPp)
            omega
          · omega
        · intro h9
          have := Int.mul_le_mul_of_nonneg_left h9 (Int.le_of_lt hPp)
          omega
      rw [k1, k2]
      simp only [Nat.succ_ne_zero, false_or, Nat.zero_lt_succ, true_and]
      omega

/-! What is read. -/
def wrap64 (n : Int) : Int := (n + 9223372036854775808) % 18446744073709551616 - 9223372036854775808
theorem wrap64_id {n : Int} (h : In64 n) : wrap64 n = n := by unfold wrap64; unfold In64 at h; omega
theorem wrap64_in (n : Int) : In64 (wrap64 n) := by unfold wrap64 In64; omega
theorem u64_wrap (n : Int) : u64 (wrap64 n) = u64 n := by unfold wrap64 u64; omega
theorem u64_nat {n : Nat} (h : n < 2 ^ 64) : u64 (n : Int) = n := by unfold u64; omega
theorem pow_le8 {k : Nat} (h : k ≤ 8) : 256 ^ k ≤ 18446744073709551616 := by
  rw [show (18446744073709551616 : Nat) = 256 ^ 8 by decide]
  exact Nat.pow_le_pow_right (by decide) h
theorem numD_in {sign : Bool} {l : List Nat} (hb : Byt l) (hl : l.length ≤ 8) : -9223372036854775808 ≤ numD sign l ∧ numD sign l < 18446744073709551616 := by
  have h1 := val_lt l hb
  have h2 := pow_le8 hl
  unfold numD
  split
  case isFalse => omega
  case isTrue h =>
    obtain ⟨_, hne, h3⟩ := h
    obtain ⟨m, x, rfl⟩ : ∃ m x, l = m ++ [x] := ⟨l.dropLast, l.getLast hne, (List.dropLast_concat_getLast hne).symm⟩
    simp only [List.getLastD_concat] at h3
    rw [val_append] at h1 ⊢
    simp only [val, List.length_append, List.length_singleton, Nat.mul_zero, Nat.add_zero] at h1 h2 ⊢
    rw [Nat.pow_succ] at h1 h2 ⊢
    have : 256 ^ m.length * 128 ≤ 256 ^ m.length * x := Nat.mul_le_mul_left _ h3
    omega
theorem leB_mod (n k : Nat) : leB (n % 256 ^ k) k = leB n k := by
  have h1 := leB_val (leB n k) (leB_byt k n)
  rw [val_leB, leB_len] at h1
  exact h1
theorem u64_numD {sign : Bool} {l : List Nat} (hb : Byt l) (hl : l.length ≤ 8) : leB (u64 (numD sign l)) l.length = l := by
  have h1 := leB_val l hb
  rw [← leB_mod]
  have h0 := val_lt l hb
  have : u64 (numD sign l) % 256 ^ l.length = val l := by
    have hd : 256 ^ l.length ∣ 18446744073709551616 := by
      rw [show (18446744073709551616 : Nat) = 256 ^ 8 by decide]
      exact Nat.pow_dvd_pow _ hl
    obtain ⟨D, hD⟩ := hd
    have e2 : (18446744073709551616 : Int) = ((256 ^ l.length : Nat) : Int) * (D : Int) := by rw [← Int.natCast_mul, ← hD]; rfl
    have e1 : ((u64 (numD sign l) % 256 ^ l.length : Nat) : Int) = numD sign l % ((256 ^ l.length : Nat) : Int) := by
      rw [Int.natCast_emod]
      have : (u64 (numD sign l) : Int) = numD sign l % 18446744073709551616 := by unfold u64; omega
      rw [this, e2, Int.emod_emod_of_dvd _ ⟨_, rfl⟩]
    have e3 : numD sign l % ((256 ^ l.length : Nat) : Int) = val l := by
      unfold numD
      split
      · rw [Int.sub_emod_right]
        exact Int.emod_eq_of_lt (by omega) (by omega)
      · exact Int.emod_eq_of_lt (by omega) (by omega)
    omega
  rw [this, h1]
theorem nmB_of {sign : Bool} {l : List Nat} (hb : Byt l) (hl : l.length ≤ 8) {n : Int} (hn : n = wrap64 (numD sign l)) (hk : nmK sign n = l.length) : nmB sign n = l.length :: l := by
  unfold nmB
  rw [hk, hn, u64_wrap, u64_numD hb hl]
end Ib
end Go.Proofs.YtepnjhbolaebmaaDoor
