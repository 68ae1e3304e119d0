/-
  Plain laws of the scan of digits with one byte behind them. No program is named here.
-/
import Derived.Test.YtdglkfdacajalaaDoorPlain2
namespace Go.Proofs.YtdglkfdacajalaaDoor.Lx

theorem takeWhile_append (P : UInt8 → Bool) : ∀ (l r : List UInt8), (∀ c ∈ l, P c = true) → (l ++ r).takeWhile P = l ++ r.takeWhile P := by
  intro l
  induction l with
  | nil => intro r _; rfl
  | cons c t ih => intro r h; rw [List.cons_append, List.takeWhile_cons, if_pos (h c List.mem_cons_self), ih r (fun d hd => h d (List.mem_cons_of_mem _ hd))]; rfl
theorem dropWhile_append (P : UInt8 → Bool) : ∀ (l r : List UInt8), (∀ c ∈ l, P c = true) → (l ++ r).dropWhile P = r.dropWhile P := by
  intro l
  induction l with
  | nil => intro r _; rfl
  | cons c t ih => intro r h; rw [List.cons_append, List.dropWhile_cons, if_pos (h c List.mem_cons_self), ih r (fun d hd => h d (List.mem_cons_of_mem _ hd))]

theorem valueF_nil (n : Nat) : valueF n [] = n := rfl
theorem valueF_cons (n : Nat) (c : UInt8) (t : List UInt8) : valueF n (c :: t) = valueF (10 * n + (c.toNat - 48)) t := by
  have h : valueF n (c :: t) = valueF (10 * n + (c.toNat - 48)) t := rfl
  exact h
theorem valueF_append : ∀ (l r : List UInt8) (n : Nat), valueF n (l ++ r) = valueF (valueF n l) r := by
  intro l
  induction l with
  | nil => intro r n; rw [List.nil_append, valueF_nil]
  | cons c t ih => intro r n; rw [List.cons_append, valueF_cons, valueF_cons]; exact ih r _
theorem valueF_snoc (l : List UInt8) (n : Nat) (c : UInt8) : valueF n (l ++ [c]) = 10 * valueF n l + (c.toNat - 48) := by
  rw [valueF_append, valueF_cons, valueF_nil]

theorem digit_plain {c : UInt8} (h : digitB c = true) : blankB c = false ∧ (c == 35) = false ∧ smallB c = false := by
  have h3 : 48 ≤ c.toNat ∧ c.toNat ≤ 57 := by simpa [digitB, UInt8.le_iff_toNat_le] using h
  refine ⟨?_, ?_, ?_⟩
  · rw [Bool.eq_false_iff]; intro e
    simp only [blankB, Bool.or_eq_true, beq_iff_eq] at e
    rcases e with ((e | e) | e) | e <;> (subst e; simp at h3)
  · rw [Bool.eq_false_iff]; intro e
    have : c = 35 := by simpa using e
    subst this; simp at h3
  · rw [Bool.eq_false_iff]; intro e
    have : 97 ≤ c.toNat ∧ c.toNat ≤ 122 := by simpa [smallB, UInt8.le_iff_toNat_le] using e
    omega

/-- The token of a number with a byte behind it that is no digit. -/
theorem tok_digits (X : List UInt8) (b : UInt8) (hX : ∀ c ∈ X, digitB c = true) (hne : X ≠ []) (hb : digitB b = false) : tokL 0 (X ++ [b]) =
    if 9223372036854775807 < valueF 0 X then .error 2 else if X.head? = some 48 ∧ 1 < X.length then .error 4 else if letterB b then .error 4 else .ok ⟨3, 0, X, valueF 0 X⟩ := by
  match X, hne with
  | c :: t, _ =>
    have hc := digit_plain (hX c List.mem_cons_self)
    have tw : (c :: (t ++ [b])).takeWhile digitB = c :: t := by
      have := takeWhile_append digitB (c :: t) [b] hX
      rw [List.takeWhile_cons, if_neg (by rw [hb]; simp), List.append_nil] at this
      exact this
    have dw : (c :: (t ++ [b])).dropWhile digitB = [b] := by
      have := dropWhile_append digitB (c :: t) [b] hX
      rw [List.dropWhile_cons, if_neg (by rw [hb]; simp)] at this
      exact this
    rw [List.cons_append, tokL, if_neg (by rw [hc.2.2]; simp), if_pos (hX c List.mem_cons_self), tw, dw]
    simp only [List.head?_cons, Option.any_some, Option.some.injEq]
    by_cases h1 : 9223372036854775807 < valueF 0 (c :: t)
    · rw [if_pos h1, if_pos h1]
    · rw [if_neg h1, if_neg h1]
      by_cases h2 : c = 48 ∧ 1 < (c :: t).length
      · rw [if_pos h2, if_pos (by simp [h2.1]; simpa using h2.2)]
      · rw [if_neg h2, if_neg (by simp only [Bool.and_eq_true, beq_iff_eq, decide_eq_true_eq]; exact h2)]
        rfl

def NumRest (n : Nat) (X : List UInt8) (r : Res) : Prop := r = .error (n, 4) ∨ ∃ ts, r = .ok (⟨3, 0, X, valueF 0 X⟩ :: ts)

theorem scan_digits (X : List UInt8) (b : UInt8) (hX : ∀ c ∈ X, digitB c = true) (hne : X ≠ []) (hl : X.length ≤ 40) (hb : digitB b = false) :
    (9223372036854775807 < valueF 0 X → scan (X ++ [b]) = .error (0, 2)) ∧
    (valueF 0 X ≤ 9223372036854775807 → (X.head? = some 48 ∧ 1 < X.length) ∨ letterB b = true → scan (X ++ [b]) = .error (0, 4)) ∧
    (valueF 0 X ≤ 9223372036854775807 → ¬ (X.head? = some 48 ∧ 1 < X.length) → letterB b = false → NumRest X.length X (scan (X ++ [b]))) := by
  have ht := tok_digits X b hX hne hb
  have hs : scan (X ++ [b]) = res 0 (X ++ [b]) := by rw [scan, if_neg (by rw [List.length_append]; simp; omega)]
  have hd := dropWhile_append digitB X [b] hX
  match X, hne, hX with
  | c :: t, _, hX =>
    have hc := digit_plain (hX c List.mem_cons_self)
    rw [hs]
    refine ⟨fun h => ?_, fun h h2 => ?_, fun h h2 h3 => ?_⟩
    · rw [if_pos h] at ht
      exact res_error hc.1 hc.2.1 ht
    · rw [if_neg (by omega)] at ht
      rcases h2 with h2 | h2
      · rw [if_pos h2] at ht
        exact res_error hc.1 hc.2.1 ht
      · rw [if_pos h2] at ht
        split at ht
        · exact res_error hc.1 hc.2.1 ht
        · exact res_error hc.1 hc.2.1 ht
    · rw [if_neg (by omega), if_neg h2, if_neg (by rw [h3]; simp)] at ht
      rw [List.cons_append] at ht ⊢
      rw [res_tok hc.1 hc.2.1 ht]
      show NumRest _ _ (pre _ (res (0 + (c :: t).length) ((c :: (t ++ [b])).drop (c :: t).length)))
      have e : (c :: (t ++ [b])).drop (c :: t).length = [b] := List.drop_left (l₁ := c :: t) (l₂ := [b])
      rw [e, Nat.zero_add]
      by_cases b1 : blankB b = true
      · rw [res_blank b1, res_nil]; exact Or.inr ⟨_, rfl⟩
      · have b1' : blankB b = false := by simpa using b1
        by_cases b2 : (b == 35) = true
        · rw [res_remark b2]; exact Or.inr ⟨_, rfl⟩
        · have b2' : (b == 35) = false := by simpa using b2
          have hsm : smallB b = false := by
            unfold letterB at h3
            exact (Bool.or_eq_false_iff.1 h3).1
          have ht2 : tokL (c :: t).length [b] = if signSize [b] = 0 then .error 4 else .ok ⟨4, (c :: t).length, [b].take (signSize [b]), 0⟩ := by
            rw [tokL, if_neg (by rw [hsm]; simp), if_neg (by rw [hb]; simp)]
          by_cases hz : signSize [b] = 0
          · rw [if_pos hz] at ht2
            rw [res_error b1' b2' ht2]
            exact Or.inl rfl
          · rw [if_neg hz] at ht2
            rw [res_tok b1' b2' ht2]
            have h1 : signSize [b] = 1 := by have := (signSize_le [b]).1; simp at this; omega
            rw [h1]
            exact Or.inr ⟨_, rfl⟩
end Go.Proofs.YtdglkfdacajalaaDoor.Lx
