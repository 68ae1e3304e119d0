/-
  Joined: Plain2, Plain3, Plain4, Plain5.
-/
import Derived.Test.YtcgllooeimacdaaGreatDoorPlain
/-! Plain laws of the scan, on lists of bytes: how many tokens a text has; what its tokens' texts are. No program is named here. -/

namespace Go.Proofs.YtcgllooeimacdaaGreatDoor.Lx

theorem resF_len : ∀ (n pos : Nat) (l : List UInt8) (ts : List Tok), resF n pos l = .ok ts → ts.length ≤ l.length + 1 := by
  intro n
  induction n with
  | zero => intro pos l ts h; cases h; simp
  | succ n ih =>
    intro pos l ts h
    match l with
    | [] => cases h; simp
    | c :: t =>
      simp only [resF] at h
      split at h
      · have := ih _ _ _ h; simp only [List.length_cons]; omega
      · split at h
        · have := ih _ _ _ h
          have := dropWhile_le (· != 10) t
          simp only [List.length_cons]; omega
        · split at h
          · cases h
          · rename_i k hk
            have h1 := tokL_len hk
            cases hr : resF n (pos + k.text.length) ((c :: t).drop k.text.length) with
            | error e => rw [hr] at h; cases h
            | ok l2 =>
              rw [hr] at h
              have h2 := ih _ _ _ hr
              cases h
              simp only [List.length_drop, List.length_cons] at h2 h1
              simp only [List.length_append, List.length_cons, List.length_nil]
              omega

theorem scan_len {l : List UInt8} {ts : List Tok} (h : scan l = .ok ts) : ts.length ≤ 20001 ∧ l.length ≤ 20000 := by
  unfold scan at h
  split at h
  · cases h
  · have := resF_len _ _ _ _ h
    omega
end Go.Proofs.YtcgllooeimacdaaGreatDoor.Lx

/-! Plain laws of the scan of digits with one byte behind them. No program is named here. -/

namespace Go.Proofs.YtcgllooeimacdaaGreatDoor.Lx

theorem takeWhile_append (P : UInt8 → Bool) : ∀ (l r : List UInt8), (∀ c ∈ l, P c = true) → (l ++ r).takeWhile P = l ++ r.takeWhile P := by
  intro l
  induction l with
  | nil => intro r _; rfl
  | cons c t ih => intro r h; rw [List.cons_append, List.takeWhile_cons, if_pos (h c List.mem_cons_self), ih r (fun d hd => h d (List.mem_cons_of_mem _ hd))]; rfl
theorem dropWhile_append (P : UInt8 → Bool) : ∀ (l r : List UInt8), (∀ c ∈ l, P c = true) → (l ++ r).dropWhile P = r.dropWhile P := by
  intro l
  induction l with
  | nil => intro r _; rfl
  | cons c t ih => intro r h; rw [List.cons_append, List.dropWhile_cons, if_pos (h c List.mem_cons_self), ih r (fun d hd => h d (List.mem_cons_of_mem _ hd))]

theorem valueF_nil (n : Nat) : valueF n [] = n := rfl
theorem valueF_cons (n : Nat) (c : UInt8) (t : List UInt8) : valueF n (c :: t) = valueF (10 * n + (c.toNat - 48)) t := by
  have h : valueF n (c :: t) = valueF (10 * n + (c.toNat - 48)) t := rfl
  exact h
theorem valueF_append : ∀ (l r : List UInt8) (n : Nat), valueF n (l ++ r) = valueF (valueF n l) r := by
  intro l
  induction l with
  | nil => intro r n; rw [List.nil_append, valueF_nil]
  | cons c t ih => intro r n; rw [List.cons_append, valueF_cons, valueF_cons]; exact ih r _
theorem valueF_snoc (l : List UInt8) (n : Nat) (c : UInt8) : valueF n (l ++ [c]) = 10 * valueF n l + (c.toNat - 48) := by
  rw [valueF_append, valueF_cons, valueF_nil]

theorem digit_plain {c : UInt8} (h : digitB c = true) : blankB c = false ∧ (c == 35) = false ∧ smallB c = false := by
  have h3 : 48 ≤ c.toNat ∧ c.toNat ≤ 57 := by simpa [digitB, UInt8.le_iff_toNat_le] using h
  refine ⟨?_, ?_, ?_⟩
  · rw [Bool.eq_false_iff]; intro e
    simp only [blankB, Bool.or_eq_true, beq_iff_eq] at e
    rcases e with ((e | e) | e) | e <;> (subst e; simp at h3)
  · rw [Bool.eq_false_iff]; intro e
    have : c = 35 := by simpa using e
    subst this; simp at h3
  · rw [Bool.eq_false_iff]; intro e
    have : 97 ≤ c.toNat ∧ c.toNat ≤ 122 := by simpa [smallB, UInt8.le_iff_toNat_le] using e
    omega

/-- The token of a number with a byte behind it that is no digit. -/
theorem tok_digits (X : List UInt8) (b : UInt8) (hX : ∀ c ∈ X, digitB c = true) (hne : X ≠ []) (hb : digitB b = false) : tokL 0 (X ++ [b]) =
    if 9223372036854775807 < valueF 0 X then .error 2 else if X.head? = some 48 ∧ 1 < X.length then .error 4 else if letterB b then .error 4 else .ok ⟨3, 0, X, valueF 0 X⟩ := by
  match X, hne with
  | c :: t, _ =>
    have hc := digit_plain (hX c List.mem_cons_self)
    have tw : (c :: (t ++ [b])).takeWhile digitB = c :: t := by
      have := takeWhile_append digitB (c :: t) [b] hX
      rw [List.takeWhile_cons, if_neg (by rw [hb]; simp), List.append_nil] at this
      exact this
    have dw : (c :: (t ++ [b])).dropWhile digitB = [b] := by
      have := dropWhile_append digitB (c :: t) [b] hX
      rw [List.dropWhile_cons, if_neg (by rw [hb]; simp)] at this
      exact this
    rw [List.cons_append, tokL, if_neg (by rw [hc.2.2]; simp), if_pos (hX c List.mem_cons_self), tw, dw]
    simp only [List.head?_cons, Option.any_some, Option.some.injEq]
    by_cases h1 : 9223372036854775807 < valueF 0 (c :: t)
    · rw [if_pos h1, if_pos h1]
    · rw [if_neg h1, if_neg h1]
      by_cases h2 : c = 48 ∧ 1 < (c :: t).length
      · rw [if_pos h2, if_pos (by simp [h2.1]; simpa using h2.2)]
      · rw [if_neg h2, if_neg (by simp only [Bool.and_eq_true, beq_iff_eq, decide_eq_true_eq]; exact h2)]
        rfl

def NumRest (n : Nat) (X : List UInt8) (r : Res) : Prop := r = .error (n, 4) ∨ ∃ ts, r = .ok (⟨3, 0, X, valueF 0 X⟩ :: ts)

theorem scan_digits (X : List UInt8) (b : UInt8) (hX : ∀ c ∈ X, digitB c = true) (hne : X ≠ []) (hl : X.length ≤ 40) (hb : digitB b = false) :
    (9223372036854775807 < valueF 0 X → scan (X ++ [b]) = .error (0, 2)) ∧
    (valueF 0 X ≤ 9223372036854775807 → (X.head? = some 48 ∧ 1 < X.length) ∨ letterB b = true → scan (X ++ [b]) = .error (0, 4)) ∧
    (valueF 0 X ≤ 9223372036854775807 → ¬ (X.head? = some 48 ∧ 1 < X.length) → letterB b = false → NumRest X.length X (scan (X ++ [b]))) := by
  have ht := tok_digits X b hX hne hb
  have hs : scan (X ++ [b]) = res 0 (X ++ [b]) := by rw [scan, if_neg (by rw [List.length_append]; simp; omega)]
  have hd := dropWhile_append digitB X [b] hX
  match X, hne, hX with
  | c :: t, _, hX =>
    have hc := digit_plain (hX c List.mem_cons_self)
    rw [hs]
    refine ⟨fun h => ?_, fun h h2 => ?_, fun h h2 h3 => ?_⟩
    · rw [if_pos h] at ht
      exact res_error hc.1 hc.2.1 ht
    · rw [if_neg (by omega)] at ht
      rcases h2 with h2 | h2
      · rw [if_pos h2] at ht
        exact res_error hc.1 hc.2.1 ht
      · rw [if_pos h2] at ht
        split at ht
        · exact res_error hc.1 hc.2.1 ht
        · exact res_error hc.1 hc.2.1 ht
    · rw [if_neg (by omega), if_neg h2, if_neg (by rw [h3]; simp)] at ht
      rw [List.cons_append] at ht ⊢
      rw [res_tok hc.1 hc.2.1 ht]
      show NumRest _ _ (pre _ (res (0 + (c :: t).length) ((c :: (t ++ [b])).drop (c :: t).length)))
      have e : (c :: (t ++ [b])).drop (c :: t).length = [b] := List.drop_left (l₁ := c :: t) (l₂ := [b])
      rw [e, Nat.zero_add]
      by_cases b1 : blankB b = true
      · rw [res_blank b1, res_nil]; exact Or.inr ⟨_, rfl⟩
      · have b1' : blankB b = false := by simpa using b1
        by_cases b2 : (b == 35) = true
        · rw [res_remark b2]; exact Or.inr ⟨_, rfl⟩
        · have b2' : (b == 35) = false := by simpa using b2
          have hsm : smallB b = false := by
            unfold letterB at h3
            exact (Bool.or_eq_false_iff.1 h3).1
          have ht2 : tokL (c :: t).length [b] = if signSize [b] = 0 then .error 4 else .ok ⟨4, (c :: t).length, [b].take (signSize [b]), 0⟩ := by
            rw [tokL, if_neg (by rw [hsm]; simp), if_neg (by rw [hb]; simp)]
          by_cases hz : signSize [b] = 0
          · rw [if_pos hz] at ht2
            rw [res_error b1' b2' ht2]
            exact Or.inl rfl
          · rw [if_neg hz] at ht2
            rw [res_tok b1' b2' ht2]
            have h1 : signSize [b] = 1 := by have := (signSize_le [b]).1; simp at this; omega
            rw [h1]
            exact Or.inr ⟨_, rfl⟩
end Go.Proofs.YtcgllooeimacdaaGreatDoor.Lx

/-! Plain laws of the scan: where tokens stand, what stands between them, what a line's end behind a text changes, and what a scan of tokens with gaps between comes to. No program is named here. -/

namespace Go.Proofs.YtcgllooeimacdaaGreatDoor.Lx

theorem skip_idem : ∀ (l : List UInt8) (r : Bool), skipF r (l.take (skipF r l)) = skipF r l := by
  intro l
  induction l with
  | nil => intro r; rfl
  | cons c t ih =>
    intro r
    by_cases h : ((c == 35 || (r && c != 10)) || blankB c) = true
    · have e : skipF r (c :: t) = 1 + skipF (c == 35 || (r && c != 10)) t := by simp only [skipF, h, if_true]
      rw [e, Nat.add_comm 1, List.take_succ_cons]
      simp only [skipF, h, if_true]
      rw [ih]; omega
    · have e : skipF r (c :: t) = 0 := by simp only [skipF]; rw [if_neg h]
      rw [e, List.take_zero]; rfl

/-- What a skip passes is no token. -/
theorem res_gap (l : List UInt8) (pos : Nat) : res pos (l.take (skipF false l)) = .ok [⟨0, pos + skipF false l, [], 0⟩] := by
  have h := (res_skip _ (l.take (skipF false l)) pos (Nat.le_refl _)).1
  rw [skip_idem] at h
  rw [h, List.drop_of_length_le (by rw [List.length_take]; omega), res_nil]

/-- The tokens from a place on. -/
def Placed (l : List UInt8) : Nat → List Tok → Prop
  | _, [] => False
  | q, t :: r => q ≤ t.pos ∧ t.pos + t.text.length ≤ l.length ∧ (l.drop t.pos).take t.text.length = t.text ∧ scan ((l.drop q).take (t.pos - q)) = .ok [⟨0, t.pos - q, [], 0⟩] ∧
    ((t.kind = 0 ∧ t.text = [] ∧ r = []) ∨ (t.kind ≠ 0 ∧ t.kind ≤ 4 ∧ t.text ≠ [] ∧ Placed l (t.pos + t.text.length) r))

theorem tokL_kind {pos : Nat} {l : List UInt8} {k : Tok} (h : tokL pos l = .ok k) : k.kind ≠ 0 ∧ k.kind ≤ 4 := by
  match l with
  | [] => simp [tokL] at h
  | c :: t =>
    rw [tokL] at h
    split at h
    · split at h
      · cases h
      · cases h; simp only; split <;> simp
    · split at h
      · split at h
        · cases h
        · split at h
          · cases h
          · split at h
            · cases h
            · cases h; simp
      · split at h
        · cases h
        · cases h; simp

theorem scan_gap (l : List UInt8) (hl : l.length ≤ 20000) : scan (l.take (skipF false l)) = .ok [⟨0, skipF false l, [], 0⟩] := by
  have := res_gap l 0
  rw [Nat.zero_add] at this
  rw [scan, if_neg (by rw [List.length_take]; omega), this]

theorem pre_ok {k : Tok} {r : Res} {ts : List Tok} (h : pre [k] r = .ok ts) : ∃ ts', r = .ok ts' ∧ ts = k :: ts' := by
  cases r with
  | error e => cases h
  | ok l => cases h; exact ⟨l, rfl, rfl⟩

theorem placed (L : List UInt8) (hL : L.length ≤ 20000) : ∀ (n pos : Nat) (ts : List Tok), L.length - pos ≤ n → pos ≤ L.length → res pos (L.drop pos) = .ok ts → Placed L pos ts := by
  intro n
  induction n with
  | zero =>
    intro pos ts hn hp h
    have : L.drop pos = [] := List.drop_of_length_le (by omega)
    rw [this, res_nil] at h
    cases h
    refine ⟨Nat.le_refl _, by simpa using hp, by simp, ?_, Or.inl ⟨rfl, rfl, rfl⟩⟩
    rw [Nat.sub_self, List.take_zero]; rfl
  | succ n ih =>
    intro pos ts hn hp h
    have hs := res_skip _ (L.drop pos) pos (Nat.le_refl _)
    have hle := skipF_le (L.drop pos) false
    rw [List.length_drop] at hle
    obtain ⟨m, hm⟩ : ∃ m, m = skipF false (L.drop pos) := ⟨_, rfl⟩
    have hg := scan_gap (L.drop pos) (by rw [List.length_drop]; omega)
    rw [← hm] at hs hle hg
    rw [List.drop_drop] at hs
    rw [hs.1] at h
    have hgap : ∀ q, q = pos + m → scan ((L.drop pos).take (q - pos)) = .ok [⟨0, q - pos, [], 0⟩] := by
      intro q hq
      rw [show q - pos = m by omega, hg]
    cases hd : L.drop (pos + m) with
    | nil =>
      have : L.length ≤ pos + m := by simpa using hd
      rw [hd, res_nil] at h
      cases h
      exact ⟨by show pos ≤ pos + m; omega, by show pos + m + 0 ≤ _; omega, by simp, hgap _ rfl, Or.inl ⟨rfl, rfl, rfl⟩⟩
    | cons c t =>
      obtain ⟨h1, h2⟩ := hs.2 c t hd
      rw [hd] at h
      cases ht : tokL (pos + m) (c :: t) with
      | error e => rw [res_error h1 h2 ht] at h; cases h
      | ok k =>
        rw [res_tok h1 h2 ht] at h
        obtain ⟨ts', hr, rfl⟩ := pre_ok h
        have hk := tokL_len ht
        have hkk := tokL_kind ht
        have hlen : (c :: t).length = L.length - (pos + m) := by rw [← hd, List.length_drop]
        rw [← hd, List.drop_drop] at hr
        have hrec := ih (pos + m + k.text.length) ts' (by omega) (by omega) hr
        refine ⟨by rw [hk.2.2.2]; omega, by rw [hk.2.2.2]; omega, ?_, by rw [hk.2.2.2]; exact hgap _ rfl, Or.inr ⟨hkk.1, hkk.2, ?_, ?_⟩⟩
        · rw [hk.2.2.2, hd]; exact hk.2.2.1.symm
        · intro e; rw [e] at hk; simp at hk
        · rw [hk.2.2.2]; exact hrec

theorem scan_placed {l : List UInt8} {ts : List Tok} (h : scan l = .ok ts) : Placed l 0 ts := by
  have hl := (scan_len h).2
  unfold scan at h
  rw [if_neg (by omega)] at h
  exact placed l hl l.length 0 ts (by omega) (Nat.zero_le _) (by simpa using h)

/-! A byte that ends every token. -/
def stopB (z : UInt8) : Bool := z == 32 || z == 10 || z == 9

theorem stop_is {z : UInt8} (h : stopB z = true) : nameB z = false ∧ digitB z = false ∧ letterB z = false ∧ (∀ a, pairB a z = false) ∧ blankB z = true := by
  unfold stopB at h
  rw [Bool.or_eq_true, Bool.or_eq_true, beq_iff_eq, beq_iff_eq, beq_iff_eq] at h
  rcases h with (rfl | rfl) | rfl
  all_goals
    refine ⟨rfl, rfl, rfl, ?_, rfl⟩
    intro a
    unfold pairB
    rw [if_neg (by decide), Bool.and_eq_false_iff]
  · by_cases e : a = 32
    · subst e; exact Or.inr rfl
    · exact Or.inl (by simpa using e)
  · by_cases e : a = 10
    · subst e; exact Or.inr rfl
    · exact Or.inl (by simpa using e)
  · by_cases e : a = 9
    · subst e; exact Or.inr rfl
    · exact Or.inl (by simpa using e)

theorem takeWhile_stop (P : UInt8 → Bool) (z : UInt8) (m : List UInt8) (hz : P z = false) : ∀ l : List UInt8, (l ++ z :: m).takeWhile P = l.takeWhile P := by
  intro l
  induction l with
  | nil => rw [List.nil_append, List.takeWhile_cons, if_neg (by rw [hz]; simp)]; rfl
  | cons c t ih =>
    rw [List.cons_append, List.takeWhile_cons, List.takeWhile_cons, ih]
theorem dropWhile_stop (P : UInt8 → Bool) (z : UInt8) (m : List UInt8) (hz : P z = false) : ∀ l : List UInt8, (l ++ z :: m).dropWhile P = l.dropWhile P ++ z :: m := by
  intro l
  induction l with
  | nil => rw [List.nil_append, List.dropWhile_cons, if_neg (by rw [hz]; simp)]; rfl
  | cons c t ih =>
    rw [List.cons_append, List.dropWhile_cons, List.dropWhile_cons, ih]
    split <;> rfl

theorem tokL_stop (pos : Nat) (z : UInt8) (m : List UInt8) (hz : stopB z = true) (c : UInt8) (t : List UInt8) : tokL pos (c :: (t ++ z :: m)) = tokL pos (c :: t) := by
  obtain ⟨z1, z2, z3, z4, z5⟩ := stop_is hz
  have t1 := takeWhile_stop nameB z m z1 (c :: t)
  have t2 := takeWhile_stop digitB z m z2 (c :: t)
  have t3 := dropWhile_stop digitB z m z2 (c :: t)
  rw [List.cons_append] at t1 t2 t3
  have hh : ((c :: t).dropWhile digitB ++ z :: m).head?.any letterB = ((c :: t).dropWhile digitB).head?.any letterB := by
    cases (c :: t).dropWhile digitB with
    | nil => simp [z3]
    | cons a b => rfl
  have hs : signSize (c :: (t ++ z :: m)) = signSize (c :: t) := by
    match t with
    | [] => simp only [List.nil_append, signSize, z4 c]; rfl
    | b :: t => rfl
  have hl := (signSize_le (c :: t)).1
  have hk : (c :: (t ++ z :: m)).take (signSize (c :: t)) = (c :: t).take (signSize (c :: t)) := by
    rw [← List.cons_append, List.take_append_of_le_length hl]
  rw [tokL, tokL, t1, t2, t3, hh, hs, hk]

/-- A line's end, and more, behind a text: the tokens that there were stay, but for the end. -/
theorem res_more (m : List UInt8) : ∀ (n pos : Nat) (l : List UInt8) (ts : List Tok), l.length ≤ n → res pos l = .ok ts → ∃ ts0 e p' l', ts = ts0 ++ [e] ∧ res pos (l ++ 10 :: m) = pre ts0 (res p' l') := by
  intro n
  induction n with
  | zero =>
    intro pos l ts hn h
    have : l = [] := List.length_eq_zero_iff.1 (by omega)
    subst this
    cases h
    exact ⟨[], _, _, _, rfl, (pre_nil _).symm⟩
  | succ n ih =>
    intro pos l ts hn h
    match l with
    | [] => cases h; exact ⟨[], _, _, _, rfl, (pre_nil _).symm⟩
    | c :: t =>
      simp only [List.length_cons] at hn
      rw [List.cons_append]
      by_cases h1 : blankB c = true
      · rw [res_blank h1] at h ⊢
        exact ih _ _ _ (by omega) h
      · have h1' : blankB c = false := by simpa using h1
        by_cases h2 : (c == 35) = true
        · rw [res_remark h2] at h ⊢
          have hd := dropWhile_le (· != 10) t
          rw [takeWhile_stop _ _ _ (by rfl), dropWhile_stop _ _ _ (by rfl)]
          exact ih _ _ _ (by omega) h
        · have h2' : (c == 35) = false := by simpa using h2
          have hst := tokL_stop pos 10 m (by rfl) c t
          cases ht : tokL pos (c :: t) with
          | error e => rw [res_error h1' h2' ht] at h; cases h
          | ok k =>
            rw [ht] at hst
            rw [res_tok h1' h2' ht] at h
            rw [res_tok h1' h2' hst]
            obtain ⟨ts', hr, rfl⟩ := pre_ok h
            have hk := tokL_len ht
            obtain ⟨ts0, e, p', l', rfl, hres⟩ := ih _ _ _ (by rw [List.length_drop]; simp only [List.length_cons]; omega) hr
            refine ⟨k :: ts0, e, p', l', rfl, ?_⟩
            rw [← List.cons_append, List.drop_append_of_le_length hk.2.1, hres, pre_pre]
            rfl

theorem res_some : ∀ (n pos : Nat) (l : List UInt8) (ts : List Tok), l.length ≤ n → res pos l = .ok ts → 0 < ts.length := by
  intro n pos l ts hn h
  obtain ⟨ts0, e, _, _, rfl, _⟩ := res_more [] n pos l ts hn h
  simp

theorem scan_more {l m : List UInt8} {ts : List Tok} (h : scan l = .ok ts) (hl : l.length + 1 + m.length ≤ 20000) : ∃ ts0 e, ts = ts0 ++ [e] ∧
    ((∃ pn, scan (l ++ 10 :: m) = .error pn) ∨ ∃ t1, 0 < t1.length ∧ scan (l ++ 10 :: m) = .ok (ts0 ++ t1)) := by
  unfold scan at h ⊢
  rw [if_neg (by omega)] at h
  rw [if_neg (by rw [List.length_append, List.length_cons]; omega)]
  obtain ⟨ts0, e, p', l', rfl, hres⟩ := res_more m l.length 0 l ts (Nat.le_refl _) h
  refine ⟨ts0, e, rfl, ?_⟩
  rw [hres]
  cases hr : res p' l' with
  | error pn => exact Or.inl ⟨pn, rfl⟩
  | ok t1 => exact Or.inr ⟨t1, res_some _ _ _ _ (Nat.le_refl _) hr, rfl⟩

theorem tokL_err {pos : Nat} {l : List UInt8} {e : Nat} (h : tokL pos l = .error e) : e = 2 ∨ e = 4 := by
  match l with
  | [] => rw [tokL] at h; cases h; simp
  | c :: t =>
    rw [tokL] at h
    split at h
    · split at h
      · cases h; simp
      · cases h
    · split at h
      · split at h
        · cases h; simp
        · split at h
          · cases h; simp
          · split at h
            · cases h; simp
            · cases h
      · split at h
        · cases h; simp
        · cases h

theorem resF_err : ∀ (n pos : Nat) (l : List UInt8) (p e : Nat), resF n pos l = .error (p, e) → e = 2 ∨ e = 4 := by
  intro n
  induction n with
  | zero => intro pos l p e h; cases h
  | succ n ih =>
    intro pos l p e h
    match l with
    | [] => cases h
    | c :: t =>
      simp only [resF] at h
      split at h
      · exact ih _ _ _ _ h
      · split at h
        · exact ih _ _ _ _ h
        · split at h
          · rename_i e' he
            cases h
            exact tokL_err he
          · rename_i k hk
            cases hr : resF n (pos + k.text.length) ((c :: t).drop k.text.length) with
            | error pe =>
              rw [hr] at h
              cases h
              exact ih _ _ _ _ hr
            | ok l2 => rw [hr] at h; cases h

theorem scan_err {l : List UInt8} {p e : Nat} (h : scan l = .error (p, e)) : e = 2 ∨ e = 4 := by
  unfold scan at h
  split at h
  · cases h; exact Or.inl rfl
  · exact resF_err _ _ _ _ _ h
end Go.Proofs.YtcgllooeimacdaaGreatDoor.Lx

/-! Plain laws of the scan of tokens that are written anew with gaps between. No program is named here. -/

namespace Go.Proofs.YtcgllooeimacdaaGreatDoor.Lx

/-- What stands behind a token. -/
def gapL (n : Nat) : List UInt8 := if n = 0 then [32] else if n = 1 then [10] else if n = 2 then [9, 32, 13] else [32, 35, 32, 97, 32, 98, 32, 48, 48, 32, 33, 10]

theorem gap_head (n : Nat) : ∃ z g, gapL n = z :: g ∧ stopB z = true := by
  unfold gapL
  split
  · exact ⟨_, _, rfl, rfl⟩
  · split
    · exact ⟨_, _, rfl, rfl⟩
    · split
      · exact ⟨_, _, rfl, rfl⟩
      · exact ⟨_, _, rfl, rfl⟩

theorem gap_len (n : Nat) : (gapL n).length ≤ 12 := by
  unfold gapL
  split
  · simp
  · split
    · simp
    · split <;> simp

theorem gap_res (n p : Nat) (R : List UInt8) : res p (gapL n ++ R) = res (p + (gapL n).length) R := by
  unfold gapL
  split
  · exact res_blank rfl
  · split
    · exact res_blank rfl
    · split
      · show res p (9 :: 32 :: 13 :: R) = res (p + 3) R
        rw [res_blank rfl, res_blank rfl, res_blank rfl]
      · show res p (32 :: 35 :: 32 :: 97 :: 32 :: 98 :: 32 :: 48 :: 48 :: 32 :: 33 :: 10 :: R) = res (p + 12) R
        rw [res_blank rfl, res_remark rfl]
        have e1 : (32 :: 97 :: 32 :: 98 :: 32 :: 48 :: 48 :: 32 :: 33 :: 10 :: R).takeWhile (· != 10) = [32, 97, 32, 98, 32, 48, 48, 32, 33] := takeWhile_stop (· != 10) 10 R rfl [32, 97, 32, 98, 32, 48, 48, 32, 33]
        have e2 : (32 :: 97 :: 32 :: 98 :: 32 :: 48 :: 48 :: 32 :: 33 :: 10 :: R).dropWhile (· != 10) = 10 :: R := dropWhile_stop (· != 10) 10 R rfl [32, 97, 32, 98, 32, 48, 48, 32, 33]
        rw [e1, e2, res_blank rfl]
        rfl

theorem tw_self (P : UInt8 → Bool) (l : List UInt8) : (l.takeWhile P).takeWhile P = l.takeWhile P ∧ (l.takeWhile P).dropWhile P = [] := by
  have hall : ∀ c ∈ l.takeWhile P, P c = true := by
    have := List.all_takeWhile (p := P) (l := l)
    exact List.all_eq_true.1 this
  have h1 := takeWhile_append P (l.takeWhile P) [] hall
  have h2 := dropWhile_append P (l.takeWhile P) [] hall
  rw [List.append_nil] at h1 h2
  exact ⟨by rw [h1]; simp, by rw [h2]; rfl⟩

/-- A token's own text is that token. -/
theorem tok_self {pos : Nat} {c : UInt8} {t : List UInt8} {k : Tok} (p : Nat) (h : tokL pos (c :: t) = .ok k) : ∃ u, k.text = c :: u ∧ tokL p (c :: u) = .ok ⟨k.kind, p, k.text, k.num⟩ := by
  by_cases hs : smallB c = true
  · have hn : nameB c = true := by simp [nameB, hs]
    have hs2 := tw_self nameB (c :: t)
    rw [tokL, if_pos hs] at h
    split at h
    · cases h
    · rename_i hl
      cases h
      refine ⟨t.takeWhile nameB, by simp [hn], ?_⟩
      have e : c :: t.takeWhile nameB = (c :: t).takeWhile nameB := by simp [hn]
      rw [tokL, if_pos hs, e, hs2.1, if_neg hl]
  · by_cases hd : digitB c = true
    · have hs2 := tw_self digitB (c :: t)
      rw [tokL, if_neg hs, if_pos hd] at h
      split at h
      · cases h
      · rename_i h1
        split at h
        · cases h
        · rename_i h2
          split at h
          · cases h
          · cases h
            refine ⟨t.takeWhile digitB, by simp [hd], ?_⟩
            have e : c :: t.takeWhile digitB = (c :: t).takeWhile digitB := by simp [hd]
            rw [tokL, if_neg hs, if_pos hd, e, hs2.1, hs2.2, if_neg h1, if_neg h2]
            rfl
    · rw [tokL, if_neg hs, if_neg hd] at h
      split at h
      · cases h
      · rename_i hz
        cases h
        match t, hz with
        | [], hz =>
          have h1 : signSize [c] = 1 := by have := (signSize_le [c]).1; simp at this; omega
          refine ⟨[], by rw [h1]; rfl, ?_⟩
          rw [tokL, if_neg hs, if_neg hd, if_neg hz]
        | b :: u, hz =>
          by_cases hp : pairB c b = true
          · have h1 : signSize (c :: b :: u) = 2 := by rw [signSize, if_pos hp]
            have h2 : signSize [c, b] = 2 := by rw [signSize, if_pos hp]
            refine ⟨[b], by rw [h1]; rfl, ?_⟩
            rw [tokL, if_neg hs, if_neg hd, h1, h2, if_neg (by omega)]
            rfl
          · have h1 : signSize (c :: b :: u) = if signsL.contains c then 1 else 0 := by rw [signSize, if_neg hp]
            have h2 : signSize [c] = if signsL.contains c then 1 else 0 := rfl
            have h3 : signsL.contains c = true := by
              rw [h1] at hz
              by_cases h : signsL.contains c = true
              · exact h
              · rw [if_neg h] at hz; simp at hz
            rw [if_pos h3] at h1 h2
            refine ⟨[], by rw [h1]; rfl, ?_⟩
            rw [tokL, if_neg hs, if_neg hd, h1, h2, if_neg (by omega)]
            rfl

/-- Tokens, the last of which is the end. -/
def Chain : List Tok → Prop
  | [] => False
  | t :: r => (t.text = [] ∧ t.kind = 0 ∧ t.num = 0 ∧ r = []) ∨ ((∃ pos c u, blankB c = false ∧ (c == 35) = false ∧ tokL pos (c :: u) = .ok t) ∧ Chain r)

theorem chain : ∀ (n pos : Nat) (l : List UInt8) (ts : List Tok), l.length ≤ n → res pos l = .ok ts → Chain ts := by
  intro n
  induction n with
  | zero =>
    intro pos l ts hn h
    have : l = [] := List.length_eq_zero_iff.1 (by omega)
    subst this
    cases h
    exact Or.inl ⟨rfl, rfl, rfl, rfl⟩
  | succ n ih =>
    intro pos l ts hn h
    have hs := res_skip _ l pos (Nat.le_refl _)
    rw [hs.1] at h
    cases hd : l.drop (skipF false l) with
    | nil =>
      rw [hd, res_nil] at h
      cases h
      exact Or.inl ⟨rfl, rfl, rfl, rfl⟩
    | cons c t =>
      obtain ⟨h1, h2⟩ := hs.2 c t hd
      rw [hd] at h
      cases ht : tokL (pos + skipF false l) (c :: t) with
      | error e => rw [res_error h1 h2 ht] at h; cases h
      | ok k =>
        rw [res_tok h1 h2 ht] at h
        obtain ⟨ts', hr, rfl⟩ := pre_ok h
        have hk := tokL_len ht
        have hlen : (c :: t).length ≤ l.length := by rw [← hd, List.length_drop]; omega
        exact Or.inr ⟨⟨_, c, t, h1, h2, ht⟩, ih _ _ _ (by rw [List.length_drop]; omega) hr⟩

/-- Tokens written anew, each with its gap behind it. -/
def joinF (gf : Nat → Nat) : Nat → List Tok → List UInt8
  | _, [] => []
  | i, t :: r => t.text ++ (gapL (gf i) ++ joinF gf (i + 1) r)

theorem joinF_snoc (gf : Nat → Nat) : ∀ (l : List Tok) (i : Nat) (t : Tok), joinF gf i (l ++ [t]) = joinF gf i l ++ (t.text ++ gapL (gf (i + l.length))) := by
  intro l
  induction l with
  | nil => intro i t; simp [joinF]
  | cons a r ih =>
    intro i t
    rw [List.cons_append]
    simp only [joinF]
    rw [ih, List.length_cons, show i + 1 + r.length = i + (r.length + 1) by omega]
    simp only [List.append_assoc]

theorem joinF_len (gf : Nat → Nat) (B : Nat) : ∀ (l : List Tok) (i : Nat), (∀ t ∈ l, t.text.length ≤ B) → (joinF gf i l).length ≤ l.length * (B + 12) := by
  intro l
  induction l with
  | nil => intro i _; simp [joinF]
  | cons a r ih =>
    intro i h
    have h1 := ih (i + 1) (fun t ht => h t (List.mem_cons_of_mem _ ht))
    have h2 := h a List.mem_cons_self
    have h3 := gap_len (gf i)
    simp only [joinF, List.length_append, List.length_cons]
    rw [Nat.add_mul]
    omega

def keyT (t : Tok) : Nat × List UInt8 × Nat := (t.kind, t.text, t.num)

theorem join_res (gf : Nat → Nat) : ∀ (ts : List Tok) (i p : Nat), Chain ts → ∃ ts', res p (joinF gf i ts) = .ok ts' ∧ ts'.map keyT = ts.map keyT := by
  intro ts
  induction ts with
  | nil => intro i p h; exact h.elim
  | cons k r ih =>
    intro i p h
    rcases h with ⟨h1, h2, h3, rfl⟩ | ⟨⟨pos, c, u, hb, h35, ht⟩, hr⟩
    · refine ⟨[⟨0, p + (gapL (gf i)).length, [], 0⟩], ?_, by simp [keyT, h1, h2, h3]⟩
      simp only [joinF, h1, List.nil_append]
      rw [gap_res, res_nil]
    · obtain ⟨v, hv, hself⟩ := tok_self p ht
      obtain ⟨z, g, hg, hz⟩ := gap_head (gf i)
      have hst := tokL_stop p z (g ++ joinF gf (i + 1) r) hz c v
      rw [hself] at hst
      obtain ⟨ts', hres, hmap⟩ := ih (i + 1) (p + k.text.length + (gapL (gf i)).length) hr
      refine ⟨⟨k.kind, p, k.text, k.num⟩ :: ts', ?_, by simp [keyT, hmap]⟩
      have e : joinF gf i (k :: r) = c :: (v ++ z :: (g ++ joinF gf (i + 1) r)) := by
        simp only [joinF, hv, hg, List.cons_append]
      rw [e, res_tok hb h35 hst]
      have e2 : (c :: (v ++ z :: (g ++ joinF gf (i + 1) r))).drop k.text.length = gapL (gf i) ++ joinF gf (i + 1) r := by
        rw [hv, hg, ← List.cons_append, List.drop_left (l₁ := c :: v)]
        rfl
      show pre _ (res (p + k.text.length) _) = _
      rw [e2, gap_res, hres]
      rfl

theorem scan_join {l : List UInt8} {ts : List Tok} (gf : Nat → Nat) (h : scan l = .ok ts) (hl : (joinF gf 0 ts).length ≤ 20000) : ∃ ts', scan (joinF gf 0 ts) = .ok ts' ∧ ts'.map keyT = ts.map keyT := by
  have hn := (scan_len h).2
  unfold scan at h ⊢
  rw [if_neg (by omega)] at h
  rw [if_neg (by omega)]
  exact join_res gf ts 0 0 (chain _ _ _ _ (Nat.le_refl _) h)

theorem placed_short (L : List UInt8) : ∀ (ts : List Tok) (q : Nat), Placed L q ts → ∀ t ∈ ts, t.text.length ≤ L.length := by
  intro ts
  induction ts with
  | nil => intro q h; exact h.elim
  | cons k r ih =>
    intro q h t ht
    obtain ⟨_, h2, _, _, h5⟩ := h
    rcases List.mem_cons.1 ht with rfl | ht
    · omega
    · rcases h5 with ⟨_, _, rfl⟩ | ⟨_, _, _, h5⟩
      · simp at ht
      · exact ih _ h5 t ht
end Go.Proofs.YtcgllooeimacdaaGreatDoor.Lx
