/-
  Plain laws of the scan: where tokens stand, what stands between them, what a line's end behind a text changes, and what a scan of tokens with gaps between comes to. No program is named here.
-/
import Derived.Test.YtdglkfdacajalaaDoorPlain3
namespace Go.Proofs.YtdglkfdacajalaaDoor.Lx

theorem skip_idem : ∀ (l : List UInt8) (r : Bool), skipF r (l.take (skipF r l)) = skipF r l := by
  intro l
  induction l with
  | nil => intro r; rfl
  | cons c t ih =>
    intro r
    by_cases h : ((c == 35 || (r && c != 10)) || blankB c) = true
    · have e : skipF r (c :: t) = 1 + skipF (c == 35 || (r && c != 10)) t := by simp only [skipF, h, if_true]
      rw [e, Nat.add_comm 1, List.take_succ_cons]
      simp only [skipF, h, if_true]
      rw [ih]; omega
    · have e : skipF r (c :: t) = 0 := by simp only [skipF]; rw [if_neg h]
      rw [e, List.take_zero]; rfl

/-- What a skip passes is no token. -/
theorem res_gap (l : List UInt8) (pos : Nat) : res pos (l.take (skipF false l)) = .ok [⟨0, pos + skipF false l, [], 0⟩] := by
  have h := (res_skip _ (l.take (skipF false l)) pos (Nat.le_refl _)).1
  rw [skip_idem] at h
  rw [h, List.drop_of_length_le (by rw [List.length_take]; omega), res_nil]

/-- The tokens from a place on. -/
def Placed (l : List UInt8) : Nat → List Tok → Prop
  | _, [] => False
  | q, t :: r => q ≤ t.pos ∧ t.pos + t.text.length ≤ l.length ∧ (l.drop t.pos).take t.text.length = t.text ∧ scan ((l.drop q).take (t.pos - q)) = .ok [⟨0, t.pos - q, [], 0⟩] ∧
    ((t.kind = 0 ∧ t.text = [] ∧ r = []) ∨ (t.kind ≠ 0 ∧ t.kind ≤ 4 ∧ t.text ≠ [] ∧ Placed l (t.pos + t.text.length) r))

theorem tokL_kind {pos : Nat} {l : List UInt8} {k : Tok} (h : tokL pos l = .ok k) : k.kind ≠ 0 ∧ k.kind ≤ 4 := by
  match l with
  | [] => simp [tokL] at h
  | c :: t =>
    rw [tokL] at h
    split at h
    · split at h
      · cases h
      · cases h; simp only; split <;> simp
    · split at h
      · split at h
        · cases h
        · split at h
          · cases h
          · split at h
            · cases h
            · cases h; simp
      · split at h
        · cases h
        · cases h; simp

theorem scan_gap (l : List UInt8) (hl : l.length ≤ 20000) : scan (l.take (skipF false l)) = .ok [⟨0, skipF false l, [], 0⟩] := by
  have := res_gap l 0
  rw [Nat.zero_add] at this
  rw [scan, if_neg (by rw [List.length_take]; omega), this]

theorem pre_ok {k : Tok} {r : Res} {ts : List Tok} (h : pre [k] r = .ok ts) : ∃ ts', r = .ok ts' ∧ ts = k :: ts' := by
  cases r with
  | error e => cases h
  | ok l => cases h; exact ⟨l, rfl, rfl⟩

theorem placed (L : List UInt8) (hL : L.length ≤ 20000) : ∀ (n pos : Nat) (ts : List Tok), L.length - pos ≤ n → pos ≤ L.length → res pos (L.drop pos) = .ok ts → Placed L pos ts := by
  intro n
  induction n with
  | zero =>
    intro pos ts hn hp h
    have : L.drop pos = [] := List.drop_of_length_le (by omega)
    rw [this, res_nil] at h
    cases h
    refine ⟨Nat.le_refl _, by simpa using hp, by simp, ?_, Or.inl ⟨rfl, rfl, rfl⟩⟩
    rw [Nat.sub_self, List.take_zero]; rfl
  | succ n ih =>
    intro pos ts hn hp h
    have hs := res_skip _ (L.drop pos) pos (Nat.le_refl _)
    have hle := skipF_le (L.drop pos) false
    rw [List.length_drop] at hle
    obtain ⟨m, hm⟩ : ∃ m, m = skipF false (L.drop pos) := ⟨_, rfl⟩
    have hg := scan_gap (L.drop pos) (by rw [List.length_drop]; omega)
    rw [← hm] at hs hle hg
    rw [List.drop_drop] at hs
    rw [hs.1] at h
    have hgap : ∀ q, q = pos + m → scan ((L.drop pos).take (q - pos)) = .ok [⟨0, q - pos, [], 0⟩] := by
      intro q hq
      rw [show q - pos = m by omega, hg]
    cases hd : L.drop (pos + m) with
    | nil =>
      have : L.length ≤ pos + m := by simpa using hd
      rw [hd, res_nil] at h
      cases h
      exact ⟨by show pos ≤ pos + m; omega, by show pos + m + 0 ≤ _; omega, by simp, hgap _ rfl, Or.inl ⟨rfl, rfl, rfl⟩⟩
    | cons c t =>
      obtain ⟨h1, h2⟩ := hs.2 c t hd
      rw [hd] at h
      cases ht : tokL (pos + m) (c :: t) with
      | error e => rw [res_error h1 h2 ht] at h; cases h
      | ok k =>
        rw [res_tok h1 h2 ht] at h
        obtain ⟨ts', hr, rfl⟩ := pre_ok h
        have hk := tokL_len ht
        have hkk := tokL_kind ht
        have hlen : (c :: t).length = L.length - (pos + m) := by rw [← hd, List.length_drop]
        rw [← hd, List.drop_drop] at hr
        have hrec := ih (pos + m + k.text.length) ts' (by omega) (by omega) hr
        refine ⟨by rw [hk.2.2.2]; omega, by rw [hk.2.2.2]; omega, ?_, by rw [hk.2.2.2]; exact hgap _ rfl, Or.inr ⟨hkk.1, hkk.2, ?_, ?_⟩⟩
        · rw [hk.2.2.2, hd]; exact hk.2.2.1.symm
        · intro e; rw [e] at hk; simp at hk
        · rw [hk.2.2.2]; exact hrec

theorem scan_placed {l : List UInt8} {ts : List Tok} (h : scan l = .ok ts) : Placed l 0 ts := by
  have hl := (scan_len h).2
  unfold scan at h
  rw [if_neg (by omega)] at h
  exact placed l hl l.length 0 ts (by omega) (Nat.zero_le _) (by simpa using h)

/-! A byte that ends every token. -/
def stopB (z : UInt8) : Bool := z == 32 || z == 10 || z == 9

theorem stop_is {z : UInt8} (h : stopB z = true) : nameB z = false ∧ digitB z = false ∧ letterB z = false ∧ (∀ a, pairB a z = false) ∧ blankB z = true := by
  unfold stopB at h
  rw [Bool.or_eq_true, Bool.or_eq_true, beq_iff_eq, beq_iff_eq, beq_iff_eq] at h
  rcases h with (rfl | rfl) | rfl
  all_goals
    refine ⟨rfl, rfl, rfl, ?_, rfl⟩
    intro a
    unfold pairB
    rw [if_neg (by decide), Bool.and_eq_false_iff]
  · by_cases e : a = 32
    · subst e; exact Or.inr rfl
    · exact Or.inl (by simpa using e)
  · by_cases e : a = 10
    · subst e; exact Or.inr rfl
    · exact Or.inl (by simpa using e)
  · by_cases e : a = 9
    · subst e; exact Or.inr rfl
    · exact Or.inl (by simpa using e)

theorem takeWhile_stop (P : UInt8 → Bool) (z : UInt8) (m : List UInt8) (hz : P z = false) : ∀ l : List UInt8, (l ++ z :: m).takeWhile P = l.takeWhile P := by
  intro l
  induction l with
  | nil => rw [List.nil_append, List.takeWhile_cons, if_neg (by rw [hz]; simp)]; rfl
  | cons c t ih =>
    rw [List.cons_append, List.takeWhile_cons, List.takeWhile_cons, ih]
theorem dropWhile_stop (P : UInt8 → Bool) (z : UInt8) (m : List UInt8) (hz : P z = false) : ∀ l : List UInt8, (l ++ z :: m).dropWhile P = l.dropWhile P ++ z :: m := by
  intro l
  induction l with
  | nil => rw [List.nil_append, List.dropWhile_cons, if_neg (by rw [hz]; simp)]; rfl
  | cons c t ih =>
    rw [List.cons_append, List.dropWhile_cons, List.dropWhile_cons, ih]
    split <;> rfl

theorem tokL_stop (pos : Nat) (z : UInt8) (m : List UInt8) (hz : stopB z = true) (c : UInt8) (t : List UInt8) : tokL pos (c :: (t ++ z :: m)) = tokL pos (c :: t) := by
  obtain ⟨z1, z2, z3, z4, z5⟩ := stop_is hz
  have t1 := takeWhile_stop nameB z m z1 (c :: t)
  have t2 := takeWhile_stop digitB z m z2 (c :: t)
  have t3 := dropWhile_stop digitB z m z2 (c :: t)
  rw [List.cons_append] at t1 t2 t3
  have hh : ((c :: t).dropWhile digitB ++ z :: m).head?.any letterB = ((c :: t).dropWhile digitB).head?.any letterB := by
    cases (c :: t).dropWhile digitB with
    | nil => simp [z3]
    | cons a b => rfl
  have hs : signSize (c :: (t ++ z :: m)) = signSize (c :: t) := by
    match t with
    | [] => simp only [List.nil_append, signSize, z4 c]; rfl
    | b :: t => rfl
  have hl := (signSize_le (c :: t)).1
  have hk : (c :: (t ++ z :: m)).take (signSize (c :: t)) = (c :: t).take (signSize (c :: t)) := by
    rw [← List.cons_append, List.take_append_of_le_length hl]
  rw [tokL, tokL, t1, t2, t3, hh, hs, hk]

/-- A line's end, and more, behind a text: the tokens that there were stay, but for the end. -/
theorem res_more (m : List UInt8) : ∀ (n pos : Nat) (l : List UInt8) (ts : List Tok), l.length ≤ n → res pos l = .ok ts → ∃ ts0 e p' l', ts = ts0 ++ [e] ∧ res pos (l ++ 10 :: m) = pre ts0 (res p' l') := by
  intro n
  induction n with
  | zero =>
    intro pos l ts hn h
    have : l = [] := List.length_eq_zero_iff.1 (by omega)
    subst this
    cases h
    exact ⟨[], _, _, _, rfl, (pre_nil _).symm⟩
  | succ n ih =>
    intro pos l ts hn h
    match l with
    | [] => cases h; exact ⟨[], _, _, _, rfl, (pre_nil _).symm⟩
    | c :: t =>
      simp only [List.length_cons] at hn
      rw [List.cons_append]
      by_cases h1 : blankB c = true
      · rw [res_blank h1] at h ⊢
        exact ih _ _ _ (by omega) h
      · have h1' : blankB c = false := by simpa using h1
        by_cases h2 : (c == 35) = true
        · rw [res_remark h2] at h ⊢
          have hd := dropWhile_le (· != 10) t
          rw [takeWhile_stop _ _ _ (by rfl), dropWhile_stop _ _ _ (by rfl)]
          exact ih _ _ _ (by omega) h
        · have h2' : (c == 35) = false := by simpa using h2
          have hst := tokL_stop pos 10 m (by rfl) c t
          cases ht : tokL pos (c :: t) with
          | error e => rw [res_error h1' h2' ht] at h; cases h
          | ok k =>
            rw [ht] at hst
            rw [res_tok h1' h2' ht] at h
            rw [res_tok h1' h2' hst]
            obtain ⟨ts', hr, rfl⟩ := pre_ok h
            have hk := tokL_len ht
            obtain ⟨ts0, e, p', l', rfl, hres⟩ := ih _ _ _ (by rw [List.length_drop]; simp only [List.length_cons]; omega) hr
            refine ⟨k :: ts0, e, p', l', rfl, ?_⟩
            rw [← List.cons_append, List.drop_append_of_le_length hk.2.1, hres, pre_pre]
            rfl

theorem res_some : ∀ (n pos : Nat) (l : List UInt8) (ts : List Tok), l.length ≤ n → res pos l = .ok ts → 0 < ts.length := by
  intro n pos l ts hn h
  obtain ⟨ts0, e, _, _, rfl, _⟩ := res_more [] n pos l ts hn h
  simp

theorem scan_more {l m : List UInt8} {ts : List Tok} (h : scan l = .ok ts) (hl : l.length + 1 + m.length ≤ 20000) : ∃ ts0 e, ts = ts0 ++ [e] ∧
    ((∃ pn, scan (l ++ 10 :: m) = .error pn) ∨ ∃ t1, 0 < t1.length ∧ scan (l ++ 10 :: m) = .ok (ts0 ++ t1)) := by
  unfold scan at h ⊢
  rw [if_neg (by omega)] at h
  rw [if_neg (by rw [List.length_append, List.length_cons]; omega)]
  obtain ⟨ts0, e, p', l', rfl, hres⟩ := res_more m l.length 0 l ts (Nat.le_refl _) h
  refine ⟨ts0, e, rfl, ?_⟩
  rw [hres]
  cases hr : res p' l' with
  | error pn => exact Or.inl ⟨pn, rfl⟩
  | ok t1 => exact Or.inr ⟨t1, res_some _ _ _ _ (Nat.le_refl _) hr, rfl⟩

theorem tokL_err {pos : Nat} {l : List UInt8} {e : Nat} (h : tokL pos l = .error e) : e = 2 ∨ e = 4 := by
  match l with
  | [] => rw [tokL] at h; cases h; simp
  | c :: t =>
    rw [tokL] at h
    split at h
    · split at h
      · cases h; simp
      · cases h
    · split at h
      · split at h
        · cases h; simp
        · split at h
          · cases h; simp
          · split at h
            · cases h; simp
            · cases h
      · split at h
        · cases h; simp
        · cases h

theorem resF_err : ∀ (n pos : Nat) (l : List UInt8) (p e : Nat), resF n pos l = .error (p, e) → e = 2 ∨ e = 4 := by
  intro n
  induction n with
  | zero => intro pos l p e h; cases h
  | succ n ih =>
    intro pos l p e h
    match l with
    | [] => cases h
    | c :: t =>
      simp only [resF] at h
      split at h
      · exact ih _ _ _ _ h
      · split at h
        · exact ih _ _ _ _ h
        · split at h
          · rename_i e' he
            cases h
            exact tokL_err he
          · rename_i k hk
            cases hr : resF n (pos + k.text.length) ((c :: t).drop k.text.length) with
            | error pe =>
              rw [hr] at h
              cases h
              exact ih _ _ _ _ hr
            | ok l2 => rw [hr] at h; cases h

theorem scan_err {l : List UInt8} {p e : Nat} (h : scan l = .error (p, e)) : e = 2 ∨ e = 4 := by
  unfold scan at h
  split at h
  · cases h; exact Or.inl rfl
  · exact resF_err _ _ _ _ _ h
end Go.Proofs.YtdglkfdacajalaaDoor.Lx
