/-
  Plain laws of the scan of tokens that are written anew with gaps between. No program is named here.
-/
import Derived.Test.YtdglkfdacajalaaDoorPlain4
namespace Go.Proofs.YtdglkfdacajalaaDoor.Lx

/-- What stands behind a token. -/
def gapL (n : Nat) : List UInt8 := if n = 0 then [32] else if n = 1 then [10] else if n = 2 then [9, 32, 13] else [32, 35, 32, 97, 32, 98, 32, 48, 48, 32, 33, 10]

theorem gap_head (n : Nat) : ∃ z g, gapL n = z :: g ∧ stopB z = true := by
  unfold gapL
  split
  · exact ⟨_, _, rfl, rfl⟩
  · split
    · exact ⟨_, _, rfl, rfl⟩
    · split
      · exact ⟨_, _, rfl, rfl⟩
      · exact ⟨_, _, rfl, rfl⟩

theorem gap_len (n : Nat) : (gapL n).length ≤ 12 := by
  unfold gapL
  split
  · simp
  · split
    · simp
    · split <;> simp

theorem gap_res (n p : Nat) (R : List UInt8) : res p (gapL n ++ R) = res (p + (gapL n).length) R := by
  unfold gapL
  split
  · exact res_blank rfl
  · split
    · exact res_blank rfl
    · split
      · show res p (9 :: 32 :: 13 :: R) = res (p + 3) R
        rw [res_blank rfl, res_blank rfl, res_blank rfl]
      · show res p (32 :: 35 :: 32 :: 97 :: 32 :: 98 :: 32 :: 48 :: 48 :: 32 :: 33 :: 10 :: R) = res (p + 12) R
        rw [res_blank rfl, res_remark rfl]
        have e1 : (32 :: 97 :: 32 :: 98 :: 32 :: 48 :: 48 :: 32 :: 33 :: 10 :: R).takeWhile (· != 10) = [32, 97, 32, 98, 32, 48, 48, 32, 33] := takeWhile_stop (· != 10) 10 R rfl [32, 97, 32, 98, 32, 48, 48, 32, 33]
        have e2 : (32 :: 97 :: 32 :: 98 :: 32 :: 48 :: 48 :: 32 :: 33 :: 10 :: R).dropWhile (· != 10) = 10 :: R := dropWhile_stop (· != 10) 10 R rfl [32, 97, 32, 98, 32, 48, 48, 32, 33]
        rw [e1, e2, res_blank rfl]
        rfl

theorem tw_self (P : UInt8 → Bool) (l : List UInt8) : (l.takeWhile P).takeWhile P = l.takeWhile P ∧ (l.takeWhile P).dropWhile P = [] := by
  have hall : ∀ c ∈ l.takeWhile P, P c = true := by
    have := List.all_takeWhile (p := P) (l := l)
    exact List.all_eq_true.1 this
  have h1 := takeWhile_append P (l.takeWhile P) [] hall
  have h2 := dropWhile_append P (l.takeWhile P) [] hall
  rw [List.append_nil] at h1 h2
  exact ⟨by rw [h1]; simp, by rw [h2]; rfl⟩

/-- A token's own text is that token. -/
theorem tok_self {pos : Nat} {c : UInt8} {t : List UInt8} {k : Tok} (p : Nat) (h : tokL pos (c :: t) = .ok k) : ∃ u, k.text = c :: u ∧ tokL p (c :: u) = .ok ⟨k.kind, p, k.text, k.num⟩ := by
  by_cases hs : smallB c = true
  · have hn : nameB c = true := by simp [nameB, hs]
    have hs2 := tw_self nameB (c :: t)
    rw [tokL, if_pos hs] at h
    split at h
    · cases h
    · rename_i hl
      cases h
      refine ⟨t.takeWhile nameB, by simp [hn], ?_⟩
      have e : c :: t.takeWhile nameB = (c :: t).takeWhile nameB := by simp [hn]
      rw [tokL, if_pos hs, e, hs2.1, if_neg hl]
  · by_cases hd : digitB c = true
    · have hs2 := tw_self digitB (c :: t)
      rw [tokL, if_neg hs, if_pos hd] at h
      split at h
      · cases h
      · rename_i h1
        split at h
        · cases h
        · rename_i h2
          split at h
          · cases h
          · cases h
            refine ⟨t.takeWhile digitB, by simp [hd], ?_⟩
            have e : c :: t.takeWhile digitB = (c :: t).takeWhile digitB := by simp [hd]
            rw [tokL, if_neg hs, if_pos hd, e, hs2.1, hs2.2, if_neg h1, if_neg h2]
            rfl
    · rw [tokL, if_neg hs, if_neg hd] at h
      split at h
      · cases h
      · rename_i hz
        cases h
        match t, hz with
        | [], hz =>
          have h1 : signSize [c] = 1 := by have := (signSize_le [c]).1; simp at this; omega
          refine ⟨[], by rw [h1]; rfl, ?_⟩
          rw [tokL, if_neg hs, if_neg hd, if_neg hz]
        | b :: u, hz =>
          by_cases hp : pairB c b = true
          · have h1 : signSize (c :: b :: u) = 2 := by rw [signSize, if_pos hp]
            have h2 : signSize [c, b] = 2 := by rw [signSize, if_pos hp]
            refine ⟨[b], by rw [h1]; rfl, ?_⟩
            rw [tokL, if_neg hs, if_neg hd, h1, h2, if_neg (by omega)]
            rfl
          · have h1 : signSize (c :: b :: u) = if signsL.contains c then 1 else 0 := by rw [signSize, if_neg hp]
            have h2 : signSize [c] = if signsL.contains c then 1 else 0 := rfl
            have h3 : signsL.contains c = true := by
              rw [h1] at hz
              by_cases h : signsL.contains c = true
              · exact h
              · rw [if_neg h] at hz; simp at hz
            rw [if_pos h3] at h1 h2
            refine ⟨[], by rw [h1]; rfl, ?_⟩
            rw [tokL, if_neg hs, if_neg hd, h1, h2, if_neg (by omega)]
            rfl

/-- Tokens, the last of which is the end. -/
def Chain : List Tok → Prop
  | [] => False
  | t :: r => (t.text = [] ∧ t.kind = 0 ∧ t.num = 0 ∧ r = []) ∨ ((∃ pos c u, blankB c = false ∧ (c == 35) = false ∧ tokL pos (c :: u) = .ok t) ∧ Chain r)

theorem chain : ∀ (n pos : Nat) (l : List UInt8) (ts : List Tok), l.length ≤ n → res pos l = .ok ts → Chain ts := by
  intro n
  induction n with
  | zero =>
    intro pos l ts hn h
    have : l = [] := List.length_eq_zero_iff.1 (by omega)
    subst this
    cases h
    exact Or.inl ⟨rfl, rfl, rfl, rfl⟩
  | succ n ih =>
    intro pos l ts hn h
    have hs := res_skip _ l pos (Nat.le_refl _)
    rw [hs.1] at h
    cases hd : l.drop (skipF false l) with
    | nil =>
      rw [hd, res_nil] at h
      cases h
      exact Or.inl ⟨rfl, rfl, rfl, rfl⟩
    | cons c t =>
      obtain ⟨h1, h2⟩ := hs.2 c t hd
      rw [hd] at h
      cases ht : tokL (pos + skipF false l) (c :: t) with
      | error e => rw [res_error h1 h2 ht] at h; cases h
      | ok k =>
        rw [res_tok h1 h2 ht] at h
        obtain ⟨ts', hr, rfl⟩ := pre_ok h
        have hk := tokL_len ht
        have hlen : (c :: t).length ≤ l.length := by rw [← hd, List.length_drop]; omega
        exact Or.inr ⟨⟨_, c, t, h1, h2, ht⟩, ih _ _ _ (by rw [List.length_drop]; omega) hr⟩

/-- Tokens written anew, each with its gap behind it. -/
def joinF (gf : Nat → Nat) : Nat → List Tok → List UInt8
  | _, [] => []
  | i, t :: r => t.text ++ (gapL (gf i) ++ joinF gf (i + 1) r)

theorem joinF_snoc (gf : Nat → Nat) : ∀ (l : List Tok) (i : Nat) (t : Tok), joinF gf i (l ++ [t]) = joinF gf i l ++ (t.text ++ gapL (gf (i + l.length))) := by
  intro l
  induction l with
  | nil => intro i t; simp [joinF]
  | cons a r ih =>
    intro i t
    rw [List.cons_append]
    simp only [joinF]
    rw [ih, List.length_cons, show i + 1 + r.length = i + (r.length + 1) by omega]
    simp only [List.append_assoc]

theorem joinF_len (gf : Nat → Nat) (B : Nat) : ∀ (l : List Tok) (i : Nat), (∀ t ∈ l, t.text.length ≤ B) → (joinF gf i l).length ≤ l.length * (B + 12) := by
  intro l
  induction l with
  | nil => intro i _; simp [joinF]
  | cons a r ih =>
    intro i h
    have h1 := ih (i + 1) (fun t ht => h t (List.mem_cons_of_mem _ ht))
    have h2 := h a List.mem_cons_self
    have h3 := gap_len (gf i)
    simp only [joinF, List.length_append, List.length_cons]
    rw [Nat.add_mul]
    omega

def keyT (t : Tok) : Nat × List UInt8 × Nat := (t.kind, t.text, t.num)

theorem join_res (gf : Nat → Nat) : ∀ (ts : List Tok) (i p : Nat), Chain ts → ∃ ts', res p (joinF gf i ts) = .ok ts' ∧ ts'.map keyT = ts.map keyT := by
  intro ts
  induction ts with
  | nil => intro i p h; exact h.elim
  | cons k r ih =>
    intro i p h
    rcases h with ⟨h1, h2, h3, rfl⟩ | ⟨⟨pos, c, u, hb, h35, ht⟩, hr⟩
    · refine ⟨[⟨0, p + (gapL (gf i)).length, [], 0⟩], ?_, by simp [keyT, h1, h2, h3]⟩
      simp only [joinF, h1, List.nil_append]
      rw [gap_res, res_nil]
    · obtain ⟨v, hv, hself⟩ := tok_self p ht
      obtain ⟨z, g, hg, hz⟩ := gap_head (gf i)
      have hst := tokL_stop p z (g ++ joinF gf (i + 1) r) hz c v
      rw [hself] at hst
      obtain ⟨ts', hres, hmap⟩ := ih (i + 1) (p + k.text.length + (gapL (gf i)).length) hr
      refine ⟨⟨k.kind, p, k.text, k.num⟩ :: ts', ?_, by simp [keyT, hmap]⟩
      have e : joinF gf i (k :: r) = c :: (v ++ z :: (g ++ joinF gf (i + 1) r)) := by
        simp only [joinF, hv, hg, List.cons_append]
      rw [e, res_tok hb h35 hst]
      have e2 : (c :: (v ++ z :: (g ++ joinF gf (i + 1) r))).drop k.text.length = gapL (gf i) ++ joinF gf (i + 1) r := by
        rw [hv, hg, ← List.cons_append, List.drop_left (l₁ := c :: v)]
        rfl
      show pre _ (res (p + k.text.length) _) = _
      rw [e2, gap_res, hres]
      rfl

theorem scan_join {l : List UInt8} {ts : List Tok} (gf : Nat → Nat) (h : scan l = .ok ts) (hl : (joinF gf 0 ts).length ≤ 20000) : ∃ ts', scan (joinF gf 0 ts) = .ok ts' ∧ ts'.map keyT = ts.map keyT := by
  have hn := (scan_len h).2
  unfold scan at h ⊢
  rw [if_neg (by omega)] at h
  rw [if_neg (by omega)]
  exact join_res gf ts 0 0 (chain _ _ _ _ (Nat.le_refl _) h)

theorem placed_short (L : List UInt8) : ∀ (ts : List Tok) (q : Nat), Placed L q ts → ∀ t ∈ ts, t.text.length ≤ L.length := by
  intro ts
  induction ts with
  | nil => intro q h; exact h.elim
  | cons k r ih =>
    intro q h t ht
    obtain ⟨_, h2, _, _, h5⟩ := h
    rcases List.mem_cons.1 ht with rfl | ht
    · omega
    · rcases h5 with ⟨_, _, rfl⟩ | ⟨_, _, _, h5⟩
      · simp at ht
      · exact ih _ h5 t ht
end Go.Proofs.YtdglkfdacajalaaDoor.Lx
