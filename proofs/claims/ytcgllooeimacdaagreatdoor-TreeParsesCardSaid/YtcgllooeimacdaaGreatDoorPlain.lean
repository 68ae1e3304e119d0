/-
  Plain functions on lists of bytes: what a text's tokens are, byte by byte; and the laws by which both scanners' loops go on. No program is named here.
-/
namespace Go.Proofs.YtcgllooeimacdaaGreatDoor.Lx

def blankB (c : UInt8) : Bool := c == 32 || c == 9 || c == 10 || c == 13
def smallB (c : UInt8) : Bool := decide (97 ≤ c) && decide (c ≤ 122)
def digitB (c : UInt8) : Bool := decide (48 ≤ c) && decide (c ≤ 57)
def greatB (c : UInt8) : Bool := decide (65 ≤ c) && decide (c ≤ 90)
def letterB (c : UInt8) : Bool := smallB c || greatB c
def nameB (c : UInt8) : Bool := smallB c || digitB c

/-- The words of the language. -/
def wordsL : List (List UInt8) := [[102, 110], [108, 101, 116], [105, 102], [101, 108, 115, 101], [119, 104, 105, 108, 101], [114, 101, 116, 117, 114, 110], [112, 114, 105, 110, 116], [116, 114, 117, 101], [102, 97, 108, 115, 101], [114, 101, 97, 100], [108, 101, 110], [105, 110, 116], [98, 111, 111, 108], [97, 114, 114]]
def wordB (l : List UInt8) : Bool := wordsL.contains l

/-- The bytes with which a sign begins. -/
def signsL : List UInt8 := [40, 41, 123, 125, 91, 93, 44, 59, 58, 61, 60, 62, 43, 45, 42, 47, 37, 38, 124, 94, 33, 126]
def pairB (a b : UInt8) : Bool := if b == 61 then a == 61 || a == 33 || a == 60 || a == 62 else a == b && (a == 38 || a == 124 || a == 60 || a == 62)
/-- How many bytes the sign at the beginning has; 0: there is none. -/
def signSize : List UInt8 → Nat
  | [] => 0
  | [a] => if signsL.contains a then 1 else 0
  | a :: b :: _ => if pairB a b then 2 else if signsL.contains a then 1 else 0

structure Tok where
  kind : Nat
  pos : Nat
  text : List UInt8
  num : Nat
deriving DecidableEq

def valueF (n : Nat) : List UInt8 → Nat
  | [] => n
  | c :: t => valueF (10 * n + (c.toNat - 48)) t

/-- The token at the beginning of a text that isn't empty, and doesn't begin with a blank or a remark; or its error. -/
def tokL (pos : Nat) : List UInt8 → Except Nat Tok
  | [] => .error 4
  | c :: t =>
    if smallB c then
      if 12 < ((c :: t).takeWhile nameB).length then .error 2
      else .ok ⟨if wordB ((c :: t).takeWhile nameB) then 2 else 1, pos, (c :: t).takeWhile nameB, 0⟩
    else if digitB c then
      if 9223372036854775807 < valueF 0 ((c :: t).takeWhile digitB) then .error 2
      else if c == 48 && decide (1 < ((c :: t).takeWhile digitB).length) then .error 4
      else if ((c :: t).dropWhile digitB).head?.any letterB then .error 4
      else .ok ⟨3, pos, (c :: t).takeWhile digitB, valueF 0 ((c :: t).takeWhile digitB)⟩
    else if signSize (c :: t) = 0 then .error 4
    else .ok ⟨4, pos, (c :: t).take (signSize (c :: t)), 0⟩

abbrev Res := Except (Nat × Nat) (List Tok)
/-- Tokens ahead of what a scan comes to. -/
def pre (ts : List Tok) : Res → Res
  | .error e => .error e
  | .ok l => .ok (ts ++ l)

def resF : Nat → Nat → List UInt8 → Res
  | 0, _, _ => .ok []
  | _ + 1, pos, [] => .ok [⟨0, pos, [], 0⟩]
  | n + 1, pos, c :: t =>
    if blankB c then resF n (pos + 1) t
    else if c == 35 then resF n (pos + 1 + (t.takeWhile (· != 10)).length) (t.dropWhile (· != 10))
    else match tokL pos (c :: t) with
      | .error e => .error (pos, e)
      | .ok k => pre [k] (resF n (pos + k.text.length) ((c :: t).drop k.text.length))

/-- What the scan of a rest that stands at a place comes to. -/
def res (pos : Nat) (l : List UInt8) : Res := resF (l.length + 1) pos l
def scan (l : List UInt8) : Res := if 20000 < l.length then .error (0, 2) else res 0 l

theorem pre_nil (r : Res) : pre [] r = r := by cases r <;> rfl
theorem pre_pre (a b : List Tok) (r : Res) : pre a (pre b r) = pre (a ++ b) r := by cases r <;> simp [pre]

theorem signSize_le (l : List UInt8) : signSize l ≤ l.length ∧ signSize l ≤ 2 := by
  match l with
  | [] => simp [signSize]
  | [a] => simp only [signSize, List.length_cons, List.length_nil]; split <;> simp
  | a :: b :: t => simp only [signSize, List.length_cons]; split <;> (try split) <;> simp

theorem takeWhile_le (p : UInt8 → Bool) (l : List UInt8) : (l.takeWhile p).length ≤ l.length := by
  induction l with
  | nil => simp
  | cons c t ih => simp only [List.takeWhile_cons]; split <;> simp <;> omega

theorem drop_takeWhile (p : UInt8 → Bool) (l : List UInt8) : l.drop (l.takeWhile p).length = l.dropWhile p := by
  induction l with
  | nil => simp
  | cons c t ih => simp only [List.takeWhile_cons, List.dropWhile_cons]; split <;> simp_all

theorem dropWhile_le (p : UInt8 → Bool) (l : List UInt8) : (l.dropWhile p).length ≤ l.length := by
  rw [← drop_takeWhile]; simp

theorem tokL_len {pos : Nat} {l : List UInt8} {k : Tok} (h : tokL pos l = .ok k) : 0 < k.text.length ∧ k.text.length ≤ l.length ∧ k.text = l.take k.text.length ∧ k.pos = pos := by
  match l with
  | [] => simp [tokL] at h
  | c :: t =>
    have tw : ∀ p : UInt8 → Bool, p c = true → 0 < ((c :: t).takeWhile p).length ∧ ((c :: t).takeWhile p).length ≤ (c :: t).length ∧ (c :: t).takeWhile p = (c :: t).take ((c :: t).takeWhile p).length := by
      intro p hp
      refine ⟨by simp [hp], takeWhile_le _ _, ?_⟩
      exact List.prefix_iff_eq_take.1 (List.takeWhile_prefix p)
    by_cases hs : smallB c = true
    · have := tw nameB (by simp [nameB, hs])
      rw [tokL, if_pos hs] at h
      split at h
      · cases h
      · cases h; exact ⟨this.1, this.2.1, this.2.2, rfl⟩
    · rw [tokL, if_neg hs] at h
      by_cases hd : digitB c = true
      · have := tw digitB hd
        rw [if_pos hd] at h
        split at h
        · cases h
        · split at h
          · cases h
          · split at h
            · cases h
            · cases h; exact ⟨this.1, this.2.1, this.2.2, rfl⟩
      · rw [if_neg hd] at h
        split at h
        · cases h
        · rename_i hz
          have hl := signSize_le (c :: t)
          cases h
          have e : ((c :: t).take (signSize (c :: t))).length = signSize (c :: t) := by rw [List.length_take]; omega
          refine ⟨?_, ?_, ?_, rfl⟩
          · show 0 < ((c :: t).take (signSize (c :: t))).length
            omega
          · show ((c :: t).take (signSize (c :: t))).length ≤ _
            omega
          · show (c :: t).take (signSize (c :: t)) = (c :: t).take ((c :: t).take (signSize (c :: t))).length
            rw [e]

theorem resF_more : ∀ (n m pos : Nat) (l : List UInt8), l.length < n → l.length < m → resF n pos l = resF m pos l := by
  intro n
  induction n with
  | zero => intro m pos l h; omega
  | succ n ih =>
    intro m pos l hn hm
    match m, l with
    | 0, _ => omega
    | m + 1, [] => rfl
    | m + 1, c :: t =>
      simp only [List.length_cons] at hn hm
      simp only [resF]
      split
      · exact ih m _ _ (by omega) (by omega)
      · split
        · have := dropWhile_le (· != 10) t
          exact ih m _ _ (by omega) (by omega)
        · split
          · rfl
          · rename_i k hk
            have := tokL_len hk
            simp only [List.length_cons] at this
            rw [ih m _ _ (by simp only [List.length_drop, List.length_cons]; omega) (by simp only [List.length_drop, List.length_cons]; omega)]

theorem res_nil (pos : Nat) : res pos [] = .ok [⟨0, pos, [], 0⟩] := rfl
theorem res_blank {pos : Nat} {c : UInt8} {t : List UInt8} (h : blankB c = true) : res pos (c :: t) = res (pos + 1) t := by
  unfold res; simp only [resF, List.length_cons, h, if_true]
theorem res_remark {pos : Nat} {c : UInt8} {t : List UInt8} (h : (c == 35) = true) : res pos (c :: t) = res (pos + 1 + (t.takeWhile (· != 10)).length) (t.dropWhile (· != 10)) := by
  have hb : blankB c = false := by
    have : c = 35 := by simpa using h
    subst this; rfl
  unfold res
  simp only [resF, List.length_cons, hb, h, if_true, Bool.false_eq_true, if_false]
  have := dropWhile_le (· != 10) t
  exact resF_more _ _ _ _ (by omega) (by omega)
theorem res_error {pos e : Nat} {c : UInt8} {t : List UInt8} (h1 : blankB c = false) (h2 : (c == 35) = false) (h : tokL pos (c :: t) = .error e) : res pos (c :: t) = .error (pos, e) := by
  unfold res; simp only [resF, List.length_cons, h1, h2, Bool.false_eq_true, if_false, h]
theorem res_tok {pos : Nat} {k : Tok} {c : UInt8} {t : List UInt8} (h1 : blankB c = false) (h2 : (c == 35) = false) (h : tokL pos (c :: t) = .ok k) :
    res pos (c :: t) = pre [k] (res (pos + k.text.length) ((c :: t).drop k.text.length)) := by
  have := tokL_len h
  simp only [List.length_cons] at this
  unfold res
  simp only [resF, List.length_cons, h1, h2, Bool.false_eq_true, if_false, h]
  rw [resF_more (t.length + 1) (((c :: t).drop k.text.length).length + 1) _ _ (by simp only [List.length_drop, List.length_cons]; omega) (by omega)]

/-- How many bytes a skip passes; 'r': it stands in a remark. -/
def skipF : Bool → List UInt8 → Nat
  | _, [] => 0
  | r, c :: t => if (c == 35 || (r && c != 10)) || blankB c then 1 + skipF (c == 35 || (r && c != 10)) t else 0

theorem skipF_le : ∀ (l : List UInt8) (r : Bool), skipF r l ≤ l.length := by
  intro l
  induction l with
  | nil => intro r; simp [skipF]
  | cons c t ih => intro r; simp only [skipF]; have := ih (c == 35 || (r && c != 10)); split <;> simp <;> omega

theorem skipF_remark (l : List UInt8) : skipF true l = (l.takeWhile (· != 10)).length + skipF false (l.dropWhile (· != 10)) := by
  induction l with
  | nil => rfl
  | cons c t ih =>
    by_cases h : c = 10
    · subst h; simp [skipF, blankB]
    · have h' : (c != 10) = true := by simpa using h
      have e : skipF true (c :: t) = 1 + skipF true t := by simp [skipF, h']
      rw [e, ih]
      simp only [List.takeWhile_cons, List.dropWhile_cons, h', if_true, List.length_cons]; omega

/-- A skip changes nothing of what the scan comes to, and stands at no blank and no remark. -/
theorem res_skip (n : Nat) : ∀ (l : List UInt8) (pos : Nat), l.length ≤ n → res pos l = res (pos + skipF false l) (l.drop (skipF false l)) ∧
    ∀ c t, l.drop (skipF false l) = c :: t → blankB c = false ∧ (c == 35) = false := by
  induction n with
  | zero =>
    intro l pos h
    have : l = [] := List.length_eq_zero_iff.1 (by omega)
    subst this
    exact ⟨rfl, fun c t h => by simp [skipF] at h⟩
  | succ n ih =>
    intro l pos h
    match l with
    | [] => exact ⟨rfl, fun c t h => by simp [skipF] at h⟩
    | c :: t =>
      simp only [List.length_cons] at h
      by_cases hr : (c == 35) = true
      · have e : skipF false (c :: t) = 1 + ((t.takeWhile (· != 10)).length + skipF false (t.dropWhile (· != 10))) := by
          rw [← skipF_remark]; simp only [skipF, hr, Bool.true_or, if_true]
        have hd := dropWhile_le (· != 10) t
        obtain ⟨h1, h2⟩ := ih (t.dropWhile (· != 10)) (pos + 1 + (t.takeWhile (· != 10)).length) (by omega)
        have e2 : (c :: t).drop (skipF false (c :: t)) = (t.dropWhile (· != 10)).drop (skipF false (t.dropWhile (· != 10))) := by
          rw [e, Nat.add_comm 1, List.drop_succ_cons, ← List.drop_drop, drop_takeWhile]
        rw [e2]
        refine ⟨?_, h2⟩
        rw [res_remark hr, h1, e]
        congr 1; omega
      · have hr' : (c == 35) = false := by simpa using hr
        by_cases hb : blankB c = true
        · have e : skipF false (c :: t) = 1 + skipF false t := by simp [skipF, hr', hb]
          obtain ⟨h1, h2⟩ := ih t (pos + 1) (by omega)
          have e2 : (c :: t).drop (skipF false (c :: t)) = t.drop (skipF false t) := by rw [e, Nat.add_comm 1, List.drop_succ_cons]
          rw [e2]
          refine ⟨?_, h2⟩
          rw [res_blank hb, h1, e]
          congr 1; omega
        · have hb' : blankB c = false := by simpa using hb
          have e : skipF false (c :: t) = 0 := by simp [skipF, hr', hb']
          rw [e]
          refine ⟨rfl, ?_⟩
          intro c' t' h'
          simp only [List.drop_zero, List.cons.injEq] at h'
          obtain ⟨rfl, rfl⟩ := h'
          exact ⟨hb', hr'⟩

end Go.Proofs.YtcgllooeimacdaaGreatDoor.Lx
