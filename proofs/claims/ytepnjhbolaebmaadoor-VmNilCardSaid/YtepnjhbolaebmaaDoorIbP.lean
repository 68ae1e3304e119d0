/-
  Instructions as bytes, plainly: numbers' bytes, an instruction's bytes, and that they are read in one way alone.
-/
import Derived.Lib.BitFns
namespace Go.Proofs.YtepnjhbolaebmaaDoor
open Go

/-- An instruction. -/
structure Wd where
  op : Nat
  a : Nat
  b : Nat
  c : Nat
  imm : Int
namespace Ib
def val : List Nat → Nat
  | [] => 0
  | b :: l => b + 256 * val l
def leB : Nat → Nat → List Nat
  | _, 0 => []
  | n, k + 1 => n % 256 :: leB (n / 256) k
def Byt (l : List Nat) : Prop := ∀ x ∈ l, x < 256
theorem leB_len : ∀ (k n : Nat), (leB n k).length = k
  | 0, _ => rfl
  | k + 1, n => by simp [leB, leB_len k]
theorem leB_byt : ∀ (k n : Nat), Byt (leB n k)
  | 0, _ => fun x h => by simp [leB] at h
  | k + 1, n => fun x h => by
    simp only [leB, List.mem_cons] at h
    rcases h with h | h
    · omega
    · exact leB_byt k _ x h
theorem pow256 (k : Nat) : 256 ^ (k + 1) = 256 * 256 ^ k := by rw [Nat.pow_succ, Nat.mul_comm]
theorem val_leB : ∀ (k n : Nat), val (leB n k) = n % 256 ^ k
  | 0, n => by simp [leB, val, Nat.mod_one]
  | k + 1, n => by
    rw [leB, val, val_leB k, pow256, Nat.mod_mul]
theorem leB_val : ∀ (l : List Nat), Byt l → leB (val l) l.length = l
  | [], _ => rfl
  | b :: l, h => by
    have hb : b < 256 := h b (by simp)
    have h2 := leB_val l (fun x hx => h x (by simp [hx]))
    simp only [val, List.length_cons, leB]
    rw [show (b + 256 * val l) % 256 = b by omega, show (b + 256 * val l) / 256 = val l by omega, h2]
theorem val_lt : ∀ (l : List Nat), Byt l → val l < 256 ^ l.length
  | [], _ => by simp [val]
  | b :: l, h => by
    have hb : b < 256 := h b (by simp)
    have h2 := val_lt l (fun x hx => h x (by simp [hx]))
    simp only [val, List.length_cons]
    rw [pow256]
    omega
theorem val_append : ∀ (l m : List Nat), val (l ++ m) = val l + 256 ^ l.length * val m
  | [], m => by simp [val]
  | b :: l, m => by
    simp only [List.cons_append, val, List.length_cons]
    rw [val_append l m, pow256, Nat.mul_add, Nat.mul_assoc]
    omega
theorem leB_add : ∀ (j k n : Nat), leB n (j + k) = leB n j ++ leB (n / 256 ^ j) k
  | 0, k, n => by simp [leB]
  | j + 1, k, n => by
    rw [show j + 1 + k = (j + k) + 1 by omega, leB, leB, leB_add j k, pow256, Nat.div_div_eq_div_mul]
    rfl
theorem leB_succ (k n : Nat) : leB n (k + 1) = leB n k ++ [n / 256 ^ k % 256] := by rw [leB_add]; rfl

theorem lenB_lt (x : Nat) (h : x < 2 ^ 64) : x < 2 ^ Lib.bitLen x := by
  have : ∀ k x, x < 2 ^ k → x < 2 ^ 64 → x < 2 ^ Lib.bitLen x := by
    intro k
    induction k with
    | zero => intro x h0 _; have : x = 0 := by omega
              subst this; decide
    | succ k ih =>
      intro x h0 h1
      by_cases e : x = 0
      · subst e; decide
      · rw [Lib.bitLen_half x e h1]
        have h2 := ih (x / 2) (by rw [Nat.pow_succ] at h0; omega) (by omega)
        rw [Nat.add_comm 1, Nat.pow_succ]
        omega
  exact this 64 x h h
theorem lenB_le (x k : Nat) (h : x < 2 ^ 64) (hk : k ≤ 64) : Lib.bitLen x ≤ k ↔ x < 2 ^ k :=
  ⟨fun e => Nat.lt_of_lt_of_le (lenB_lt x h) (Nat.pow_le_pow_right (by decide) e), fun e => Lib.bitLen_le x k hk e⟩
theorem pow256' (k : Nat) : 256 ^ k = 2 ^ (8 * k) := by rw [Nat.pow_mul]
def sizeU (n : Nat) : Nat := (Lib.bitLen n + 7) / 8
theorem sizeU_le (n k : Nat) (h : n < 2 ^ 64) (hk : k ≤ 8) : sizeU n ≤ k ↔ n < 256 ^ k := by
  rw [pow256', ← lenB_le n (8 * k) h (by omega)]
  unfold sizeU
  omega
def mag (n : Int) : Nat := if 0 ≤ n then n.toNat else (-1 - n).toNat
def sizeS (n : Int) : Nat := if n = 0 then 0 else Lib.bitLen (mag n) / 8 + 1
/-- A number with a sign has room in so many bytes. -/
def FitS (n : Int) (k : Nat) : Prop := if k = 0 then n = 0 else -(2 ^ (8 * k - 1) : Nat) ≤ n ∧ n < (2 ^ (8 * k - 1) : Nat)
def In64 (n : Int) : Prop := -9223372036854775808 ≤ n ∧ n ≤ 9223372036854775807
theorem mag_lt {n : Int} (h : In64 n) : mag n < 2 ^ 63 := by
  unfold In64 at h
  unfold mag
  split <;> omega
theorem sizeS_le (n : Int) (k : Nat) (h : In64 n) (hk : k ≤ 8) : sizeS n ≤ k ↔ FitS n k := by
  have h1 := mag_lt h
  unfold sizeS FitS
  by_cases e : n = 0
  · rw [if_pos e, e]
    by_cases e2 : k = 0
    · simp [e2]
    · rw [if_neg e2]
      have : 0 < 2 ^ (8 * k - 1) := Nat.pow_pos (by decide)
      constructor
      · intro _; constructor <;> omega
      · intro _; omega
  · rw [if_neg e]
    by_cases e2 : k = 0
    · rw [if_pos e2]; omega
    · rw [if_neg e2]
      have h2 := lenB_le (mag n) (8 * k - 1) (by omega) (by omega)
      have h3 : (-(2 ^ (8 * k - 1) : Nat) ≤ n ∧ n < (2 ^ (8 * k - 1) : Nat)) ↔ mag n < 2 ^ (8 * k - 1) := by
        unfold mag
        split <;> omega
      rw [h3, ← h2]
      omega
theorem sizeU_8 (n : Nat) (h : n < 2 ^ 64) : sizeU n ≤ 8 := (sizeU_le n 8 h (by omega)).2 (by omega)
theorem sizeS_8 (n : Int) (h : In64 n) : sizeS n ≤ 8 := (sizeS_le n 8 h (by omega)).2 (by unfold FitS; unfold In64 at h; simp; omega)

/-- The number modulo 2^64. -/
def u64 (n : Int) : Nat := (n % 18446744073709551616).toNat
theorem u64_lt (n : Int) : u64 n < 2 ^ 64 := by unfold u64; omega
/-- A number's bytes. -/
def nmK (sign : Bool) (n : Int) : Nat := if sign then sizeS n else sizeU (u64 n)
def nmB (sign : Bool) (n : Int) : List Nat := nmK sign n :: leB (u64 n) (nmK sign n)
theorem nmK_8 (sign : Bool) (n : Int) (h : In64 n) : nmK sign n ≤ 8 := by
  unfold nmK
  split
  · exact sizeS_8 n h
  · exact sizeU_8 _ (u64_lt n)
/-- What a number's bytes say. -/
def numD (sign : Bool) (l : List Nat) : Int := if sign ∧ l ≠ [] ∧ 128 ≤ l.getLastD 0 then (val l : Int) - (256 ^ l.length : Nat) else val l
theorem last_leB (n k : Nat) : (leB n (k + 1)).getLastD 0 = n / 256 ^ k % 256 := by rw [leB_succ]; simp
theorem numD_le (sign : Bool) (n : Int) (h : In64 n) (hs : sign = false → 0 ≤ n) (k : Nat) (hk : nmK sign n ≤ k) (hk8 : k ≤ 8) : numD sign (leB (u64 n) k) = n := by
  unfold numD
  rw [val_leB, leB_len]
  unfold In64 at h
  cases sign with
  | false =>
    have h0 := hs rfl
    have e : u64 n = n.toNat := by unfold u64; omega
    have h1 := (sizeU_le (u64 n) k (u64_lt n) hk8).1 hk
    simp only [Bool.false_eq_true, false_and, if_false]
    rw [Nat.mod_eq_of_lt h1]
    omega
  | true =>
    have h1 : FitS n k := (sizeS_le n k h hk8).1 hk
    unfold FitS at h1
    cases k with
    | zero => simp only [if_true] at h1; simp [h1, leB, u64]
    | succ k =>
      rw [if_neg (by omega)] at h1
      have hp : 256 ^ (k + 1) = 2 * 2 ^ (8 * (k + 1) - 1) := by rw [pow256', ← Nat.pow_succ']; congr 1
      have hq : 128 * 256 ^ k = 2 ^ (8 * (k + 1) - 1) := by rw [pow256', show 8 * (k + 1) - 1 = 7 + 8 * k by omega, Nat.pow_add]
      have hd : (256 ^ (k + 1)) ∣ 18446744073709551616 := by
        rw [show (18446744073709551616 : Nat) = 256 ^ 8 by decide]
        exact Nat.pow_dvd_pow _ hk8
      have hl : (leB (u64 n) (k + 1)).getLastD 0 = u64 n / 256 ^ k % 256 := last_leB _ _
      have hne : leB (u64 n) (k + 1) ≠ [] := by simp [leB]
      have hm : u64 n / 256 ^ k % 256 = u64 n % 256 ^ (k + 1) / 256 ^ k := by
        rw [pow256, Nat.mul_comm, Nat.mod_mul_right_div_self]
      rw [hl]
      simp only [hne, true_and, ne_eq, not_false_eq_true, hm, Nat.le_div_iff_mul_le (Nat.pow_pos (show 0 < 256 by decide) : 0 < 256 ^ k), hq]
      obtain ⟨D, hD⟩ := hd
      obtain ⟨P, hP⟩ : ∃ P, P = 2 ^ (8 * (k + 1) - 1) := ⟨_, rfl⟩
      rw [← hP] at h1 hp ⊢
      rw [hp] at hD ⊢
      have hPp : 0 < P := by rw [hP]; exact Nat.pow_pos (by decide)
      have hu : ((u64 n % (2 * P) : Nat) : Int) = n % ((2 * P : Nat) : Int) := by
        rw [Int.natCast_emod]
        have : (u64 n : Int) = n % 18446744073709551616 := by unfold u64; omega
        rw [this]
        have e2 : (18446744073709551616 : Int) = ((2 * P : Nat) : Int) * (D : Int) := by rw [← Int.natCast_mul, ← hD]; rfl
        rw [e2]
        exact Int.emod_emod_of_dvd _ ⟨_, rfl⟩
      by_cases hn : 0 ≤ n
      · have e3 : n % ((2 * P : Nat) : Int) = n := Int.emod_eq_of_lt hn (by omega)
        rw [e3] at hu
        rw [if_neg (by omega)]
        exact hu
      · have e3 : n % ((2 * P : Nat) : Int) = n + (2 * P : Nat) := by
          rw [← Int.add_emod_right]
          exact Int.emod_eq_of_lt (by omega) (by omega)
        rw [e3] at hu
        rw [if_pos (by omega)]
        omega
theorem numD_nm (sign : Bool) (n : Int) (h : In64 n) (hs : sign = false → 0 ≤ n) : numD sign (leB (u64 n) (nmK sign n)) = n :=
  numD_le sign n h hs _ (Nat.le_refl _) (nmK_8 sign n h)

/-! Instructions. -/
def regsT : List Nat := [1, 2, 1, 1, 3, 3, 2, 1, 1, 1, 1, 1, 1, 1, 0, 0, 1, 1, 1]
def immT : List Bool := [true, false, true, true, false, false, false, true, false, false, false, true, false, false, true, true, true, false, true]
def names (op : Nat) : Option (Nat × Bool) :=
  if 1 ≤ op ∧ op ≤ 16 then some (3, false) else if 19 ≤ op ∧ op ≤ 21 then some (2, false)
  else if op < 30 ∨ 48 < op then none else some (regsT.getD (op - 30) 0, immT.getD (op - 30) false)
def least (op : Nat) : Int := if op = 30 then -9223372036854775808 else if op = 37 then 1 else 0
def most (op : Nat) : Int := if op = 32 ∨ op = 33 then 59999 else if op = 37 then 256 else if op = 48 then 5 else if op = 30 ∨ op = 41 ∨ op = 44 ∨ op = 45 ∨ op = 46 then 9223372036854775807 else 0
def RegOk (w : Wd) (n : Nat) : Prop := (w.a ≤ 15 ∧ w.b ≤ 15 ∧ w.c ≤ 15) ∧ (n < 3 → w.c = 0) ∧ (n < 2 → w.b = 0) ∧ (n < 1 → w.a = 0)
/-- An instruction that is right. -/
def FormW (w : Wd) : Prop := ∃ n im, names w.op = some (n, im) ∧ RegOk w n ∧ least w.op ≤ w.imm ∧ w.imm ≤ most w.op
def encR (w : Wd) (n : Nat) : List Nat := [w.a, w.b, w.c].take n
def encW (w : Wd) : List Nat := match names w.op with
  | none => []
  | some (n, im) => w.op :: (encR w n ++ if im then nmB (w.op == 30) w.imm else [])
def WfW (w : Wd) : Prop := w.op < 256 ∧ w.a < 256 ∧ w.b < 256 ∧ w.c < 256 ∧ In64 w.imm
theorem names_le {op n : Nat} {im : Bool} (h : names op = some (n, im)) : n ≤ 3 ∧ op ≤ 48 ∧ 1 ≤ op := by
  unfold names at h
  split at h
  · cases h; omega
  · split at h
    · cases h; omega
    · split at h
      · cases h
      · injection h with h
        injection h with h1 _
        refine ⟨?_, by omega, by omega⟩
        rw [← h1]
        have : ∀ i, i < 19 → regsT.getD i 0 ≤ 3 := by decide
        exact this _ (by omega)
def chkN (op : Nat) : Bool := match names op with
  | none => true
  | some (_, im) => (im || (least op == 0 && most op == 0)) && ((op == 30) || decide (0 ≤ least op)) && decide (-9223372036854775808 ≤ least op) && decide (most op ≤ 9223372036854775807)
theorem chk_all : ∀ op, op < 49 → chkN op = true := by decide
theorem names_nat (op : Nat) (h : op < 49) (n : Nat) (im : Bool) (e : names op = some (n, im)) : (im = false → least op = 0 ∧ most op = 0) ∧ ((op == 30) = false → 0 ≤ least op) ∧ -9223372036854775808 ≤ least op ∧ most op ≤ 9223372036854775807 := by
  have h2 := chk_all op h
  unfold chkN at h2
  rw [e] at h2
  simp only [Bool.and_eq_true, Bool.or_eq_true, decide_eq_true_eq] at h2
  refine ⟨fun h3 => ?_, fun h3 => ?_, h2.1.2, h2.2⟩
  · rcases h2.1.1.1 with h4 | h4
    · rw [h3] at h4; cases h4
    · simpa using h4
  · rcases h2.1.1.2 with h4 | h4
    · rw [h3] at h4; cases h4
    · exact h4
theorem FormW.in64 {w : Wd} (h : FormW w) : In64 w.imm := by
  obtain ⟨n, im, h1, _, h3, h4⟩ := h
  have := names_nat _ (by have := names_le h1; omega) n im h1
  unfold In64
  omega
/-- p begins with the bytes of w, which is right. -/
def PreW (p : List Nat) (w : Wd) : Prop := FormW w ∧ encW w <+: p
theorem pre_cons {a b : Nat} {l m p : List Nat} (h1 : a :: l <+: p) (h2 : b :: m <+: p) : a = b ∧ ∃ q, l <+: q ∧ m <+: q := by
  obtain ⟨s, rfl⟩ := h1
  obtain ⟨t, e⟩ := h2
  simp only [List.cons_append, List.cons.injEq] at e
  exact ⟨e.1.symm, _, List.prefix_append l s, ⟨t, e.2⟩⟩
theorem pre_split {l l' m m' p : List Nat} (hl : l.length = l'.length) (h1 : l ++ m <+: p) (h2 : l' ++ m' <+: p) : l = l' ∧ ∃ q, m <+: q ∧ m' <+: q := by
  obtain ⟨s, rfl⟩ := h1
  obtain ⟨t, e⟩ := h2
  rw [List.append_assoc, List.append_assoc] at e
  obtain ⟨e1, e2⟩ := List.append_inj e hl.symm
  exact ⟨e1.symm, _, List.prefix_append m s, ⟨t, e2⟩⟩
theorem nm_inj {sign : Bool} {n n' : Int} {q : List Nat} (h : In64 n) (h' : In64 n') (hs : sign = false → 0 ≤ n) (hs' : sign = false → 0 ≤ n') (h1 : nmB sign n <+: q) (h2 : nmB sign n' <+: q) : n = n' := by
  obtain ⟨e, q', h3, h4⟩ := pre_cons h1 h2
  rw [← e] at h4
  have h5 : leB (u64 n) (nmK sign n) = leB (u64 n') (nmK sign n) := by
    have h6 := List.prefix_of_prefix_length_le h3 h4 (by rw [leB_len, leB_len]; exact Nat.le_refl _)
    exact h6.eq_of_length (by rw [leB_len, leB_len])
  have h6 := numD_nm sign n h hs
  have h7 := numD_nm sign n' h' hs'
  rw [← e] at h7
  rw [← h6, ← h7, h5]
theorem encR_inj {w w' : Wd} {n : Nat} (hn : n ≤ 3) (h : RegOk w n) (h' : RegOk w' n) (e : encR w n = encR w' n) : w.a = w'.a ∧ w.b = w'.b ∧ w.c = w'.c := by
  unfold RegOk at h h'
  unfold encR at e
  have : n = 0 ∨ n = 1 ∨ n = 2 ∨ n = 3 := by omega
  rcases this with rfl | rfl | rfl | rfl <;> simp at e <;> omega
theorem encR_len (w : Wd) {n : Nat} (hn : n ≤ 3) : (encR w n).length = n := by unfold encR; simp; omega
/-- One alone. -/
theorem PreW.one {p : List Nat} {w w' : Wd} (h : PreW p w) (h' : PreW p w') : w = w' := by
  obtain ⟨⟨n, im, e1, r1, g1, g2⟩, h2⟩ := h
  obtain ⟨⟨n', im', e1', r1', g1', g2'⟩, h2'⟩ := h'
  have i1 := FormW.in64 ⟨n, im, e1, r1, g1, g2⟩
  have i2 := FormW.in64 ⟨n', im', e1', r1', g1', g2'⟩
  unfold encW at h2 h2'
  rw [e1] at h2
  rw [e1'] at h2'
  obtain ⟨eo, q, h3, h4⟩ := pre_cons h2 h2'
  rw [← eo] at e1'
  rw [e1] at e1'
  injection e1' with e1'
  injection e1' with ea eb
  subst ea eb
  have hn := (names_le e1).1
  obtain ⟨er, q', h5, h6⟩ := pre_split (by rw [encR_len w hn, encR_len w' hn]) h3 h4
  have hr := encR_inj hn r1 r1' er
  have hx := names_nat _ (by have := names_le e1; omega) n im e1
  have hi : w.imm = w'.imm := by
    rw [← eo] at g1' g2' h6
    cases im with
    | false => have := hx.1 rfl; omega
    | true =>
      simp only [if_true] at h5 h6
      exact nm_inj i1 i2 (fun hh => by have := hx.2.1 hh; omega) (fun hh => by have := hx.2.1 hh; omega) h5 h6
  cases w
  cases w'
  simp at eo hr hi
  simp [eo, hr, hi]
theorem encW_ne {w : Wd} (h : FormW w) : encW w ≠ [] := by
  obtain ⟨n, im, e, _⟩ := h
  unfold encW
  rw [e]
  simp
theorem PreW.self {w : Wd} (h : FormW w) (q : List Nat) : PreW (encW w ++ q) w := ⟨h, List.prefix_append _ _⟩

/-! Several. -/
def encL (l : List Wd) : List Nat := l.flatMap encW
theorem encL_cons (w : Wd) (l : List Wd) : encL (w :: l) = encW w ++ encL l := rfl
theorem encL_inj : ∀ {l l' : List Wd}, (∀ w ∈ l, FormW w) → (∀ w ∈ l', FormW w) → encL l = encL l' → l = l'
  | [], [], _, _, _ => rfl
  | [], w :: l', _, h', e => by
    have := encW_ne (h' w (by simp))
    rw [encL_cons] at e
    have h2 : encW w = [] := (List.append_eq_nil_iff.1 e.symm).1
    exact absurd h2 this
  | w :: l, [], h, _, e => by
    have := encW_ne (h w (by simp))
    rw [encL_cons] at e
    exact absurd (List.append_eq_nil_iff.1 e).1 this
  | w :: l, w' :: l', h, h', e => by
    rw [encL_cons, encL_cons] at e
    have h1 : PreW (encW w ++ encL l) w := PreW.self (h w (by simp)) _
    have h2 : PreW (encW w ++ encL l) w' := by rw [e]; exact PreW.self (h' w' (by simp)) _
    have e2 := h1.one h2
    subst e2
    rw [encL_inj (fun x hx => h x (by simp [hx])) (fun x hx => h' x (by simp [hx])) (List.append_cancel_left e)]
end Ib
end Go.Proofs.YtepnjhbolaebmaaDoor
