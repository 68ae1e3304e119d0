/-
  Joined: FFact.
-/
import Derived.Test.YtjlmkcamefaodaaJ13
/-! FFact: Joined: FForest, FRec, FFacts. -/

namespace Go.Proofs.Ytjlmkcamefaodaa.Fl

/-- a is met going up from b, at b too. -/
inductive Up (ab : Nat → Int) (a : Nat) : Nat → Prop
  | refl : Up ab a a
  | up {b c : Nat} : ab b = (c : Int) → Up ab a c → Up ab a b

/-- Sizes: the nodes l are gone through, each behind all that stand below it. -/
def sizeF (ab : Nat → Int) : List Nat → List Nat → List Nat
  | [], sz => sz
  | n :: r, sz => sizeF ab r (if 0 ≤ ab n then (sz.set n (sz.getD n 0 + 1)).set (ab n).toNat ((sz.set n (sz.getD n 0 + 1)).getD (ab n).toNat 0 + (sz.set n (sz.getD n 0 + 1)).getD n 0) else sz.set n (sz.getD n 0 + 1))
/-- Places: each node below one takes the first that is free. -/
def layF (ab : Nat → Int) (sz : List Nat) : List Nat → List Int → List Nat → Nat → List Int
  | [], pl, _, _ => pl
  | n :: r, pl, fr, roots =>
    if 0 ≤ ab n then layF ab sz r (pl.set n ((fr.getD (ab n).toNat 0 : Nat) : Int)) ((fr.set n (fr.getD (ab n).toNat 0 + 1)).set (ab n).toNat (fr.getD (ab n).toNat 0 + sz.getD n 0)) roots
    else layF ab sz r (pl.set n (roots : Int)) (fr.set n (roots + 1)) (roots + sz.getD n 0)

/-- The sum of the sizes of those of l that stand below x. -/
def below (ab : Nat → Int) (sz : List Nat) (x : Int) : List Nat → Nat
  | [] => 0
  | c :: l => (if ab c = x then sz.getD c 0 else 0) + below ab sz x l
theorem below_app (ab : Nat → Int) (sz : List Nat) (x : Int) (l m : List Nat) : below ab sz x (l ++ m) = below ab sz x l + below ab sz x m := by
  induction l with
  | nil => simp [below]
  | cons c l ih => simp only [List.cons_append, below, ih]; omega
theorem below_congr {ab : Nat → Int} {sz sz' : List Nat} {x : Int} {l : List Nat} (h : ∀ c ∈ l, sz'.getD c 0 = sz.getD c 0) : below ab sz' x l = below ab sz x l := by
  induction l with
  | nil => rfl
  | cons c l ih => simp only [below]; rw [h c (by simp), ih (fun d hd => h d (by simp [hd]))]
theorem below_zero {ab : Nat → Int} {sz : List Nat} {x : Int} {l : List Nat} (h : ∀ c ∈ l, ab c ≠ x) : below ab sz x l = 0 := by
  induction l with
  | nil => rfl
  | cons c l ih => simp only [below]; rw [if_neg (h c (by simp)), ih (fun d hd => h d (by simp [hd]))]

/-- An order in which each node stands behind the one above it. -/
structure OrdOk (n : Nat) (ab : Nat → Int) (o : List Nat) : Prop where
  nd : o.Nodup
  lt : ∀ x ∈ o, x < n
  up : ∀ A x B, o = A ++ x :: B → ab x = -1 ∨ ∃ a : Nat, ab x = (a : Int) ∧ a ∈ A

section
variable {n : Nat} {ab : Nat → Int} {o : List Nat}
/-- Behind B are the sizes of its nodes done. -/
structure SizeAt (n : Nat) (ab : Nat → Int) (B : List Nat) (sz : List Nat) : Prop where
  len : sz.length = n
  eq : ∀ x, x < n → sz.getD x 0 = (if x ∈ B then 1 else 0) + below ab sz (x : Int) B

theorem size_step (h : OrdOk n ab o) {A B : List Nat} {x : Nat} (ho : o = A ++ x :: B) {sz : List Nat} (hs : SizeAt n ab B sz) :
    SizeAt n ab (x :: B) (if 0 ≤ ab x then (sz.set x (sz.getD x 0 + 1)).set (ab x).toNat ((sz.set x (sz.getD x 0 + 1)).getD (ab x).toNat 0 + (sz.set x (sz.getD x 0 + 1)).getD x 0) else sz.set x (sz.getD x 0 + 1)) := by
  have hnd := h.nd
  rw [ho, List.nodup_append] at hnd
  obtain ⟨_, hnd2, hnd3⟩ := hnd
  rw [List.nodup_cons] at hnd2
  have hxn : x < n := h.lt x (by rw [ho]; simp)
  have e1 : ∀ q, (sz.set x (sz.getD x 0 + 1)).getD q 0 = if q = x then sz.getD x 0 + 1 else sz.getD q 0 := fun q => getD_set' _ _ _ _ (by rw [hs.len]; exact hxn)
  have hcB : ∀ c, c ∈ B → c ≠ x := fun c hc e => hnd2.1 (by rw [← e]; exact hc)
  have hin : ∀ y, y ≠ x → ((if y ∈ x :: B then 1 else 0 : Nat) = if y ∈ B then 1 else 0) := by
    intro y e
    have : (y ∈ x :: B) ↔ y ∈ B := by simp [e]
    simp only [this]
  have hin' : (if x ∈ x :: B then 1 else 0 : Nat) = 1 := if_pos (by simp)
  rcases h.up A x B ho with hr | ⟨a, ha, haA⟩
  · rw [if_neg (show ¬ (0 : Int) ≤ ab x by omega)]
    refine ⟨by rw [List.length_set]; exact hs.len, fun y hy => ?_⟩
    have hb : below ab (sz.set x (sz.getD x 0 + 1)) (y : Int) B = below ab sz (y : Int) B := below_congr (fun c hc => by rw [e1]; exact if_neg (hcB c hc))
    have hy' := hs.eq y hy
    show (sz.set x (sz.getD x 0 + 1)).getD y 0 = (if y ∈ x :: B then 1 else 0) + ((if ab x = (y : Int) then (sz.set x (sz.getD x 0 + 1)).getD x 0 else 0) + below ab (sz.set x (sz.getD x 0 + 1)) (y : Int) B)
    rw [if_neg (show ¬ ab x = (y : Int) by omega), hb, e1]
    by_cases e : y = x
    · subst e
      rw [if_neg hnd2.1] at hy'
      rw [if_pos rfl, hin']
      omega
    · rw [if_neg e, hin y e]
      omega
  · have hax : a ≠ x := fun e => hnd3 a haA x (by simp) e
    have haB : a ∉ B := fun e => hnd3 a haA a (by simp [e]) rfl
    have han : a < n := h.lt a (by rw [ho]; simp [haA])
    rw [if_pos (show (0 : Int) ≤ ab x by omega), show (ab x).toNat = a by omega]
    have e2 : ∀ q, ((sz.set x (sz.getD x 0 + 1)).set a ((sz.set x (sz.getD x 0 + 1)).getD a 0 + (sz.set x (sz.getD x 0 + 1)).getD x 0)).getD q 0 = if q = a then sz.getD a 0 + (sz.getD x 0 + 1) else if q = x then sz.getD x 0 + 1 else sz.getD q 0 := by
      intro q
      rw [getD_set' _ _ _ _ (by rw [List.length_set, hs.len]; exact han), e1, e1, e1, if_neg hax, if_pos rfl]
    refine ⟨by rw [List.length_set, List.length_set]; exact hs.len, fun y hy => ?_⟩
    generalize hZ : (sz.set x (sz.getD x 0 + 1)).set a ((sz.set x (sz.getD x 0 + 1)).getD a 0 + (sz.set x (sz.getD x 0 + 1)).getD x 0) = Z at e2
    have hb : below ab Z (y : Int) B = below ab sz (y : Int) B := below_congr (fun c hc => by
      have q1 : c ≠ a := fun e => haB (by rw [← e]; exact hc)
      rw [e2]
      exact (if_neg q1).trans (if_neg (hcB c hc)))
    have hy' := hs.eq y hy
    show Z.getD y 0 = (if y ∈ x :: B then 1 else 0) + ((if ab x = (y : Int) then Z.getD x 0 else 0) + below ab Z (y : Int) B)
    rw [hb, e2 x, if_neg (Ne.symm hax), if_pos rfl, ha, e2 y]
    by_cases e : y = a
    · subst e
      rw [if_neg haB] at hy'
      rw [if_pos rfl, if_pos rfl, hin y hax, if_neg haB]
      omega
    · rw [if_neg e, if_neg (show ¬ (a : Int) = (y : Int) by omega)]
      by_cases e' : y = x
      · subst e'
        rw [if_neg hnd2.1] at hy'
        rw [if_pos rfl, hin']
        omega
      · rw [if_neg e', hin y e']
        omega
theorem size_all (h : OrdOk n ab o) {R B : List Nat} (ho : o = R.reverse ++ B) {sz : List Nat} (hs : SizeAt n ab B sz) : SizeAt n ab o (sizeF ab R sz) := by
  induction R generalizing B sz with
  | nil => simpa [ho, sizeF] using hs
  | cons x R ih => exact ih (B := x :: B) (by rw [ho]; simp) (size_step h (A := R.reverse) (by rw [ho]; simp) hs)
theorem size_start (n : Nat) (ab : Nat → Int) : SizeAt n ab [] (List.replicate n 0) := by
  refine ⟨by simp, fun x _ => ?_⟩
  rw [List.getD_eq_getElem?_getD, List.getElem?_replicate]
  simp only [below]
  split <;> simp

theorem up_trans {a b c : Nat} (h1 : Up ab a b) (h2 : Up ab b c) : Up ab a c := by
  induction h2 with
  | refl => exact h1
  | up e _ ih => exact .up e ih
/-- Up to one from a lower one, by one of those right below. -/
theorem up_child {a b : Nat} (h : Up ab a b) (hne : a ≠ b) : ∃ c, ab c = (a : Int) ∧ Up ab c b := by
  induction h with
  | refl => exact absurd rfl hne
  | @up b c e h ih =>
    by_cases q : a = c
    · subst q; exact ⟨b, e, .refl⟩
    · obtain ⟨d, h1, h2⟩ := ih q
      exact ⟨d, h1, .up e h2⟩

/-- Behind A are the places of its nodes laid. -/
structure LayAt (n : Nat) (ab : Nat → Int) (sz A : List Nat) (pl : List Int) (fr : List Nat) (roots : Nat) (p : Nat → Nat) : Prop where
  ll : pl.length = n
  fl : fr.length = n
  rt : roots = below ab sz (-1) A
  pe : ∀ x, x < n → pl.getD x (-1) = if x ∈ A then ((p x : Nat) : Int) else -1
  fe : ∀ x ∈ A, fr.getD x 0 = p x + 1 + below ab sz (x : Int) A
  ins : ∀ a b, a ∈ A → b ∈ A → Up ab a b → p a ≤ p b ∧ p b + sz.getD b 0 ≤ p a + sz.getD a 0
  out : ∀ a b, a ∈ A → b ∈ A → ¬ Up ab a b → ¬ Up ab b a → p a + sz.getD a 0 ≤ p b ∨ p b + sz.getD b 0 ≤ p a
  kid : ∀ c a, c ∈ A → ab c = ((a : Nat) : Int) → a ∈ A ∧ p a + 1 ≤ p c ∧ p c + sz.getD c 0 ≤ fr.getD a 0
  top : ∀ c ∈ A, ab c = -1 → p c + sz.getD c 0 ≤ roots

theorem lay_up {sz A : List Nat} {pl : List Int} {fr : List Nat} {roots : Nat} {p : Nat → Nat} (h : LayAt n ab sz A pl fr roots p) {a b : Nat} (hb : b ∈ A) (hu : Up ab a b) : a ∈ A := by
  induction hu with
  | refl => exact hb
  | up e _ ih => exact ih (h.kid _ _ hb e).1
theorem lay_root {sz A : List Nat} {pl : List Int} {fr : List Nat} {roots : Nat} {p : Nat → Nat} (h : LayAt n ab sz A pl fr roots p) (hA : ∀ x ∈ A, ab x = -1 ∨ ∃ a : Nat, ab x = (a : Int)) (k : Nat) {b : Nat} (hb : b ∈ A) (hk : p b < k) : p b + sz.getD b 0 ≤ roots := by
  induction k generalizing b with
  | zero => omega
  | succ k ih =>
    rcases hA b hb with e | ⟨a, e⟩
    · exact h.top b hb e
    · obtain ⟨h1, h2, h3⟩ := h.kid b a hb e
      have := h.ins a b h1 hb (.up e .refl)
      have := ih h1 (by omega)
      omega

/-- A node that is laid at r, which is free, and behind which it has room. -/
theorem lay_one {sz A : List Nat} {pl : List Int} {fr fr' : List Nat} {roots roots' x r : Nat} {p : Nat → Nat} (h : LayAt n ab sz A pl fr roots p) (hx : x ∉ A) (hxn : x < n) (hpos : 0 < sz.getD x 0)
    (hA : ∀ c ∈ A, ab c ≠ (x : Int))
    (hf : fr'.length = n) (hr : roots' = below ab sz (-1) (A ++ [x])) (hrl : roots ≤ roots') (hfx : fr'.getD x 0 = r + 1) (hfo : ∀ y ∈ A, fr'.getD y 0 = fr.getD y 0 + if ab x = (y : Int) then sz.getD x 0 else 0)
    (hcase : (ab x = -1 ∧ r + sz.getD x 0 ≤ roots' ∧ ∀ b ∈ A, p b + sz.getD b 0 ≤ r) ∨ ∃ a : Nat, ab x = (a : Int) ∧ a ∈ A ∧ r = fr.getD a 0 ∧ r + sz.getD x 0 ≤ p a + sz.getD a 0) :
    LayAt n ab sz (A ++ [x]) (pl.set x (r : Int)) fr' roots' (fun y => if y = x then r else p y) := by
  have hne : ∀ y, y ∈ A → y ≠ x := fun y hy e => hx (by rw [← e]; exact hy)
  have hpA : ∀ y, y ∈ A → (if y = x then r else p y) = p y := fun y hy => if_neg (hne y hy)
  have hpx : (if x = x then r else p x) = r := if_pos rfl
  have hxx : ab x ≠ (x : Int) := by
    rcases hcase with ⟨e, _⟩ | ⟨a, e, ha, _⟩
    · omega
    · have := hne a ha; omega
  have hsplit : ∀ y, y ∈ A ++ [x] → y ∈ A ∨ y = x := fun y hy => by
    rcases List.mem_append.1 hy with q | q
    · exact Or.inl q
    · exact Or.inr (List.mem_singleton.1 q)
  have hup : ∀ a, Up ab a x ↔ a = x ∨ ∃ c : Nat, ab x = (c : Int) ∧ Up ab a c := by
    intro a
    constructor
    · intro q
      cases q with
      | refl => exact Or.inl rfl
      | up e q => exact Or.inr ⟨_, e, q⟩
    · rintro (rfl | ⟨c, e, q⟩)
      · exact .refl
      · exact .up e q
  have hxu : ∀ b, b ∈ A → ¬ Up ab x b := fun b hb q => hx (lay_up h hb q)
  -- the new node's room, and the others'
  have hapart : ∀ b, b ∈ A → ¬ Up ab b x → r + sz.getD x 0 ≤ p b ∨ p b + sz.getD b 0 ≤ r := by
    intro b hb hn
    rcases hcase with ⟨e, h1, h2⟩ | ⟨a, e, ha, h1, h2⟩
    · exact Or.inr (h2 b hb)
    · by_cases q : Up ab a b
      · have hab : a ≠ b := fun w => hn (w ▸ (hup a).2 (Or.inr ⟨a, e, .refl⟩))
        obtain ⟨c, c1, c2⟩ := up_child q hab
        have hc := lay_up h hb c2
        have := h.kid c a hc c1
        have := h.ins c b hc hb c2
        omega
      · rcases h.out a b ha hb q (fun w => hn ((hup b).2 (Or.inr ⟨a, e, w⟩))) with w | w
        · left; omega
        · right
          have : p a + 1 ≤ fr.getD a 0 := by rw [h.fe a ha]; omega
          omega
  refine ⟨by rw [List.length_set]; exact h.ll, hf, hr, ?_, ?_, ?_, ?_, ?_, ?_⟩
  · intro y hy
    rw [List.getD_eq_getElem?_getD, List.getElem?_set]
    by_cases e : x = y
    · subst e
      rw [if_pos rfl, if_pos (by rw [h.ll]; exact hxn), if_pos (by simp), if_pos rfl]
      rfl
    · rw [if_neg e, ← List.getD_eq_getElem?_getD, h.pe y hy]
      by_cases w : y ∈ A
      · rw [if_pos w, if_pos (List.mem_append_left _ w), if_neg (Ne.symm e)]
      · rw [if_neg w, if_neg (fun q => (hsplit y q).elim w (fun z => e z.symm))]
  · intro y hy
    rw [below_app]
    simp only [below]
    rcases hsplit y hy with q | q
    · rw [hpA y q, hfo y q, h.fe y q]; omega
    · subst q
      rw [if_pos rfl, hfx, if_neg hxx, below_zero hA]
  · intro a b ha hb hu
    rcases hsplit a ha with q1 | q1 <;> rcases hsplit b hb with q2 | q2
    · show (if a = x then r else p a) ≤ (if b = x then r else p b) ∧ _ ≤ (if a = x then r else p a) + _
      rw [hpA a q1, hpA b q2]
      exact h.ins a b q1 q2 hu
    · subst q2
      show (if a = b then r else p a) ≤ (if b = b then r else p b) ∧ (if b = b then r else p b) + _ ≤ (if a = b then r else p a) + _
      rw [hpA a q1, hpx]
      rcases (hup a).1 hu with w | ⟨c, e, w⟩
      · exact absurd w (hne a q1)
      · rcases hcase with ⟨e', _⟩ | ⟨a', e', ha', h1, h2⟩
        · omega
        · have : c = a' := by omega
          subst this
          have := h.ins a c q1 ha' w
          have : p c + 1 ≤ fr.getD c 0 := by rw [h.fe c ha']; omega
          omega
    · subst q1
      exact absurd hu (hxu b q2)
    · subst q1; subst q2
      exact ⟨Nat.le_refl _, Nat.le_refl _⟩
  · intro a b ha hb h1 h2
    rcases hsplit a ha with q1 | q1 <;> rcases hsplit b hb with q2 | q2
    · show (if a = x then r else p a) + _ ≤ (if b = x then r else p b) ∨ (if b = x then r else p b) + _ ≤ (if a = x then r else p a)
      rw [hpA a q1, hpA b q2]
      exact h.out a b q1 q2 h1 h2
    · subst q2
      show (if a = b then r else p a) + _ ≤ (if b = b then r else p b) ∨ (if b = b then r else p b) + _ ≤ (if a = b then r else p a)
      rw [hpA a q1, hpx]
      exact (hapart a q1 h1).symm
    · subst q1
      show (if a = a then r else p a) + _ ≤ (if b = a then r else p b) ∨ (if b = a then r else p b) + _ ≤ (if a = a then r else p a)
      rw [hpA b q2, hpx]
      exact hapart b q2 h2
    · subst q1; subst q2
      exact absurd .refl h1
  · intro c a hc he
    rcases hsplit c hc with q | q
    · obtain ⟨k1, k2, k3⟩ := h.kid c a q he
      refine ⟨List.mem_append_left _ k1, ?_⟩
      show (if a = x then r else p a) + 1 ≤ (if c = x then r else p c) ∧ (if c = x then r else p c) + _ ≤ _
      rw [hpA a k1, hpA c q, hfo a k1]
      exact ⟨k2, by omega⟩
    · subst q
      rcases hcase with ⟨e', _⟩ | ⟨a', e', ha', h1, h2⟩
      · omega
      · have : a = a' := by omega
        subst this
        refine ⟨List.mem_append_left _ ha', ?_⟩
        show (if a = c then r else p a) + 1 ≤ (if c = c then r else p c) ∧ (if c = c then r else p c) + _ ≤ _
        rw [hpA a ha', hpx, hfo a ha', if_pos e']
        have : p a + 1 ≤ fr.getD a 0 := by rw [h.fe a ha']; omega
        exact ⟨by omega, by omega⟩
  · intro c hc he
    rcases hsplit c hc with q | q
    · show (if c = x then r else p c) + _ ≤ _
      rw [hpA c q]
      have := h.top c q he
      omega
    · subst q
      show (if c = c then r else p c) + _ ≤ _
      rw [hpx]
      rcases hcase with ⟨_, h1, _⟩ | ⟨a, e, _⟩
      · exact h1
      · omega

theorem lay_start (n : Nat) (ab : Nat → Int) (sz : List Nat) : LayAt n ab sz [] (List.replicate n (-1)) (List.replicate n 0) 0 (fun _ => 0) := by
  refine ⟨by simp, by simp, rfl, fun x hx => ?_, fun x hx => absurd hx (by simp), fun a b ha => absurd ha (by simp), fun a b ha => absurd ha (by simp), fun c a hc => absurd hc (by simp), fun c hc => absurd hc (by simp)⟩
  rw [List.getD_eq_getElem?_getD, List.getElem?_replicate, if_pos hx, if_neg (by simp)]
  rfl
theorem lay_all (h : OrdOk n ab o) {sz : List Nat} (hs : SizeAt n ab o sz) {A B : List Nat} (ho : o = A ++ B) {pl : List Int} {fr : List Nat} {roots : Nat} {p : Nat → Nat} (hl : LayAt n ab sz A pl fr roots p) :
    ∃ fr' roots' p', LayAt n ab sz o (layF ab sz B pl fr roots) fr' roots' p' := by
  induction B generalizing A pl fr roots p with
  | nil => exact ⟨fr, roots, p, by rw [ho, List.append_nil]; exact hl⟩
  | cons x B ih =>
    have hnd := h.nd
    rw [ho, List.nodup_append] at hnd
    obtain ⟨_, hnd2, hnd3⟩ := hnd
    rw [List.nodup_cons] at hnd2
    have hxA : x ∉ A := fun q => hnd3 x q x (by simp) rfl
    have hxo : x ∈ o := by rw [ho]; simp
    have hxn : x < n := h.lt x hxo
    have hpos : 0 < sz.getD x 0 := by rw [hs.eq x hxn, if_pos hxo]; omega
    have hroots : ∀ c ∈ A, ab c = -1 ∨ ∃ a : Nat, ab c = (a : Int) ∧ a ∈ A := by
      intro c hc
      obtain ⟨A1, A2, hA⟩ := List.append_of_mem hc
      rcases h.up A1 c (A2 ++ x :: B) (by rw [ho, hA]; simp) with q | ⟨a, q, qa⟩
      · exact Or.inl q
      · exact Or.inr ⟨a, q, by rw [hA]; simp [qa]⟩
    have hkid : ∀ c ∈ A, ab c ≠ (x : Int) := by
      intro c hc e
      rcases hroots c hc with q | ⟨a, q, qa⟩
      · omega
      · exact hxA (by rw [show x = a by omega]; exact qa)
    unfold layF
    rcases h.up A x B ho with hr | ⟨a, ha, haA⟩
    · rw [if_neg (show ¬ (0 : Int) ≤ ab x by omega)]
      have e1 : below ab sz (-1) (A ++ [x]) = roots + sz.getD x 0 := by rw [below_app, ← hl.rt]; simp only [below]; rw [if_pos hr]; rfl
      have hF : ∀ q, (fr.set x (roots + 1)).getD q 0 = if q = x then roots + 1 else fr.getD q 0 := fun q => getD_set' _ _ _ _ (by rw [hl.fl]; exact hxn)
      refine ih (A := A ++ [x]) (by rw [ho]; simp) (lay_one hl hxA hxn hpos hkid (by rw [List.length_set]; exact hl.fl) e1.symm (by omega) (by rw [hF, if_pos rfl]) (fun y hy => ?_) (Or.inl ⟨hr, Nat.le_refl _, fun b hb => ?_⟩))
      · rw [hF, if_neg (fun e => hxA (by rw [← e]; exact hy)), if_neg (show ¬ ab x = (y : Int) by omega)]
        omega
      · exact lay_root hl (fun c hc => (hroots c hc).imp id (fun ⟨a, q, _⟩ => ⟨a, q⟩)) (p b + 1) hb (by omega)
    · have hax : a ≠ x := fun e => hxA (by rw [← e]; exact haA)
      have han : a < n := h.lt a (by rw [ho]; simp [haA])
      rw [if_pos (show (0 : Int) ≤ ab x by omega), show (ab x).toNat = a by omega]
      have e1 : below ab sz (-1) (A ++ [x]) = roots := by rw [below_app, ← hl.rt]; simp only [below]; rw [if_neg (show ¬ ab x = -1 by omega)]; omega
      have hF : ∀ q, ((fr.set x (fr.getD a 0 + 1)).set a (fr.getD a 0 + sz.getD x 0)).getD q 0 = if q = a then fr.getD a 0 + sz.getD x 0 else if q = x then fr.getD a 0 + 1 else fr.getD q 0 := by
        intro q
        rw [getD_set' _ _ _ _ (by rw [List.length_set, hl.fl]; exact han), getD_set' _ _ _ _ (by rw [hl.fl]; exact hxn)]
      have hsz := hs.eq a han
      rw [if_pos (show a ∈ o by rw [ho]; simp [haA]), ho, below_app] at hsz
      simp only [below] at hsz
      rw [if_pos ha] at hsz
      have hfe := hl.fe a haA
      refine ih (A := A ++ [x]) (by rw [ho]; simp) (lay_one hl hxA hxn hpos hkid (by rw [List.length_set, List.length_set]; exact hl.fl) e1.symm (Nat.le_refl _) (by rw [hF, if_neg (Ne.symm hax), if_pos rfl]) (fun y hy => ?_) (Or.inr ⟨a, ha, haA, rfl, by omega⟩))
      have hyx : y ≠ x := fun e => hxA (by rw [← e]; exact hy)
      rw [hF, if_neg hyx, ha]
      by_cases e : y = a
      · subst e; rw [if_pos rfl, if_pos rfl]
      · rw [if_neg e, if_neg (show ¬ (a : Int) = (y : Int) by omega)]
        omega

/-- A forest's places and sizes, as New lays them. -/
def forP (ab : Nat → Int) (n : Nat) (o : List Nat) : List Int := layF ab (sizeF ab o.reverse (List.replicate n 0)) o (List.replicate n (-1)) (List.replicate n 0) 0
def forS (ab : Nat → Int) (n : Nat) (o : List Nat) : List Nat := sizeF ab o.reverse (List.replicate n 0)
/-- WHO STANDS OVER WHOM, by places. -/
theorem forest_over (h : OrdOk n ab o) : (forP ab n o).length = n ∧ (forS ab n o).length = n ∧ ∀ a b, a < n → b < n →
    (((forP ab n o).getD a (-1) ≤ (forP ab n o).getD b (-1) ∧ (forP ab n o).getD b (-1) < (forP ab n o).getD a (-1) + ((forS ab n o).getD a 0 : Int)) ↔ a ∈ o ∧ b ∈ o ∧ Up ab a b) := by
  have hs : SizeAt n ab o (forS ab n o) := size_all h (R := o.reverse) (B := []) (by simp) (size_start n ab)
  obtain ⟨fr, roots, p, hl⟩ := lay_all h hs (A := []) (B := o) rfl (lay_start n ab (forS ab n o))
  have hl' : LayAt n ab (forS ab n o) o (forP ab n o) fr roots p := hl
  clear hl
  refine ⟨hl'.ll, hs.len, fun a b ha hb => ?_⟩
  have ea := hl'.pe a ha
  have eb := hl'.pe b hb
  have sa := hs.eq a ha
  have sb := hs.eq b hb
  by_cases oa : a ∈ o
  · rw [if_pos oa] at ea sa
    by_cases ob : b ∈ o
    · rw [if_pos ob] at eb sb
      rw [ea, eb]
      constructor
      · rintro ⟨h1, h2⟩
        refine ⟨oa, ob, ?_⟩
        by_cases u : Up ab a b
        · exact u
        · exfalso
          by_cases u2 : Up ab b a
          · by_cases e : a = b
            · subst e; exact u .refl
            · obtain ⟨c, c1, c2⟩ := up_child u2 (Ne.symm e)
              have hc := lay_up hl' oa c2
              have := hl'.kid c b hc c1
              have := hl'.ins c a hc oa c2
              omega
          · rcases hl'.out a b oa ob u u2 with w | w <;> omega
      · rintro ⟨_, _, u⟩
        have := hl'.ins a b oa ob u
        omega
    · rw [if_neg ob] at eb
      rw [ea, eb]
      exact ⟨fun ⟨h1, _⟩ => by omega, fun ⟨_, h1, _⟩ => absurd h1 ob⟩
  · rw [if_neg oa] at ea sa
    have hz : below ab (forS ab n o) (a : Int) o = 0 := below_zero (fun c hc e => by
      obtain ⟨A1, A2, hA⟩ := List.append_of_mem hc
      rcases h.up A1 c A2 hA with q | ⟨d, q, qa⟩
      · omega
      · exact oa (by rw [show a = d by omega, hA]; simp [qa]))
    rw [ea]
    refine ⟨fun ⟨h1, h2⟩ => ?_, fun ⟨h1, _, _⟩ => absurd h1 oa⟩
    omega
end
end Go.Proofs.Ytjlmkcamefaodaa.Fl

/-! The walk with a row of nodes to go back to is the walk that calls itself, plainly. -/

namespace Go.Proofs.Ytjlmkcamefaodaa.Fl

/-- A node's ways, one by one. -/
def wkRow (f : Nat → List Bool → List Nat → Option (List Bool × List Nat)) : List Nat → List Bool → List Nat → Option (List Bool × List Nat)
  | [], b, o => some (b, o)
  | y :: l, b, o => if b.getD y false = true then wkRow f l b o else (f y b o).bind (fun r => wkRow f l r.1 r.2)
/-- The walk that calls itself. -/
def wkF (G : List (List Nat)) : Nat → Nat → List Bool → List Nat → Option (List Bool × List Nat)
  | 0, _, _, _ => none
  | F + 1, n, b, o => (wkRow (wkF G F) (row G n) (b.set n true) o).map (fun r => (r.1, r.2 ++ [n]))

/-- What stays while nodes are come to. -/
structure Later (s s' : Ws) (a : Nat) : Prop where
  ent : ∀ x ∈ s.ent, x ∈ s'.ent
  frm : ∀ x ∈ s.ent, s'.frm.getD x (-1) = s.frm.getD x (-1)
  nxt : ∀ x ∈ s.ent, x ≠ a → s'.nxt.getD x 0 = s.nxt.getD x 0
  len : s.ent.length ≤ s'.ent.length
theorem ent_le {G : List (List Nat)} {s : Ws} {P : List Nat} (h : InvP G s P) : s.ent.length ≤ G.length := nodup_len h.nd h.lo

/-- The claim for F. -/
def Sim (G : List (List Nat)) (F : Nat) : Prop := ∀ (s : Ws) (P : List Nat) (a : Nat) (b : List Bool), InvP G s P → WsOk G s → s.cur = (a : Int) → s.nxt.getD a 0 = 0 → b.set a true = s.rch → G.length - s.ent.length < F →
  ∃ k s' P', (∀ i, go G (k + i) s = go G i s') ∧ InvP G s' P' ∧ WsOk G s' ∧ s'.cur = s.frm.getD a (-1) ∧ wkF G F a b s.left = some (s'.rch, s'.left) ∧ Later s s' a

theorem sim_row {G : List (List Nat)} (hG : GOk G) {F : Nat} (hF : Sim G F) : ∀ (l : List Nat) (s : Ws) (P : List Nat) (a : Nat), InvP G s P → WsOk G s → s.cur = (a : Int) → (row G a).drop (s.nxt.getD a 0) = l → G.length - s.ent.length ≤ F →
    ∃ k s' P', (∀ i, go G (k + i) s = go G i s') ∧ InvP G s' P' ∧ WsOk G s' ∧ s'.cur = (a : Int) ∧ s'.nxt.getD a 0 = (row G a).length ∧ wkRow (wkF G F) l s.rch s.left = some (s'.rch, s'.left) ∧ Later s s' a := by
  intro l
  induction l with
  | nil =>
    intro s P a hI hok hc hl _
    have := hok.nx a
    have h2 := congrArg List.length hl
    simp only [List.length_drop, List.length_nil] at h2
    exact ⟨0, s, P, fun i => by rw [Nat.zero_add], hI, hok, hc, by omega, rfl, fun x h => h, fun x _ => rfl, fun x _ _ => rfl, Nat.le_refl _⟩
  | cons y l ih =>
    intro s P a hI hok hc hl hF'
    have hlt : s.nxt.getD a 0 < (row G a).length := by
      have h2 := congrArg List.length hl
      simp only [List.length_drop, List.length_cons] at h2
      omega
    have hne : s.nxt.getD a 0 ≠ (row G a).length := by omega
    have hy : (row G a).getD (s.nxt.getD a 0) 0 = y := by
      rw [List.drop_eq_getElem_cons hlt] at hl
      rw [getD_of _ _ _ hlt]
      exact (List.cons.inj hl).1
    have hl' : (row G a).drop (s.nxt.getD a 0 + 1) = l := by
      rw [List.drop_eq_getElem_cons hlt] at hl
      exact (List.cons.inj hl).2
    have han : a < s.nxt.length := by rw [hok.nl]; exact row_lt (t := (row G a).getD (s.nxt.getD a 0) 0) (getD_mem hlt)
    have hN : ∀ q x, (s.nxt.set a x).getD q 0 = if q = a then x else s.nxt.getD q 0 := fun q x => nxt_set han
    cases hr : s.rch.getD y false with
    | true =>
      have hI1 := hI.old hok hc hne hy hr
      have hok1 := step_ok hG hok (by omega)
      rw [step_old hc hne hy hr] at hok1
      obtain ⟨k, s', P', h1, h2, h3, h4, h5, h6, h7⟩ := ih _ P a hI1 hok1 hc (by show (row G a).drop ((s.nxt.set a (s.nxt.getD a 0 + 1)).getD a 0) = l; rw [hN, if_pos rfl]; exact hl') hF'
      refine ⟨k + 1, s', P', fun i => ?_, h2, h3, h4, h5, ?_, h7.ent, h7.frm, fun x hx hn => ?_, h7.len⟩
      · rw [show k + 1 + i = (k + i) + 1 by omega, go_step (by omega), step_old hc hne hy hr]
        exact h1 i
      · unfold wkRow
        rw [if_pos hr]
        exact h6
      · rw [h7.nxt x hx hn]
        show (s.nxt.set a _).getD x 0 = _
        rw [hN, if_neg hn]
    | false =>
      obtain ⟨P1, hI1⟩ := hI.new hok hG hc hne hy hr
      have hok1 := step_ok hG hok (by omega)
      rw [step_new hc hne hy hr] at hok1
      have hye : y ∉ s.ent := fun q => by rw [(hI.rc y).2 q] at hr; exact absurd hr (by decide)
      have hyn : y < G.length := by rw [← hy]; exact row_getD hG hlt
      have hya : a ∈ s.ent := by
        rcases hI.cr with ⟨q, _⟩ | ⟨c, c1, q, _⟩
        · omega
        · rw [hc] at q
          rw [Int.ofNat_inj.1 q]
          exact getD_mem c1
      have hle : (s.ent ++ [y]).length ≤ G.length := ent_le hI1
      simp only [List.length_append, List.length_singleton] at hle
      have hyF : (s.frm.set y (a : Int)).getD y (-1) = (a : Int) := by
        rw [List.getD_eq_getElem?_getD, List.getElem?_set, if_pos rfl, if_pos (by rw [hok.fl]; exact hyn)]
        rfl
      have hfo : ∀ x, x ∈ s.ent → (s.frm.set y (a : Int)).getD x (-1) = s.frm.getD x (-1) := by
        intro x hx
        rw [List.getD_eq_getElem?_getD, List.getElem?_set, if_neg (fun e => hye (by rw [e]; exact hx)), ← List.getD_eq_getElem?_getD]
      obtain ⟨k1, s1, P2, g1, g2, g3, g4, g5, g6⟩ := hF _ P1 y s.rch hI1 hok1 rfl (by
        show (s.nxt.set a _).getD y 0 = 0
        rw [hN, if_neg (fun e => hye (by rw [e]; exact hya))]
        exact hI.nz y hye) rfl (by show G.length - (s.ent ++ [y]).length < F; simp only [List.length_append, List.length_singleton]; omega)
      have hcur : s1.cur = (a : Int) := g4.trans hyF
      have hnx : s1.nxt.getD a 0 = s.nxt.getD a 0 + 1 := by
        rw [g6.nxt a (List.mem_append_left _ hya) (fun e => hye (by rw [← e]; exact hya))]
        show (s.nxt.set a _).getD a 0 = _
        rw [hN, if_pos rfl]
      have hlen1 : s.ent.length + 1 ≤ s1.ent.length := by have := g6.len; simpa using this
      obtain ⟨k, s', P', h1, h2, h3, h4, h5, h6, h7⟩ := ih s1 P2 a g2 g3 hcur (by rw [hnx]; exact hl') (by omega)
      refine ⟨k1 + k + 1, s', P', fun i => ?_, h2, h3, h4, h5, ?_, fun x hx => h7.ent x (g6.ent x (List.mem_append_left _ hx)), fun x hx => ?_, fun x hx hn => ?_, by have := h7.len; omega⟩
      · rw [show k1 + k + 1 + i = (k1 + (k + i)) + 1 by omega, go_step (by omega), step_new hc hne hy hr, g1]
        exact h1 i
      · unfold wkRow
        rw [if_neg (by rw [hr]; decide)]
        have g5' : wkF G F y s.rch s.left = some (s1.rch, s1.left) := g5
        rw [g5']
        exact h6
      · rw [h7.frm x (g6.ent x (List.mem_append_left _ hx)), g6.frm x (List.mem_append_left _ hx)]
        exact hfo x hx
      · rw [h7.nxt x (g6.ent x (List.mem_append_left _ hx)) hn, g6.nxt x (List.mem_append_left _ hx) (fun e => hye (by rw [← e]; exact hx))]
        show (s.nxt.set a _).getD x 0 = _
        rw [hN, if_neg hn]

theorem sim_all {G : List (List Nat)} (hG : GOk G) (F : Nat) : Sim G F := by
  induction F with
  | zero => intro s P a b _ _ _ _ _ h; omega
  | succ F ih =>
    intro s P a b hI hok hc hn hb hF
    obtain ⟨k, s', P', h1, h2, h3, h4, h5, h6, h7⟩ := sim_row hG ih (row G a) s P a hI hok hc (by rw [hn]; rfl) (by omega)
    have hya : a ∈ s.ent := by
      rcases hI.cr with ⟨q, _⟩ | ⟨c, c1, q, _⟩
      · omega
      · rw [hc] at q
        rw [Int.ofNat_inj.1 q]
        exact getD_mem c1
    have hok1 := step_ok hG h3 (by omega)
    have hI1 := h2.leave h4 h5
    rw [step_last h4 h5] at hok1
    refine ⟨k + 1, _, P', fun i => ?_, hI1, hok1, h7.frm a hya, ?_, h7.ent, h7.frm, h7.nxt, h7.len⟩
    · rw [show k + 1 + i = k + (i + 1) by omega, h1 (i + 1), go_step (by omega), step_last h4 h5]
    · unfold wkF
      rw [hb, h6]
      rfl

/-- THE WALKS LEAVE THE NODES IN ONE ORDER. -/
theorem walk_rec {G : List (List Nat)} (hG : GOk G) (hn : 0 < G.length) {K : Nat} {s : Ws} (hs : walkF G K = some s) : ∃ b, wkF G (G.length + 1) 0 (List.replicate G.length false) [] = some (b, s.left) := by
  obtain ⟨k, s', P', h1, h2, h3, h4, h5, h6⟩ := sim_all hG (G.length + 1) (start G) [0] 0 (List.replicate G.length false) (start_inv hn) (start_ok hn) rfl (by
    show (List.replicate G.length 0).getD 0 0 = 0
    rw [List.getD_eq_getElem?_getD, List.getElem?_replicate]
    split <;> rfl) rfl (by omega)
  have hcur : s'.cur < 0 := by
    rw [h4]
    show ((List.replicate G.length (0 : Int)).set 0 (-1)).getD 0 (-1) < 0
    rw [List.getD_eq_getElem?_getD, List.getElem?_set, if_pos rfl, if_pos (by simpa using hn)]
    decide
  -- more fuel changes nothing
  have more : ∀ i j (t r : Ws), go G i t = some r → go G (i + j) t = some r := by
    intro i
    induction i with
    | zero => intro j t r h; exact absurd h (by simp [go])
    | succ i ih =>
      intro j t r h
      rw [show i + 1 + j = (i + j) + 1 by omega]
      by_cases q : t.cur < 0
      · rw [go_end q] at h ⊢; exact h
      · rw [go_step (by omega)] at h ⊢
        exact ih j _ r h
  have e1 : go G (k + 1) (start G) = some s' := by rw [h1 1]; exact go_end hcur
  have e2 := more (k + 1) K _ _ e1
  have e3 := more K (k + 1) _ _ hs
  rw [show K + (k + 1) = k + 1 + K by omega, e2] at e3
  have : s' = s := Option.some.inj e3
  subst this
  exact ⟨_, h5⟩
end Go.Proofs.Ytjlmkcamefaodaa.Fl

/-! What the order and the nearest above of a graph are to one another, plainly. -/

namespace Go.Proofs.Ytjlmkcamefaodaa.Fl

theorem List.nodup_reverse' {l : List Nat} (h : l.Nodup) : l.reverse.Nodup := by
  unfold List.Nodup at *
  rw [List.pairwise_reverse]
  exact h.imp (fun q => Ne.symm q)
theorem av_split {E : Nat → Nat → Prop} {a b h : Nat} (hab : Av E (fun _ => True) a b) : Av E (fun y => y ≠ h) a b ∨ Av E (fun _ => True) h b := by
  induction hab with
  | refl _ =>
    by_cases e : a = h
    · exact Or.inr (e ▸ .refl _ trivial)
    · exact Or.inl (.refl _ e)
  | @step v w _ he _ ih =>
    by_cases e : w = h
    · exact Or.inr (e ▸ .refl _ trivial)
    · rcases ih with q | q
      · exact Or.inl (.step q he e)
      · exact Or.inr (.step q he trivial)
/-- What dominates goes on to it. -/
theorem dom_path {G : List (List Nat)} {h n : Nat} (hd : DomG G h n) : Av (EG G) (fun _ => True) h n := (av_split hd.2.1).resolve_left hd.2.2

section
variable {m : Nat} {E : Nat → Nat → Prop} {par : Nat → Nat}
theorem Nums3.tree' (D : Nums3 m E par) {ok : Nat → Prop} {u w : Nat} (h : Anc par u w) (hw : w < m) (ho : ∀ x, Anc par u x → Anc par x w → ok x) : Av E ok u w := by
  induction h with
  | refl => exact .refl _ (ho _ (.refl _) (.refl _))
  | @up w h0 h1 ih =>
    have h2 := D.lt _ h0 hw
    exact .step (ih (by omega) (fun x a b => ho x a (b.trans (.one h0)))) (D.edge _ h0 hw) (ho _ (.up h0 h1) (.refl _))
theorem DomN.anc (D : Nums3 m E par) {d w : Nat} (h : DomN E d w) (hw : w < m) : Anc par d w := by
  apply Classical.byContradiction
  intro q
  exact h (D.tree' (anc_zero D.lt w hw) hw (fun x _ b e => q (e ▸ b)))
end

section
variable {G : List (List Nat)} {s : Ws} {P : List Nat}
abbrev abF (L : List Int) : Nat → Int := fun x => L.getD x (-1)
theorem abF_eq {L : List Int} {b : Nat} (h : b < L.length) : abF L b = L.getD b 0 := by unfold abF; rw [getD_of _ _ _ h, getD_of _ _ _ h]
theorem rch_lt (h : InvP G s P) (hc : s.cur = -1) {b : Nat} (hb : Rch G b) : b < G.length := h.lo b ((h.rch hc b).1 hb)
theorem left_all (h : InvP G s P) (hc : s.cur = -1) (x : Nat) : x ∈ s.left ↔ Rch G x := by
  rw [h.rch hc]
  constructor
  · exact fun q => (h.ls x q).1
  · intro q
    obtain ⟨i, hi, rfl⟩ := mem_getD q
    rcases h.cr with ⟨_, w⟩ | ⟨c, _, e, _⟩
    · exact w i hi
    · rw [hc] at e; omega
/-- GOING UP from a reached node, what dominates it is met. -/
theorem up_dom (h : InvP G s P) (hok : WsOk G s) (hc : s.cur = -1) {L : List Int} (hL : AboveOk G L) (b : Nat) (hb : Rch G b) (a : Nat) : Up (abF L) a b ↔ DomG G a b := by
  obtain ⟨w, w1, rfl⟩ := mem_getD ((h.rch hc _).1 hb)
  induction w using Nat.strongRecOn with
  | ind w ih =>
    have hlt := rch_lt h hc hb
    have e0 := abF_eq (L := L) (b := s.ent.getD w 0) (by rw [hL.1]; exact hlt)
    rcases hL.2 _ hlt with ⟨e, q⟩ | ⟨i, e, q1, q2⟩
    · rw [e] at e0
      constructor
      · intro u
        cases u with
        | refl => exact dom_refl hb
        | up c _ => omega
      · intro u
        by_cases z : a = s.ent.getD w 0
        · rw [z]; exact .refl
        · exact absurd ⟨u, z⟩ (q a)
    · rw [e] at e0
      obtain ⟨d, d1, rfl⟩ := mem_getD ((h.rch hc _).1 q1.1.1)
      have hdw : d < w := by
        obtain ⟨n1, n2, n3, n4⟩ := h.near hok hc
        have := ((n4 w w1 d).2 ((h.dom hc d1 w1).1 q1.1)).le (m := s.ent.length) n3 w1
        have : d ≠ w := fun z => q1.2 (by rw [z])
        omega
      have IH := ih d hdw d1 q1.1.1
      constructor
      · intro u
        cases u with
        | refl => exact dom_refl hb
        | @up _ c c1 u =>
          have : c = s.ent.getD d 0 := by omega
          subst this
          exact dom_trans h hok hc (IH.1 u) q1.1
      · intro u
        by_cases z : a = s.ent.getD w 0
        · rw [z]; exact .refl
        · exact .up e0 (IH.2 (q2 a ⟨u, z⟩))

/-- The order in which nodes are told: each stands behind what dominates it. -/
theorem ord_ok (h : InvP G s P) (_hok : WsOk G s) (hc : s.cur = -1) {L : List Int} (hL : AboveOk G L) : OrdOk G.length (abF L) s.left.reverse := by
  have D := h.nums3 hc
  refine ⟨(List.nodup_reverse' h.ld), fun x hx => ?_, fun A x B ho => ?_⟩
  · exact rch_lt h hc ((left_all h hc x).1 (List.mem_reverse.1 hx))
  · have hx : x ∈ s.left := by rw [← List.mem_reverse, ho]; simp
    have hrx := (left_all h hc x).1 hx
    have hlt := rch_lt h hc hrx
    have e0 := abF_eq (L := L) (b := x) (by rw [hL.1]; exact hlt)
    rcases hL.2 x hlt with ⟨e, _⟩ | ⟨a, e, q1, _⟩
    · exact Or.inl (e0.trans e)
    · refine Or.inr ⟨a, e0.trans e, ?_⟩
      obtain ⟨w, w1, rfl⟩ := mem_getD ((h.rch hc _).1 hrx)
      obtain ⟨d, d1, rfl⟩ := mem_getD ((h.rch hc _).1 q1.1.1)
      have an : Anc (pf P) d w := ((h.dom hc d1 w1).1 q1.1).anc D w1
      have hne : w ≠ d := fun z => q1.2 (by rw [z])
      have hl : s.left = B.reverse ++ s.ent.getD w 0 :: A.reverse := by
        have := congrArg List.reverse ho
        rw [List.reverse_reverse] at this
        rw [this]; simp
      have ha : s.ent.getD d 0 ∈ s.left := (left_all h hc _).2 q1.1.1
      obtain ⟨p, hp, ep⟩ := mem_getD ha
      have hin := h.dn p d w hp d1 w1 ep an hne
      have hnd := h.ld
      rw [hl, List.nodup_append] at hnd
      obtain ⟨_, _, hnd3⟩ := hnd
      rw [hl] at ha
      rcases List.mem_append.1 ha with q | q
      · exfalso
        -- it would stand ahead of what it dominates
        rcases Nat.lt_or_ge p B.length with z | z
        · rw [hl, List.take_append_of_le_length (by rw [List.length_reverse]; omega)] at hin
          exact hnd3 _ (List.mem_of_mem_take hin) _ (by simp) rfl
        · obtain ⟨j, hj, ej⟩ := mem_getD q
          rw [List.length_reverse] at hj
          have hpl : s.left.getD j 0 = s.ent.getD d 0 := by
            rw [hl, getD_app (by rw [List.length_reverse]; exact hj)]; exact ej
          have := getD_inj h.ld (i := j) (j := p) (by rw [hl, List.length_append, List.length_reverse]; omega) hp (hpl.trans ep.symm)
          omega
      · rcases List.mem_cons.1 q with z | z
        · exact absurd z q1.2
        · exact List.mem_reverse.1 z
/-- In the order: without ways back each stands ahead of those to which it goes on. -/
theorem order_on (h : InvP G s P) (hc : s.cur = -1) {x y : Nat} (hx : Rch G x) (he : y ∈ row G x) : (∃ A B C, s.left.reverse = A ++ x :: (B ++ y :: C)) ∨ Av (EG G) (fun _ => True) y x := by
  have D := h.nums3 hc
  have hl := (left_all h hc x).2 hx
  obtain ⟨p, hp, ep⟩ := mem_getD hl
  obtain ⟨i, hi, ei⟩ := mem_getD ((h.rch hc x).1 hx)
  rcases h.or p i hp hi (ep.trans ei.symm) y (by rw [ei]; exact he) with q | ⟨v, v1, v2, v3⟩
  · left
    obtain ⟨A1, A2, hA⟩ := List.append_of_mem q
    have e1 : s.left = s.left.take p ++ x :: s.left.drop (p + 1) := by
      have := (List.take_append_drop p s.left).symm
      rw [List.drop_eq_getElem_cons hp, ← getD_of s.left p 0 hp, ep] at this
      exact this
    rw [hA] at e1
    refine ⟨(s.left.drop (p + 1)).reverse, A2.reverse, A1.reverse, ?_⟩
    conv => lhs; rw [e1]
    simp
  · right
    have := h.lift (ok := fun _ => True) (D.tree' (ok := fun _ => True) v3 hi (fun _ _ _ => trivial))
    rw [← v2, ei] at this
    exact this
end
end Go.Proofs.Ytjlmkcamefaodaa.Fl
