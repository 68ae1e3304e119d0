/-
  A forest's places, plainly: what stands below a node stands right behind it.
-/
import Derived.Test.YtomfmkddfgpmkaaFNode
namespace Go.Proofs.Ytomfmkddfgpmkaa.Fl

/-- a is met going up from b, at b too. -/
inductive Up (ab : Nat → Int) (a : Nat) : Nat → Prop
  | refl : Up ab a a
  | up {b c : Nat} : ab b = (c : Int) → Up ab a c → Up ab a b

/-- Sizes: the nodes l are gone through, each behind all that stand below it. -/
def sizeF (ab : Nat → Int) : List Nat → List Nat → List Nat
  | [], sz => sz
  | n :: r, sz => sizeF ab r (if 0 ≤ ab n then (sz.set n (sz.getD n 0 + 1)).set (ab n).toNat ((sz.set n (sz.getD n 0 + 1)).getD (ab n).toNat 0 + (sz.set n (sz.getD n 0 + 1)).getD n 0) else sz.set n (sz.getD n 0 + 1))
/-- Places: each node below one takes the first that is free. -/
def layF (ab : Nat → Int) (sz : List Nat) : List Nat → List Int → List Nat → Nat → List Int
  | [], pl, _, _ => pl
  | n :: r, pl, fr, roots =>
    if 0 ≤ ab n then layF ab sz r (pl.set n ((fr.getD (ab n).toNat 0 : Nat) : Int)) ((fr.set n (fr.getD (ab n).toNat 0 + 1)).set (ab n).toNat (fr.getD (ab n).toNat 0 + sz.getD n 0)) roots
    else layF ab sz r (pl.set n (roots : Int)) (fr.set n (roots + 1)) (roots + sz.getD n 0)

/-- The sum of the sizes of those of l that stand below x. -/
def below (ab : Nat → Int) (sz : List Nat) (x : Int) : List Nat → Nat
  | [] => 0
  | c :: l => (if ab c = x then sz.getD c 0 else 0) + below ab sz x l
theorem below_app (ab : Nat → Int) (sz : List Nat) (x : Int) (l m : List Nat) : below ab sz x (l ++ m) = below ab sz x l + below ab sz x m := by
  induction l with
  | nil => simp [below]
  | cons c l ih => simp only [List.cons_append, below, ih]; omega
theorem below_congr {ab : Nat → Int} {sz sz' : List Nat} {x : Int} {l : List Nat} (h : ∀ c ∈ l, sz'.getD c 0 = sz.getD c 0) : below ab sz' x l = below ab sz x l := by
  induction l with
  | nil => rfl
  | cons c l ih => simp only [below]; rw [h c (by simp), ih (fun d hd => h d (by simp [hd]))]
theorem below_zero {ab : Nat → Int} {sz : List Nat} {x : Int} {l : List Nat} (h : ∀ c ∈ l, ab c ≠ x) : below ab sz x l = 0 := by
  induction l with
  | nil => rfl
  | cons c l ih => simp only [below]; rw [if_neg (h c (by simp)), ih (fun d hd => h d (by simp [hd]))]

/-- An order in which each node stands behind the one above it. -/
structure OrdOk (n : Nat) (ab : Nat → Int) (o : List Nat) : Prop where
  nd : o.Nodup
  lt : ∀ x ∈ o, x < n
  up : ∀ A x B, o = A ++ x :: B → ab x = -1 ∨ ∃ a : Nat, ab x = (a : Int) ∧ a ∈ A

section
variable {n : Nat} {ab : Nat → Int} {o : List Nat}
/-- Behind B are the sizes of its nodes done. -/
structure SizeAt (n : Nat) (ab : Nat → Int) (B : List Nat) (sz : List Nat) : Prop where
  len : sz.length = n
  eq : ∀ x, x < n → sz.getD x 0 = (if x ∈ B then 1 else 0) + below ab sz (x : Int) B

theorem size_step (h : OrdOk n ab o) {A B : List Nat} {x : Nat} (ho : o = A ++ x :: B) {sz : List Nat} (hs : SizeAt n ab B sz) :
    SizeAt n ab (x :: B) (if 0 ≤ ab x then (sz.set x (sz.getD x 0 + 1)).set (ab x).toNat ((sz.set x (sz.getD x 0 + 1)).getD (ab x).toNat 0 + (sz.set x (sz.getD x 0 + 1)).getD x 0) else sz.set x (sz.getD x 0 + 1)) := by
  have hnd := h.nd
  rw [ho, List.nodup_append] at hnd
  obtain ⟨_, hnd2, hnd3⟩ := hnd
  rw [List.nodup_cons] at hnd2
  have hxn : x < n := h.lt x (by rw [ho]; simp)
  have e1 : ∀ q, (sz.set x (sz.getD x 0 + 1)).getD q 0 = if q = x then sz.getD x 0 + 1 else sz.getD q 0 := fun q => getD_set' _ _ _ _ (by rw [hs.len]; exact hxn)
  have hcB : ∀ c, c ∈ B → c ≠ x := fun c hc e => hnd2.1 (by rw [← e]; exact hc)
  have hin : ∀ y, y ≠ x → ((if y ∈ x :: B then 1 else 0 : Nat) = if y ∈ B then 1 else 0) := by
    intro y e
    have : (y ∈ x :: B) ↔ y ∈ B := by simp [e]
    simp only [this]
  have hin' : (if x ∈ x :: B then 1 else 0 : Nat) = 1 := if_pos (by simp)
  rcases h.up A x B ho with hr | ⟨a, ha, haA⟩
  · rw [if_neg (show ¬ (0 : Int) ≤ ab x by omega)]
    refine ⟨by rw [List.length_set]; exact hs.len, fun y hy => ?_⟩
    have hb : below ab (sz.set x (sz.getD x 0 + 1)) (y : Int) B = below ab sz (y : Int) B := below_congr (fun c hc => by rw [e1]; exact if_neg (hcB c hc))
    have hy' := hs.eq y hy
    show (sz.set x (sz.getD x 0 + 1)).getD y 0 = (if y ∈ x :: B then 1 else 0) + ((if ab x = (y : Int) then (sz.set x (sz.getD x 0 + 1)).getD x 0 else 0) + below ab (sz.set x (sz.getD x 0 + 1)) (y : Int) B)
    rw [if_neg (show ¬ ab x = (y : Int) by omega), hb, e1]
    by_cases e : y = x
    · subst e
      rw [if_neg hnd2.1] at hy'
      rw [if_pos rfl, hin']
      omega
    · rw [if_neg e, hin y e]
      omega
  · have hax : a ≠ x := fun e => hnd3 a haA x (by simp) e
    have haB : a ∉ B := fun e => hnd3 a haA a (by simp [e]) rfl
    have han : a < n := h.lt a (by rw [ho]; simp [haA])
    rw [if_pos (show (0 : Int) ≤ ab x by omega), show (ab x).toNat = a by omega]
    have e2 : ∀ q, ((sz.set x (sz.getD x 0 + 1)).set a ((sz.set x (sz.getD x 0 + 1)).getD a 0 + (sz.set x (sz.getD x 0 + 1)).getD x 0)).getD q 0 = if q = a then sz.getD a 0 + (sz.getD x 0 + 1) else if q = x then sz.getD x 0 + 1 else sz.getD q 0 := by
      intro q
      rw [getD_set' _ _ _ _ (by rw [List.length_set, hs.len]; exact han), e1, e1, e1, if_neg hax, if_pos rfl]
    refine ⟨by rw [List.length_set, List.length_set]; exact hs.len, fun y hy => ?_⟩
    generalize hZ : (sz.set x (sz.getD x 0 + 1)).set a ((sz.set x (sz.getD x 0 + 1)).getD a 0 + (sz.set x (sz.getD x 0 + 1)).getD x 0) = Z at e2
    have hb : below ab Z (y : Int) B = below ab sz (y : Int) B := below_congr (fun c hc => by
      have q1 : c ≠ a := fun e => haB (by rw [← e]; exact hc)
      rw [e2]
      exact (if_neg q1).trans (if_neg (hcB c hc)))
    have hy' := hs.eq y hy
    show Z.getD y 0 = (if y ∈ x :: B then 1 else 0) + ((if ab x = (y : Int) then Z.getD x 0 else 0) + below ab Z (y : Int) B)
    rw [hb, e2 x, if_neg (Ne.symm hax), if_pos rfl, ha, e2 y]
    by_cases e : y = a
    · subst e
      rw [if_neg haB] at hy'
      rw [if_pos rfl, if_pos rfl, hin y hax, if_neg haB]
      omega
    · rw [if_neg e, if_neg (show ¬ (a : Int) = (y : Int) by omega)]
      by_cases e' : y = x
      · subst e'
        rw [if_neg hnd2.1] at hy'
        rw [if_pos rfl, hin']
        omega
      · rw [if_neg e', hin y e']
        omega
theorem size_all (h : OrdOk n ab o) {R B : List Nat} (ho : o = R.reverse ++ B) {sz : List Nat} (hs : SizeAt n ab B sz) : SizeAt n ab o (sizeF ab R sz) := by
  induction R generalizing B sz with
  | nil => simpa [ho, sizeF] using hs
  | cons x R ih => exact ih (B := x :: B) (by rw [ho]; simp) (size_step h (A := R.reverse) (by rw [ho]; simp) hs)
theorem size_start (n : Nat) (ab : Nat → Int) : SizeAt n ab [] (List.replicate n 0) := by
  refine ⟨by simp, fun x _ => ?_⟩
  rw [List.getD_eq_getElem?_getD, List.getElem?_replicate]
  simp only [below]
  split <;> simp

theorem up_trans {a b c : Nat} (h1 : Up ab a b) (h2 : Up ab b c) : Up ab a c := by
  induction h2 with
  | refl => exact h1
  | up e _ ih => exact .up e ih
/-- Up to one from a lower one, by one of those right below. -/
theorem up_child {a b : Nat} (h : Up ab a b) (hne : a ≠ b) : ∃ c, ab c = (a : Int) ∧ Up ab c b := by
  induction h with
  | refl => exact absurd rfl hne
  | @up b c e h ih =>
    by_cases q : a = c
    · subst q; exact ⟨b, e, .refl⟩
    · obtain ⟨d, h1, h2⟩ := ih q
      exact ⟨d, h1, .up e h2⟩

/-- Behind A are the places of its nodes laid. -/
structure LayAt (n : Nat) (ab : Nat → Int) (sz A : List Nat) (pl : List Int) (fr : List Nat) (roots : Nat) (p : Nat → Nat) : Prop where
  ll : pl.length = n
  fl : fr.length = n
  rt : roots = below ab sz (-1) A
  pe : ∀ x, x < n → pl.getD x (-1) = if x ∈ A then ((p x : Nat) : Int) else -1
  fe : ∀ x ∈ A, fr.getD x 0 = p x + 1 + below ab sz (x : Int) A
  ins : ∀ a b, a ∈ A → b ∈ A → Up ab a b → p a ≤ p b ∧ p b + sz.getD b 0 ≤ p a + sz.getD a 0
  out : ∀ a b, a ∈ A → b ∈ A → ¬ Up ab a b → ¬ Up ab b a → p a + sz.getD a 0 ≤ p b ∨ p b + sz.getD b 0 ≤ p a
  kid : ∀ c a, c ∈ A → ab c = ((a : Nat) : Int) → a ∈ A ∧ p a + 1 ≤ p c ∧ p c + sz.getD c 0 ≤ fr.getD a 0
  top : ∀ c ∈ A, ab c = -1 → p c + sz.getD c 0 ≤ roots

theorem lay_up {sz A : List Nat} {pl : List Int} {fr : List Nat} {roots : Nat} {p : Nat → Nat} (h : LayAt n ab sz A pl fr roots p) {a b : Nat} (hb : b ∈ A) (hu : Up ab a b) : a ∈ A := by
  induction hu with
  | refl => exact hb
  | up e _ ih => exact ih (h.kid _ _ hb e).1
theorem lay_root {sz A : List Nat} {pl : List Int} {fr : List Nat} {roots : Nat} {p : Nat → Nat} (h : LayAt n ab sz A pl fr roots p) (hA : ∀ x ∈ A, ab x = -1 ∨ ∃ a : Nat, ab x = (a : Int)) (k : Nat) {b : Nat} (hb : b ∈ A) (hk : p b < k) : p b + sz.getD b 0 ≤ roots := by
  induction k generalizing b with
  | zero => omega
  | succ k ih =>
    rcases hA b hb with e | ⟨a, e⟩
    · exact h.top b hb e
    · obtain ⟨h1, h2, h3⟩ := h.kid b a hb e
      have := h.ins a b h1 hb (.up e .refl)
      have := ih h1 (by omega)
      omega

/-- A node that is laid at r, which is free, and behind which it has room. -/
theorem lay_one {sz A : List Nat} {pl : List Int} {fr fr' : List Nat} {roots roots' x r : Nat} {p : Nat → Nat} (h : LayAt n ab sz A pl fr roots p) (hx : x ∉ A) (hxn : x < n) (hpos : 0 < sz.getD x 0)
    (hA : ∀ c ∈ A, ab c ≠ (x : Int))
    (hf : fr'.length = n) (hr : roots' = below ab sz (-1) (A ++ [x])) (hrl : roots ≤ roots') (hfx : fr'.getD x 0 = r + 1) (hfo : ∀ y ∈ A, fr'.getD y 0 = fr.getD y 0 + if ab x = (y : Int) then sz.getD x 0 else 0)
    (hcase : (ab x = -1 ∧ r + sz.getD x 0 ≤ roots' ∧ ∀ b ∈ A, p b + sz.getD b 0 ≤ r) ∨ ∃ a : Nat, ab x = (a : Int) ∧ a ∈ A ∧ r = fr.getD a 0 ∧ r + sz.getD x 0 ≤ p a + sz.getD a 0) :
    LayAt n ab sz (A ++ [x]) (pl.set x (r : Int)) fr' roots' (fun y => if y = x then r else p y) := by
  have hne : ∀ y, y ∈ A → y ≠ x := fun y hy e => hx (by rw [← e]; exact hy)
  have hpA : ∀ y, y ∈ A → (if y = x then r else p y) = p y := fun y hy => if_neg (hne y hy)
  have hpx : (if x = x then r else p x) = r := if_pos rfl
  have hxx : ab x ≠ (x : Int) := by
    rcases hcase with ⟨e, _⟩ | ⟨a, e, ha, _⟩
    · omega
    · have := hne a ha; omega
  have hsplit : ∀ y, y ∈ A ++ [x] → y ∈ A ∨ y = x := fun y hy => by
    rcases List.mem_append.1 hy with q | q
    · exact Or.inl q
    · exact Or.inr (List.mem_singleton.1 q)
  have hup : ∀ a, Up ab a x ↔ a = x ∨ ∃ c : Nat, ab x = (c : Int) ∧ Up ab a c := by
    intro a
    constructor
    · intro q
      cases q with
      | refl => exact Or.inl rfl
      | up e q => exact Or.inr ⟨_, e, q⟩
    · rintro (rfl | ⟨c, e, q⟩)
      · exact .refl
      · exact .up e q
  have hxu : ∀ b, b ∈ A → ¬ Up ab x b := fun b hb q => hx (lay_up h hb q)
  -- the new node's room, and the others'
  have hapart : ∀ b, b ∈ A → ¬ Up ab b x → r + sz.getD x 0 ≤ p b ∨ p b + sz.getD b 0 ≤ r := by
    intro b hb hn
    rcases hcase with ⟨e, h1, h2⟩ | ⟨a, e, ha, h1, h2⟩
    · exact Or.inr (h2 b hb)
    · by_cases q : Up ab a b
      · have hab : a ≠ b := fun w => hn (w ▸ (hup a).2 (Or.inr ⟨a, e, .refl⟩))
        obtain ⟨c, c1, c2⟩ := up_child q hab
        have hc := lay_up h hb c2
        have := h.kid c a hc c1
        have := h.ins c b hc hb c2
        omega
      · rcases h.out a b ha hb q (fun w => hn ((hup b).2 (Or.inr ⟨a, e, w⟩))) with w | w
        · left; omega
        · right
          have : p a + 1 ≤ fr.getD a 0 := by rw [h.fe a ha]; omega
          omega
  refine ⟨by rw [List.length_set]; exact h.ll, hf, hr, ?_, ?_, ?_, ?_, ?_, ?_⟩
  · intro y hy
    rw [List.getD_eq_getElem?_getD, List.getElem?_set]
    by_cases e : x = y
    · subst e
      rw [if_pos rfl, if_pos (by rw [h.ll]; exact hxn), if_pos (by simp), if_pos rfl]
      rfl
    · rw [if_neg e, ← List.getD_eq_getElem?_getD, h.pe y hy]
      by_cases w : y ∈ A
      · rw [if_pos w, if_pos (List.mem_append_left _ w), if_neg (Ne.symm e)]
      · rw [if_neg w, if_neg (fun q => (hsplit y q).elim w (fun z => e z.symm))]
  · intro y hy
    rw [below_app]
    simp only [below]
    rcases hsplit y hy with q | q
    · rw [hpA y q, hfo y q, h.fe y q]; omega
    · subst q
      rw [if_pos rfl, hfx, if_neg hxx, below_zero hA]
  · intro a b ha hb hu
    rcases hsplit a ha with q1 | q1 <;> rcases hsplit b hb with q2 | q2
    · show (if a = x then r else p a) ≤ (if b = x then r else p b) ∧ _ ≤ (if a = x then r else p a) + _
      rw [hpA a q1, hpA b q2]
      exact h.ins a b q1 q2 hu
    · subst q2
      show (if a = b then r else p a) ≤ (if b = b then r else p b) ∧ (if b = b then r else p b) + _ ≤ (if a = b then r else p a) + _
      rw [hpA a q1, hpx]
      rcases (hup a).1 hu with w | ⟨c, e, w⟩
      · exact absurd w (hne a q1)
      · rcases hcase with ⟨e', _⟩ | ⟨a', e', ha', h1, h2⟩
        · omega
        · have : c = a' := by omega
          subst this
          have := h.ins a c q1 ha' w
          have : p c + 1 ≤ fr.getD c 0 := by rw [h.fe c ha']; omega
          omega
    · subst q1
      exact absurd hu (hxu b q2)
    · subst q1; subst q2
      exact ⟨Nat.le_refl _, Nat.le_refl _⟩
  · intro a b ha hb h1 h2
    rcases hsplit a ha with q1 | q1 <;> rcases hsplit b hb with q2 | q2
    · show (if a = x then r else p a) + _ ≤ (if b = x then r else p b) ∨ (if b = x then r else p b) + _ ≤ (if a = x then r else p a)
      rw [hpA a q1, hpA b q2]
      exact h.out a b q1 q2 h1 h2
    · subst q2
      show (if a = b then r else p a) + _ ≤ (if b = b then r else p b) ∨ (if b = b then r else p b) + _ ≤ (if a = b then r else p a)
      rw [hpA a q1, hpx]
      exact (hapart a q1 h1).symm
    · subst q1
      show (if a = a then r else p a) + _ ≤ (if b = a then r else p b) ∨ (if b = a then r else p b) + _ ≤ (if a = a then r else p a)
      rw [hpA b q2, hpx]
      exact hapart b q2 h2
    · subst q1; subst q2
      exact absurd .refl h1
  · intro c a hc he
    rcases hsplit c hc with q | q
    · obtain ⟨k1, k2, k3⟩ := h.kid c a q he
      refine ⟨List.mem_append_left _ k1, ?_⟩
      show (if a = x then r else p a) + 1 ≤ (if c = x then r else p c) ∧ (if c = x then r else p c) + _ ≤ _
      rw [hpA a k1, hpA c q, hfo a k1]
      exact ⟨k2, by omega⟩
    · subst q
      rcases hcase with ⟨e', _⟩ | ⟨a', e', ha', h1, h2⟩
      · omega
      · have : a = a' := by omega
        subst this
        refine ⟨List.mem_append_left _ ha', ?_⟩
        show (if a = c then r else p a) + 1 ≤ (if c = c then r else p c) ∧ (if c = c then r else p c) + _ ≤ _
        rw [hpA a ha', hpx, hfo a ha', if_pos e']
        have : p a + 1 ≤ fr.getD a 0 := by rw [h.fe a ha']; omega
        exact ⟨by omega, by omega⟩
  · intro c hc he
    rcases hsplit c hc with q | q
    · show (if c = x then r else p c) + _ ≤ _
      rw [hpA c q]
      have := h.top c q he
      omega
    · subst q
      show (if c = c then r else p c) + _ ≤ _
      rw [hpx]
      rcases hcase with ⟨_, h1, _⟩ | ⟨a, e, _⟩
      · exact h1
      · omega

theorem lay_start (n : Nat) (ab : Nat → Int) (sz : List Nat) : LayAt n ab sz [] (List.replicate n (-1)) (List.replicate n 0) 0 (fun _ => 0) := by
  refine ⟨by simp, by simp, rfl, fun x hx => ?_, fun x hx => absurd hx (by simp), fun a b ha => absurd ha (by simp), fun a b ha => absurd ha (by simp), fun c a hc => absurd hc (by simp), fun c hc => absurd hc (by simp)⟩
  rw [List.getD_eq_getElem?_getD, List.getElem?_replicate, if_pos hx, if_neg (by simp)]
  rfl
theorem lay_all (h : OrdOk n ab o) {sz : List Nat} (hs : SizeAt n ab o sz) {A B : List Nat} (ho : o = A ++ B) {pl : List Int} {fr : List Nat} {roots : Nat} {p : Nat → Nat} (hl : LayAt n ab sz A pl fr roots p) :
    ∃ fr' roots' p', LayAt n ab sz o (layF ab sz B pl fr roots) fr' roots' p' := by
  induction B generalizing A pl fr roots p with
  | nil => exact ⟨fr, roots, p, by rw [ho, List.append_nil]; exact hl⟩
  | cons x B ih =>
    have hnd := h.nd
    rw [ho, List.nodup_append] at hnd
    obtain ⟨_, hnd2, hnd3⟩ := hnd
    rw [List.nodup_cons] at hnd2
    have hxA : x ∉ A := fun q => hnd3 x q x (by simp) rfl
    have hxo : x ∈ o := by rw [ho]; simp
    have hxn : x < n := h.lt x hxo
    have hpos : 0 < sz.getD x 0 := by rw [hs.eq x hxn, if_pos hxo]; omega
    have hroots : ∀ c ∈ A, ab c = -1 ∨ ∃ a : Nat, ab c = (a : Int) ∧ a ∈ A := by
      intro c hc
      obtain ⟨A1, A2, hA⟩ := List.append_of_mem hc
      rcases h.up A1 c (A2 ++ x :: B) (by rw [ho, hA]; simp) with q | ⟨a, q, qa⟩
      · exact Or.inl q
      · exact Or.inr ⟨a, q, by rw [hA]; simp [qa]⟩
    have hkid : ∀ c ∈ A, ab c ≠ (x : Int) := by
      intro c hc e
      rcases hroots c hc with q | ⟨a, q, qa⟩
      · omega
      · exact hxA (by rw [show x = a by omega]; exact qa)
    unfold layF
    rcases h.up A x B ho with hr | ⟨a, ha, haA⟩
    · rw [if_neg (show ¬ (0 : Int) ≤ ab x by omega)]
      have e1 : below ab sz (-1) (A ++ [x]) = roots + sz.getD x 0 := by rw [below_app, ← hl.rt]; simp only [below]; rw [if_pos hr]; rfl
      have hF : ∀ q, (fr.set x (roots + 1)).getD q 0 = if q = x then roots + 1 else fr.getD q 0 := fun q => getD_set' _ _ _ _ (by rw [hl.fl]; exact hxn)
      refine ih (A := A ++ [x]) (by rw [ho]; simp) (lay_one hl hxA hxn hpos hkid (by rw [List.length_set]; exact hl.fl) e1.symm (by omega) (by rw [hF, if_pos rfl]) (fun y hy => ?_) (Or.inl ⟨hr, Nat.le_refl _, fun b hb => ?_⟩))
      · rw [hF, if_neg (fun e => hxA (by rw [← e]; exact hy)), if_neg (show ¬ ab x = (y : Int) by omega)]
        omega
      · exact lay_root hl (fun c hc => (hroots c hc).imp id (fun ⟨a, q, _⟩ => ⟨a, q⟩)) (p b + 1) hb (by omega)
    · have hax : a ≠ x := fun e => hxA (by rw [← e]; exact haA)
      have han : a < n := h.lt a (by rw [ho]; simp [haA])
      rw [if_pos (show (0 : Int) ≤ ab x by omega), show (ab x).toNat = a by omega]
      have e1 : below ab sz (-1) (A ++ [x]) = roots := by rw [below_app, ← hl.rt]; simp only [below]; rw [if_neg (show ¬ ab x = -1 by omega)]; omega
      have hF : ∀ q, ((fr.set x (fr.getD a 0 + 1)).set a (fr.getD a 0 + sz.getD x 0)).getD q 0 = if q = a then fr.getD a 0 + sz.getD x 0 else if q = x then fr.getD a 0 + 1 else fr.getD q 0 := by
        intro q
        rw [getD_set' _ _ _ _ (by rw [List.length_set, hl.fl]; exact han), getD_set' _ _ _ _ (by rw [hl.fl]; exact hxn)]
      have hsz := hs.eq a han
      rw [if_pos (show a ∈ o by rw [ho]; simp [haA]), ho, below_app] at hsz
      simp only [below] at hsz
      rw [if_pos ha] at hsz
      have hfe := hl.fe a haA
      refine ih (A := A ++ [x]) (by rw [ho]; simp) (lay_one hl hxA hxn hpos hkid (by rw [List.length_set, List.length_set]; exact hl.fl) e1.symm (Nat.le_refl _) (by rw [hF, if_neg (Ne.symm hax), if_pos rfl]) (fun y hy => ?_) (Or.inr ⟨a, ha, haA, rfl, by omega⟩))
      have hyx : y ≠ x := fun e => hxA (by rw [← e]; exact hy)
      rw [hF, if_neg hyx, ha]
      by_cases e : y = a
      · subst e; rw [if_pos rfl, if_pos rfl]
      · rw [if_neg e, if_neg (show ¬ (a : Int) = (y : Int) by omega)]
        omega

/-- A forest's places and sizes, as New lays them. -/
def forP (ab : Nat → Int) (n : Nat) (o : List Nat) : List Int := layF ab (sizeF ab o.reverse (List.replicate n 0)) o (List.replicate n (-1)) (List.replicate n 0) 0
def forS (ab : Nat → Int) (n : Nat) (o : List Nat) : List Nat := sizeF ab o.reverse (List.replicate n 0)
/-- WHO STANDS OVER WHOM, by places. -/
theorem forest_over (h : OrdOk n ab o) : (forP ab n o).length = n ∧ (forS ab n o).length = n ∧ ∀ a b, a < n → b < n →
    (((forP ab n o).getD a (-1) ≤ (forP ab n o).getD b (-1) ∧ (forP ab n o).getD b (-1) < (forP ab n o).getD a (-1) + ((forS ab n o).getD a 0 : Int)) ↔ a ∈ o ∧ b ∈ o ∧ Up ab a b) := by
  have hs : SizeAt n ab o (forS ab n o) := size_all h (R := o.reverse) (B := []) (by simp) (size_start n ab)
  obtain ⟨fr, roots, p, hl⟩ := lay_all h hs (A := []) (B := o) rfl (lay_start n ab (forS ab n o))
  have hl' : LayAt n ab (forS ab n o) o (forP ab n o) fr roots p := hl
  clear hl
  refine ⟨hl'.ll, hs.len, fun a b ha hb => ?_⟩
  have ea := hl'.pe a ha
  have eb := hl'.pe b hb
  have sa := hs.eq a ha
  have sb := hs.eq b hb
  by_cases oa : a ∈ o
  · rw [if_pos oa] at ea sa
    by_cases ob : b ∈ o
    · rw [if_pos ob] at eb sb
      rw [ea, eb]
      constructor
      · rintro ⟨h1, h2⟩
        refine ⟨oa, ob, ?_⟩
        by_cases u : Up ab a b
        · exact u
        · exfalso
          by_cases u2 : Up ab b a
          · by_cases e : a = b
            · subst e; exact u .refl
            · obtain ⟨c, c1, c2⟩ := up_child u2 (Ne.symm e)
              have hc := lay_up hl' oa c2
              have := hl'.kid c b hc c1
              have := hl'.ins c a hc oa c2
              omega
          · rcases hl'.out a b oa ob u u2 with w | w <;> omega
      · rintro ⟨_, _, u⟩
        have := hl'.ins a b oa ob u
        omega
    · rw [if_neg ob] at eb
      rw [ea, eb]
      exact ⟨fun ⟨h1, _⟩ => by omega, fun ⟨_, h1, _⟩ => absurd h1 ob⟩
  · rw [if_neg oa] at ea sa
    have hz : below ab (forS ab n o) (a : Int) o = 0 := below_zero (fun c hc e => by
      obtain ⟨A1, A2, hA⟩ := List.append_of_mem hc
      rcases h.up A1 c A2 hA with q | ⟨d, q, qa⟩
      · omega
      · exact oa (by rw [show a = d by omega, hA]; simp [qa]))
    rw [ea]
    refine ⟨fun ⟨h1, h2⟩ => ?_, fun ⟨h1, _, _⟩ => absurd h1 oa⟩
    omega
end
end Go.Proofs.Ytomfmkddfgpmkaa.Fl
