/-
  Nearest nodes above, plainly: half ways of a walk's numbers, and who dominates whom.
-/
import Derived.Test.YtomfmkddfgpmkaaFWalk
namespace Go.Proofs.Ytomfmkddfgpmkaa.Fl

/-- u is met going up from w, at w too. -/
inductive Anc (par : Nat → Nat) : Nat → Nat → Prop
  | refl (u : Nat) : Anc par u u
  | up {u w : Nat} : 0 < w → Anc par u (par w) → Anc par u w

theorem Anc.trans {par : Nat → Nat} {a b c : Nat} (h : Anc par a b) (h' : Anc par b c) : Anc par a c := by
  induction h' with
  | refl => exact h
  | up hw _ ih => exact .up hw ih

theorem Anc.one {par : Nat → Nat} {w : Nat} (h : 0 < w) : Anc par (par w) w := .up h (.refl _)

/-- A way on which all nodes are such, both ends too. -/
inductive Av (E : Nat → Nat → Prop) (ok : Nat → Prop) : Nat → Nat → Prop
  | refl (u : Nat) : ok u → Av E ok u u
  | step {u v w : Nat} : Av E ok u v → E v w → ok w → Av E ok u w

section
variable {E : Nat → Nat → Prop} {ok ok' : Nat → Prop}
theorem Av.end_ok {u v : Nat} (h : Av E ok u v) : ok v := by
  cases h with
  | refl h => exact h
  | step _ _ h => exact h
theorem Av.start_ok {u v : Nat} (h : Av E ok u v) : ok u := by
  induction h with
  | refl h => exact h
  | step _ _ _ ih => exact ih
theorem Av.mono {u v : Nat} (h : Av E ok u v) (hm : ∀ x, ok x → ok' x) : Av E ok' u v := by
  induction h with
  | refl h => exact .refl _ (hm _ h)
  | step _ he h ih => exact .step ih he (hm _ h)
theorem Av.trans {u v w : Nat} (h : Av E ok u v) (h' : Av E ok v w) : Av E ok u w := by
  induction h' with
  | refl _ => exact h
  | step _ he ho ih => exact .step ih he ho
theorem Av.head {u v w : Nat} (ho : ok u) (he : E u v) (h : Av E ok v w) : Av E ok u w := (Av.step (.refl u ho) he h.start_ok).trans h
end

/-- The numbers of a walk: each goes up to a lesser one, and what goes on to a greater one stands above it. -/
structure Nums3 (m : Nat) (E : Nat → Nat → Prop) (par : Nat → Nat) : Prop where
  lt : ∀ i, 0 < i → i < m → par i < i
  edge : ∀ i, 0 < i → i < m → E (par i) i
  bound : ∀ u v, E u v → u < m ∧ v < m
  on : ∀ u v, E u v → u < v → Anc par u v
  btw : ∀ u v w, Anc par u w → u ≤ v → v ≤ w → w < m → Anc par u v

section
variable {m : Nat} {E : Nat → Nat → Prop} {par : Nat → Nat}
theorem Anc.le (hp : ∀ i, 0 < i → i < m → par i < i) {u w : Nat} (h : Anc par u w) (hw : w < m) : u ≤ w := by
  induction h with
  | refl => exact Nat.le_refl _
  | up h0 _ ih => have h1 := hp _ h0 hw; have := ih (by omega); omega
theorem anc_zero (hp : ∀ i, 0 < i → i < m → par i < i) (w : Nat) (hw : w < m) : Anc par 0 w := by
  induction w using Nat.strongRecOn with
  | ind w ih =>
    rcases Nat.eq_zero_or_pos w with h | h
    · subst h; exact .refl _
    · have h1 := hp w h hw
      exact .up h (ih (par w) h1 (by omega))

/-- Down the tree all nodes lie between. -/
theorem Nums3.tree (D : Nums3 m E par) {ok : Nat → Prop} {u w : Nat} (h : Anc par u w) (hw : w < m) (ho : ∀ x, u ≤ x → x ≤ w → ok x) : Av E ok u w := by
  induction h with
  | refl => exact .refl _ (ho _ (Nat.le_refl _) (Nat.le_refl _))
  | @up w h0 h1 ih =>
    have h2 := D.lt _ h0 hw
    have h3 := h1.le D.lt (by omega)
    exact .step (ih (by omega) (fun x a b => ho x a (by omega))) (D.edge _ h0 hw) (ho _ (by omega) (Nat.le_refl _))
/-- A way through greater numbers alone stays below. -/
theorem Nums3.below (D : Nums3 m E par) {u z : Nat} (h : Av E (fun x => u ≤ x) u z) : Anc par u z := by
  generalize hs : u = s at h
  have h' : Av E (fun x => u ≤ x) s z := by rw [hs]; exact h
  clear h
  induction h' with
  | refl _ => exact hs ▸ .refl _
  | @step v w h1 he ho ih =>
    have hb := D.bound _ _ he
    rcases Nat.lt_or_ge v w with h2 | h2
    · exact ih.trans (D.on _ _ he h2)
    · exact D.btw _ _ _ ih (hs ▸ ho) h2 hb.1
/-- x goes on to w by greater numbers than w's alone. -/
def Sp (E : Nat → Nat → Prop) (x w : Nat) : Prop := ∃ y, E x y ∧ Av E (fun z => w ≤ z) y w
/-- The least number from which that is so. -/
structure Half (E : Nat → Nat → Prop) (h w : Nat) : Prop where
  lt : h < w
  sp : Sp E h w
  least : ∀ x, x < w → Sp E x w → h ≤ x
/-- d stands on every way from 0 to w. -/
def DomN (E : Nat → Nat → Prop) (d w : Nat) : Prop := ¬ Av E (fun x => x ≠ d) 0 w

theorem DomN.le (D : Nums3 m E par) {d w : Nat} (h : DomN E d w) (hw : w < m) : d ≤ w := by
  rcases Nat.lt_or_ge w d with h1 | h1
  · exact absurd (D.tree (anc_zero D.lt w hw) hw (fun x _ hx => by omega)) h
  · exact h1
theorem dom_self (E : Nat → Nat → Prop) (w : Nat) : DomN E w w := fun h => h.end_ok rfl

/-- The last of a way below w. -/
theorem last_below {ok : Nat → Prop} {w z : Nat} (h0 : 0 < w) (h : Av E ok 0 z) (hz : w ≤ z) : ∃ x y, x < w ∧ Av E ok 0 x ∧ E x y ∧ Av E (fun q => w ≤ q) y z := by
  generalize hs : 0 = s at h
  have h' : Av E ok s z := h
  clear h
  induction h' with
  | refl _ => omega
  | @step v z h1 he ho ih =>
    rcases Nat.lt_or_ge v w with h2 | h2
    · exact ⟨v, z, h2, hs ▸ h1, he, .refl _ hz⟩
    · obtain ⟨x, y, a, b, c, d⟩ := ih h2
      exact ⟨x, y, a, b, c, .step d he hz⟩

/-- WHO DOMINATES: of what dominates the one from which the walk came, what isn't below the half way. -/
theorem dom_half (D : Nums3 m E par) {w h : Nat} (h0 : 0 < w) (hw : w < m) (H : Half E h w) (d : Nat) : (DomN E d w ∧ d ≠ w) ↔ (DomN E d (par w) ∧ d ≤ h) := by
  constructor
  · rintro ⟨hd, hne⟩
    have hlt : d < w := by have := hd.le D hw; omega
    refine ⟨fun hp => hd (.step hp (D.edge _ h0 hw) (Ne.symm hne)), ?_⟩
    rcases Nat.lt_or_ge h d with h1 | h1
    · obtain ⟨y, he, ha⟩ := H.sp
      have hm := D.bound _ _ he
      have a0 : Av E (fun x => x ≠ d) 0 h := D.tree (anc_zero D.lt h hm.1) hm.1 (fun x _ hx => by omega)
      have a1 : Av E (fun x => x ≠ d) y w := ha.mono (fun x hx => by omega)
      exact absurd ((Av.step a0 he a1.start_ok).trans a1) hd
    · exact h1
  · rintro ⟨hd, hle⟩
    have hl := H.lt
    refine ⟨fun ha => ?_, by omega⟩
    obtain ⟨x, y, hx, a0, he, a1⟩ := last_below h0 ha (Nat.le_refl _)
    have h1 := H.least x hx ⟨y, he, a1⟩
    have h2 : x ≠ d := a0.end_ok
    have an : Anc par x w := D.below (Av.head (Nat.le_refl _) he (a1.mono (fun q hq => by omega)))
    have an' : Anc par x (par w) := by
      cases an with
      | refl => omega
      | up _ h => exact h
    have hp := D.lt w h0 hw
    exact hd (a0.trans (D.tree an' (by omega) (fun q hq _ => by omega)))

/-- Going up by near. -/
theorem dom_near (D : Nums3 m E par) {half near : Nat → Nat} (H : ∀ w, 0 < w → w < m → Half E (half w) w)
    (hn : ∀ w, 0 < w → w < m → near w < w ∧ ∀ d, Anc near d (near w) ↔ (Anc near d (par w) ∧ d ≤ half w)) (w : Nat) (hw : w < m) (d : Nat) : Anc near d w ↔ DomN E d w := by
  induction w using Nat.strongRecOn generalizing d with
  | ind w ih =>
    rcases Nat.eq_zero_or_pos w with h | h
    · subst h
      constructor
      · intro ha
        cases ha with
        | refl => exact dom_self E 0
        | up h0 _ => omega
      · intro hd
        have := hd.le D hw
        obtain rfl : d = 0 := by omega
        exact .refl _
    · have hp := D.lt w h hw
      have h1 := dom_half D h hw (H w h hw) d
      have h2 := (hn w h hw).2 d
      have h3 := ih (par w) hp (by omega) d
      by_cases e : d = w
      · subst e
        exact ⟨fun _ => dom_self E d, fun _ => .refl _⟩
      · constructor
        · intro ha
          cases ha with
          | refl => exact absurd rfl e
          | up _ ha => exact (h1.2 ⟨h3.1 (h2.1 ha).1, (h2.1 ha).2⟩).1
        · intro hd
          have h4 := h1.1 ⟨hd, e⟩
          exact .up h (h2.2 ⟨h3.2 h4.1, h4.2⟩)

/-- HALF WAYS: the least of where the walk came from, and of each that goes on to w itself, if it isn't greater, or of the half ways of all greater numbers above it. -/
theorem half_of (D : Nums3 m E par) {w h : Nat} {half : Nat → Nat} (h0 : 0 < w) (hw : w < m) (H : ∀ u, w < u → u < m → Half E (half u) u)
    (hp : h ≤ par w) (h1 : ∀ v, E v w → v ≤ w → h ≤ v) (h2 : ∀ v u, E v w → w < u → Anc par u v → h ≤ half u)
    (h3 : h = par w ∨ (E h w ∧ h ≤ w) ∨ ∃ v u, E v w ∧ w < u ∧ Anc par u v ∧ h = half u) : Half E h w := by
  have hpl := D.lt w h0 hw
  refine ⟨by omega, ?_, ?_⟩
  · rcases h3 with e | ⟨e, _⟩ | ⟨v, u, e, hu, ha, he⟩
    · exact e ▸ ⟨w, D.edge _ h0 hw, .refl _ (Nat.le_refl _)⟩
    · exact ⟨w, e, .refl _ (Nat.le_refl _)⟩
    · have hv := (D.bound _ _ e).1
      have hle := ha.le D.lt hv
      obtain ⟨y, a, b⟩ := (H u hu (by omega)).sp
      refine ⟨y, he ▸ a, (b.mono (fun x hx => by omega)).trans (.step (D.tree ha hv (fun x hx _ => by omega)) e (Nat.le_refl _))⟩
  · rintro x hx ⟨y, he, ha⟩
    have key : ∀ z, Av E (fun q => w ≤ q) y z → h ≤ x ∨ ∃ u, w < u ∧ Sp E x u ∧ Av E (fun q => u ≤ q) u z := by
      intro z hz
      induction hz with
      | refl hv =>
        by_cases e : y = w
        · exact Or.inl (h1 x (e ▸ he) (by omega))
        · exact Or.inr ⟨y, by omega, ⟨y, he, .refl _ (Nat.le_refl _)⟩, .refl _ (Nat.le_refl _)⟩
      | @step v z h4 h5 h6 ih =>
        rcases ih with h7 | ⟨u, hu, hs, ha'⟩
        · exact Or.inl h7
        · rcases Nat.lt_or_ge z u with h8 | h8
          · by_cases e : z = w
            · have an := D.below ha'
              have hl := an.le D.lt (D.bound _ _ h5).1
              exact Or.inl (Nat.le_trans (h2 v u (e ▸ h5) hu an) ((H u hu (by have := (D.bound _ _ h5).1; omega)).least x (by omega) hs))
            · refine Or.inr ⟨z, by omega, ?_, .refl _ (Nat.le_refl _)⟩
              obtain ⟨y', e1, e2⟩ := hs
              exact ⟨y', e1, (e2.mono (fun q hq => by omega)).trans (.step (ha'.mono (fun q hq => by omega)) h5 (Nat.le_refl _))⟩
          · exact Or.inr ⟨u, hu, hs, .step ha' h5 h8⟩
    rcases key w ha with h4 | ⟨u, hu, _, h5⟩
    · exact h4
    · have := h5.end_ok
      omega
end
end Go.Proofs.Ytomfmkddfgpmkaa.Fl
