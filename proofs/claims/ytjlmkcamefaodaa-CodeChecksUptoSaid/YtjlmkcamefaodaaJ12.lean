/-
  Joined: FNears.
-/
import Derived.Test.YtjlmkcamefaodaaJ06
import Derived.Test.YtjlmkcamefaodaaJ11
/-! FNears: Joined: FSemi, FHalf, FNear. -/

namespace Go.Proofs.Ytjlmkcamefaodaa.Fl

/-- u is met going up from w, at w too. -/
inductive Anc (par : Nat → Nat) : Nat → Nat → Prop
  | refl (u : Nat) : Anc par u u
  | up {u w : Nat} : 0 < w → Anc par u (par w) → Anc par u w

theorem Anc.trans {par : Nat → Nat} {a b c : Nat} (h : Anc par a b) (h' : Anc par b c) : Anc par a c := by
  induction h' with
  | refl => exact h
  | up hw _ ih => exact .up hw ih

theorem Anc.one {par : Nat → Nat} {w : Nat} (h : 0 < w) : Anc par (par w) w := .up h (.refl _)

/-- A way on which all nodes are such, both ends too. -/
inductive Av (E : Nat → Nat → Prop) (ok : Nat → Prop) : Nat → Nat → Prop
  | refl (u : Nat) : ok u → Av E ok u u
  | step {u v w : Nat} : Av E ok u v → E v w → ok w → Av E ok u w

section
variable {E : Nat → Nat → Prop} {ok ok' : Nat → Prop}
theorem Av.end_ok {u v : Nat} (h : Av E ok u v) : ok v := by
  cases h with
  | refl h => exact h
  | step _ _ h => exact h
theorem Av.start_ok {u v : Nat} (h : Av E ok u v) : ok u := by
  induction h with
  | refl h => exact h
  | step _ _ _ ih => exact ih
theorem Av.mono {u v : Nat} (h : Av E ok u v) (hm : ∀ x, ok x → ok' x) : Av E ok' u v := by
  induction h with
  | refl h => exact .refl _ (hm _ h)
  | step _ he h ih => exact .step ih he (hm _ h)
theorem Av.trans {u v w : Nat} (h : Av E ok u v) (h' : Av E ok v w) : Av E ok u w := by
  induction h' with
  | refl _ => exact h
  | step _ he ho ih => exact .step ih he ho
theorem Av.head {u v w : Nat} (ho : ok u) (he : E u v) (h : Av E ok v w) : Av E ok u w := (Av.step (.refl u ho) he h.start_ok).trans h
end

/-- The numbers of a walk: each goes up to a lesser one, and what goes on to a greater one stands above it. -/
structure Nums3 (m : Nat) (E : Nat → Nat → Prop) (par : Nat → Nat) : Prop where
  lt : ∀ i, 0 < i → i < m → par i < i
  edge : ∀ i, 0 < i → i < m → E (par i) i
  bound : ∀ u v, E u v → u < m ∧ v < m
  on : ∀ u v, E u v → u < v → Anc par u v
  btw : ∀ u v w, Anc par u w → u ≤ v → v ≤ w → w < m → Anc par u v

section
variable {m : Nat} {E : Nat → Nat → Prop} {par : Nat → Nat}
theorem Anc.le (hp : ∀ i, 0 < i → i < m → par i < i) {u w : Nat} (h : Anc par u w) (hw : w < m) : u ≤ w := by
  induction h with
  | refl => exact Nat.le_refl _
  | up h0 _ ih => have h1 := hp _ h0 hw; have := ih (by omega); omega
theorem anc_zero (hp : ∀ i, 0 < i → i < m → par i < i) (w : Nat) (hw : w < m) : Anc par 0 w := by
  induction w using Nat.strongRecOn with
  | ind w ih =>
    rcases Nat.eq_zero_or_pos w with h | h
    · subst h; exact .refl _
    · have h1 := hp w h hw
      exact .up h (ih (par w) h1 (by omega))

/-- Down the tree all nodes lie between. -/
theorem Nums3.tree (D : Nums3 m E par) {ok : Nat → Prop} {u w : Nat} (h : Anc par u w) (hw : w < m) (ho : ∀ x, u ≤ x → x ≤ w → ok x) : Av E ok u w := by
  induction h with
  | refl => exact .refl _ (ho _ (Nat.le_refl _) (Nat.le_refl _))
  | @up w h0 h1 ih =>
    have h2 := D.lt _ h0 hw
    have h3 := h1.le D.lt (by omega)
    exact .step (ih (by omega) (fun x a b => ho x a (by omega))) (D.edge _ h0 hw) (ho _ (by omega) (Nat.le_refl _))
/-- A way through greater numbers alone stays below. -/
theorem Nums3.below (D : Nums3 m E par) {u z : Nat} (h : Av E (fun x => u ≤ x) u z) : Anc par u z := by
  generalize hs : u = s at h
  have h' : Av E (fun x => u ≤ x) s z := by rw [hs]; exact h
  clear h
  induction h' with
  | refl _ => exact hs ▸ .refl _
  | @step v w h1 he ho ih =>
    have hb := D.bound _ _ he
    rcases Nat.lt_or_ge v w with h2 | h2
    · exact ih.trans (D.on _ _ he h2)
    · exact D.btw _ _ _ ih (hs ▸ ho) h2 hb.1
/-- x goes on to w by greater numbers than w's alone. -/
def Sp (E : Nat → Nat → Prop) (x w : Nat) : Prop := ∃ y, E x y ∧ Av E (fun z => w ≤ z) y w
/-- The least number from which that is so. -/
structure Half (E : Nat → Nat → Prop) (h w : Nat) : Prop where
  lt : h < w
  sp : Sp E h w
  least : ∀ x, x < w → Sp E x w → h ≤ x
/-- d stands on every way from 0 to w. -/
def DomN (E : Nat → Nat → Prop) (d w : Nat) : Prop := ¬ Av E (fun x => x ≠ d) 0 w

theorem DomN.le (D : Nums3 m E par) {d w : Nat} (h : DomN E d w) (hw : w < m) : d ≤ w := by
  rcases Nat.lt_or_ge w d with h1 | h1
  · exact absurd (D.tree (anc_zero D.lt w hw) hw (fun x _ hx => by omega)) h
  · exact h1
theorem dom_self (E : Nat → Nat → Prop) (w : Nat) : DomN E w w := fun h => h.end_ok rfl

/-- The last of a way below w. -/
theorem last_below {ok : Nat → Prop} {w z : Nat} (h0 : 0 < w) (h : Av E ok 0 z) (hz : w ≤ z) : ∃ x y, x < w ∧ Av E ok 0 x ∧ E x y ∧ Av E (fun q => w ≤ q) y z := by
  generalize hs : 0 = s at h
  have h' : Av E ok s z := h
  clear h
  induction h' with
  | refl _ => omega
  | @step v z h1 he ho ih =>
    rcases Nat.lt_or_ge v w with h2 | h2
    · exact ⟨v, z, h2, hs ▸ h1, he, .refl _ hz⟩
    · obtain ⟨x, y, a, b, c, d⟩ := ih h2
      exact ⟨x, y, a, b, c, .step d he hz⟩

/-- WHO DOMINATES: of what dominates the one from which the walk came, what isn't below the half way. -/
theorem dom_half (D : Nums3 m E par) {w h : Nat} (h0 : 0 < w) (hw : w < m) (H : Half E h w) (d : Nat) : (DomN E d w ∧ d ≠ w) ↔ (DomN E d (par w) ∧ d ≤ h) := by
  constructor
  · rintro ⟨hd, hne⟩
    have hlt : d < w := by have := hd.le D hw; omega
    refine ⟨fun hp => hd (.step hp (D.edge _ h0 hw) (Ne.symm hne)), ?_⟩
    rcases Nat.lt_or_ge h d with h1 | h1
    · obtain ⟨y, he, ha⟩ := H.sp
      have hm := D.bound _ _ he
      have a0 : Av E (fun x => x ≠ d) 0 h := D.tree (anc_zero D.lt h hm.1) hm.1 (fun x _ hx => by omega)
      have a1 : Av E (fun x => x ≠ d) y w := ha.mono (fun x hx => by omega)
      exact absurd ((Av.step a0 he a1.start_ok).trans a1) hd
    · exact h1
  · rintro ⟨hd, hle⟩
    have hl := H.lt
    refine ⟨fun ha => ?_, by omega⟩
    obtain ⟨x, y, hx, a0, he, a1⟩ := last_below h0 ha (Nat.le_refl _)
    have h1 := H.least x hx ⟨y, he, a1⟩
    have h2 : x ≠ d := a0.end_ok
    have an : Anc par x w := D.below (Av.head (Nat.le_refl _) he (a1.mono (fun q hq => by omega)))
    have an' : Anc par x (par w) := by
      cases an with
      | refl => omega
      | up _ h => exact h
    have hp := D.lt w h0 hw
    exact hd (a0.trans (D.tree an' (by omega) (fun q hq _ => by omega)))

/-- Going up by near. -/
theorem dom_near (D : Nums3 m E par) {half near : Nat → Nat} (H : ∀ w, 0 < w → w < m → Half E (half w) w)
    (hn : ∀ w, 0 < w → w < m → near w < w ∧ ∀ d, Anc near d (near w) ↔ (Anc near d (par w) ∧ d ≤ half w)) (w : Nat) (hw : w < m) (d : Nat) : Anc near d w ↔ DomN E d w := by
  induction w using Nat.strongRecOn generalizing d with
  | ind w ih =>
    rcases Nat.eq_zero_or_pos w with h | h
    · subst h
      constructor
      · intro ha
        cases ha with
        | refl => exact dom_self E 0
        | up h0 _ => omega
      · intro hd
        have := hd.le D hw
        obtain rfl : d = 0 := by omega
        exact .refl _
    · have hp := D.lt w h hw
      have h1 := dom_half D h hw (H w h hw) d
      have h2 := (hn w h hw).2 d
      have h3 := ih (par w) hp (by omega) d
      by_cases e : d = w
      · subst e
        exact ⟨fun _ => dom_self E d, fun _ => .refl _⟩
      · constructor
        · intro ha
          cases ha with
          | refl => exact absurd rfl e
          | up _ ha => exact (h1.2 ⟨h3.1 (h2.1 ha).1, (h2.1 ha).2⟩).1
        · intro hd
          have h4 := h1.1 ⟨hd, e⟩
          exact .up h (h2.2 ⟨h3.2 h4.1, h4.2⟩)

/-- HALF WAYS: the least of where the walk came from, and of each that goes on to w itself, if it isn't greater, or of the half ways of all greater numbers above it. -/
theorem half_of (D : Nums3 m E par) {w h : Nat} {half : Nat → Nat} (h0 : 0 < w) (hw : w < m) (H : ∀ u, w < u → u < m → Half E (half u) u)
    (hp : h ≤ par w) (h1 : ∀ v, E v w → v ≤ w → h ≤ v) (h2 : ∀ v u, E v w → w < u → Anc par u v → h ≤ half u)
    (h3 : h = par w ∨ (E h w ∧ h ≤ w) ∨ ∃ v u, E v w ∧ w < u ∧ Anc par u v ∧ h = half u) : Half E h w := by
  have hpl := D.lt w h0 hw
  refine ⟨by omega, ?_, ?_⟩
  · rcases h3 with e | ⟨e, _⟩ | ⟨v, u, e, hu, ha, he⟩
    · exact e ▸ ⟨w, D.edge _ h0 hw, .refl _ (Nat.le_refl _)⟩
    · exact ⟨w, e, .refl _ (Nat.le_refl _)⟩
    · have hv := (D.bound _ _ e).1
      have hle := ha.le D.lt hv
      obtain ⟨y, a, b⟩ := (H u hu (by omega)).sp
      refine ⟨y, he ▸ a, (b.mono (fun x hx => by omega)).trans (.step (D.tree ha hv (fun x hx _ => by omega)) e (Nat.le_refl _))⟩
  · rintro x hx ⟨y, he, ha⟩
    have key : ∀ z, Av E (fun q => w ≤ q) y z → h ≤ x ∨ ∃ u, w < u ∧ Sp E x u ∧ Av E (fun q => u ≤ q) u z := by
      intro z hz
      induction hz with
      | refl hv =>
        by_cases e : y = w
        · exact Or.inl (h1 x (e ▸ he) (by omega))
        · exact Or.inr ⟨y, by omega, ⟨y, he, .refl _ (Nat.le_refl _)⟩, .refl _ (Nat.le_refl _)⟩
      | @step v z h4 h5 h6 ih =>
        rcases ih with h7 | ⟨u, hu, hs, ha'⟩
        · exact Or.inl h7
        · rcases Nat.lt_or_ge z u with h8 | h8
          · by_cases e : z = w
            · have an := D.below ha'
              have hl := an.le D.lt (D.bound _ _ h5).1
              exact Or.inl (Nat.le_trans (h2 v u (e ▸ h5) hu an) ((H u hu (by have := (D.bound _ _ h5).1; omega)).least x (by omega) hs))
            · refine Or.inr ⟨z, by omega, ?_, .refl _ (Nat.le_refl _)⟩
              obtain ⟨y', e1, e2⟩ := hs
              exact ⟨y', e1, (e2.mono (fun q hq => by omega)).trans (.step (ha'.mono (fun q hq => by omega)) h5 (Nat.le_refl _))⟩
          · exact Or.inr ⟨u, hu, hs, .step ha' h5 h8⟩
    rcases key w ha with h4 | ⟨u, hu, _, h5⟩
    · exact h4
    · have := h5.end_ok
      omega
end
end Go.Proofs.Ytjlmkcamefaodaa.Fl

/-! Half ways and nearest nodes above as the climb reckons them, plainly: what is made short stays right. -/

namespace Go.Proofs.Ytjlmkcamefaodaa.Fl

theorem getD_set' (m : List Nat) (j x q : Nat) (hj : j < m.length) : (m.set j x).getD q 0 = if q = j then x else m.getD q 0 := by
  rw [List.getD_eq_getElem?_getD, List.getD_eq_getElem?_getD, List.getElem?_set]
  by_cases h : j = q
  · subst h; simp [hj]
  · rw [if_neg h, if_neg (Ne.symm h)]

/-- Of two that stand above one, the one stands above the other. -/
theorem anc_chain {par : Nat → Nat} {m : Nat} (hp : ∀ i, 0 < i → i < m → par i < i) {z n b : Nat} (h1 : Anc par z b) (h2 : Anc par n b) (hle : z ≤ n) (hb : b < m) : Anc par z n := by
  induction h2 with
  | refl => exact h1
  | @up b h0 h3 ih =>
    have hl := hp b h0 hb
    have hn := h3.le hp (by omega)
    cases h1 with
    | refl => omega
    | up _ h => exact ih h (by omega)
theorem Anc.congr {f g : Nat → Nat} {m : Nat} (hp : ∀ i, 0 < i → i < m → f i < i) (he : ∀ i, i < m → g i = f i) {d v : Nat} (h : Anc f d v) (hv : v < m) : Anc g d v := by
  induction h with
  | refl => exact .refl _
  | @up w h0 _ ih =>
    have := hp w h0 hv
    exact .up h0 (by rw [he w hv]; exact ih (by omega))

/-- A climb's rows are right, as far down as n0: what was skipped is below n0, and the least of it is told. -/
structure Cl (m n0 : Nat) (par : Nat → Nat) (half up ls : List Nat) : Prop where
  ul : up.length = m
  ll : ls.length = m
  u0 : up.getD 0 0 = 0
  l0 : ls.getD 0 0 = 0
  ua : ∀ i, 0 < i → i < m → up.getD i 0 < i ∧ Anc par (up.getD i 0) i
  ub : ∀ i z, 0 < i → i < m → Anc par z i → up.getD i 0 < z → z < i → n0 < z
  lc : ∀ i, 0 < i → i < m → up.getD i 0 < ls.getD i 0 ∧ Anc par (ls.getD i 0) i ∧ ∀ z, Anc par z i → up.getD i 0 < z → half.getD (ls.getD i 0) 0 ≤ half.getD z 0

section
variable {m n0 : Nat} {par : Nat → Nat} {half up ls : List Nat}

theorem Cl.one (hp : ∀ i, 0 < i → i < m → par i < i) (h : Cl m n0 par half up ls) {b n : Nat} (hb : b < m) (hn : n0 < n) (he : up.getD b 0 = n) :
    Cl m n0 par half (up.set b (up.getD n 0)) (if half.getD (ls.getD n 0) 0 < half.getD (ls.getD b 0) 0 then ls.set b (ls.getD n 0) else ls) := by
  have hb0 : 0 < b := by
    rcases Nat.eq_zero_or_pos b with e | e
    · subst e; have := h.u0; omega
    · exact e
  obtain ⟨a1, a2⟩ := h.ua b hb0 hb
  rw [he] at a1 a2
  obtain ⟨b1, b2⟩ := h.ua n (by omega) (by omega)
  obtain ⟨c1, c2, c3⟩ := h.lc b hb0 hb
  obtain ⟨d1, d2, d3⟩ := h.lc n (by omega) (by omega)
  rw [he] at c1 c3
  have hU : ∀ q, (up.set b (up.getD n 0)).getD q 0 = if q = b then up.getD n 0 else up.getD q 0 := fun q => getD_set' _ _ _ _ (by rw [h.ul]; exact hb)
  have hL : ∀ q, (if half.getD (ls.getD n 0) 0 < half.getD (ls.getD b 0) 0 then ls.set b (ls.getD n 0) else ls).getD q 0 = if q = b ∧ half.getD (ls.getD n 0) 0 < half.getD (ls.getD b 0) 0 then ls.getD n 0 else ls.getD q 0 := by
    intro q
    by_cases hc : half.getD (ls.getD n 0) 0 < half.getD (ls.getD b 0) 0
    · rw [if_pos hc, getD_set' _ _ _ _ (by rw [h.ll]; exact hb)]
      by_cases e : q = b
      · rw [if_pos e, if_pos ⟨e, hc⟩]
      · rw [if_neg e, if_neg (fun c => e c.1)]
    · rw [if_neg hc, if_neg (fun e => hc e.2)]
  refine ⟨by rw [List.length_set]; exact h.ul, ?_, ?_, ?_, ?_, ?_, ?_⟩
  · split
    · rw [List.length_set]; exact h.ll
    · exact h.ll
  · rw [hU, if_neg (by omega)]; exact h.u0
  · rw [hL, if_neg (by omega)]; exact h.l0
  · intro i i0 hi
    rw [hU]
    by_cases e : i = b
    · subst e
      rw [if_pos rfl]
      exact ⟨by omega, b2.trans a2⟩
    · rw [if_neg e]; exact h.ua i i0 hi
  · intro i z i0 hi hz
    rw [hU]
    by_cases e : i = b
    · subst e
      rw [if_pos rfl]
      intro h1 h2
      rcases Nat.lt_or_ge n z with h3 | h3
      · exact h.ub i z i0 hi hz (by omega) h2
      · rcases Nat.lt_or_ge z n with h4 | h4
        · exact h.ub n z (by omega) (by omega) (anc_chain hp hz a2 h3 hi) h1 h4
        · omega
    · rw [if_neg e]; exact h.ub i z i0 hi hz
  · intro i i0 hi
    rw [hU, hL]
    by_cases e : i = b
    · subst e
      rw [if_pos rfl]
      by_cases hc : half.getD (ls.getD n 0) 0 < half.getD (ls.getD i 0) 0
      · rw [if_pos ⟨rfl, hc⟩]
        refine ⟨d1, d2.trans a2, fun z hz h1 => ?_⟩
        rcases Nat.lt_or_ge n z with h3 | h3
        · exact Nat.le_trans (Nat.le_of_lt hc) (c3 z hz h3)
        · exact d3 z (anc_chain hp hz a2 h3 hi) h1
      · rw [if_neg (fun e => hc e.2)]
        refine ⟨by omega, c2, fun z hz h1 => ?_⟩
        rcases Nat.lt_or_ge n z with h3 | h3
        · exact c3 z hz h3
        · exact Nat.le_trans (Nat.le_of_not_lt hc) (d3 z (anc_chain hp hz a2 h3 hi) h1)
    · rw [if_neg e, if_neg (fun q => e q.1)]
      exact h.lc i i0 hi

/-- A row of numbers, each of which goes up to the one ahead of it, the first to n. -/
def Desc (m n0 : Nat) (up : List Nat) : List Nat → Nat → Prop
  | [], _ => True
  | b :: r, n => up.getD b 0 = n ∧ n0 < n ∧ b < m ∧ Desc m n0 up r b
theorem Desc.set (h : ∀ i, 0 < i → i < m → up.getD i 0 < i) (h0 : up.getD 0 0 = 0) (hl : up.length = m) {r : List Nat} {n b x : Nat} (hd : Desc m n0 up r n) (hb : b ≤ n) (hbm : b < m) : Desc m n0 (up.set b x) r n := by
  induction r generalizing n with
  | nil => exact trivial
  | cons c r ih =>
    obtain ⟨h1, h2, h3, h4⟩ := hd
    have hc : n < c := by
      rcases Nat.eq_zero_or_pos c with e | e
      · subst e; omega
      · have := h c e h3; omega
    exact ⟨by rw [getD_set' _ _ _ _ (by omega), if_neg (by omega)]; exact h1, h2, h3, ih h4 (by omega)⟩
theorem Desc.snoc {r : List Nat} {n c : Nat} (hd : Desc m n0 up r n) (hc : up.getD c 0 = r.getLastD n) (hn : n0 < r.getLastD n) (hcm : c < m) : Desc m n0 up (r ++ [c]) n := by
  induction r generalizing n with
  | nil => exact ⟨hc, hn, hcm, trivial⟩
  | cons b r ih =>
    obtain ⟨h1, h2, h3, h4⟩ := hd
    rw [List.getLastD_cons] at hc hn
    exact ⟨h1, h2, h3, ih h4 hc hn⟩

theorem comp_ok (hp : ∀ i, 0 < i → i < m → par i < i) {r : List Nat} {n : Nat} (h : Cl m n0 par half up ls) (hd : Desc m n0 up r n) (hn : up.getD n 0 ≤ n0) :
    Cl m n0 par half (comp half r up ls n).1 (comp half r up ls n).2.1 ∧ (comp half r up ls n).1.getD (r.getLastD n) 0 ≤ n0 ∧ (comp half r up ls n).2.2 = r.getLastD n := by
  induction r generalizing n up ls with
  | nil => exact ⟨h, hn, rfl⟩
  | cons b r ih =>
    obtain ⟨h1, h2, h3, h4⟩ := hd
    have h' := h.one hp h3 h2 h1
    have hd' := h4.set (b := b) (x := up.getD n 0) (fun i a c => (h.ua i a c).1) h.u0 h.ul (Nat.le_refl _) h3
    have q := ih h' hd' (by rw [getD_set' _ _ _ _ (by rw [h.ul]; exact h3), if_pos rfl]; exact hn)
    rw [List.getLastD_cons]
    exact q

theorem path_ok (h : Cl m n0 par half up ls) {F n : Nat} (hF : n < F) (hn : n < m) :
    Desc m n0 up (pathF up (n0 + 1) F n).1.reverse (pathF up (n0 + 1) F n).2 ∧ up.getD (pathF up (n0 + 1) F n).2 0 ≤ n0 ∧ (pathF up (n0 + 1) F n).1.reverse.getLastD (pathF up (n0 + 1) F n).2 = n := by
  induction F generalizing n with
  | zero => omega
  | succ F ih =>
    unfold pathF
    by_cases hc : n0 + 1 ≤ up.getD n 0
    · rw [if_pos hc]
      have n0' : 0 < n := by
        rcases Nat.eq_zero_or_pos n with e | e
        · subst e; have := h.u0; omega
        · exact e
      have hl := (h.ua n n0' hn).1
      obtain ⟨a, b, c⟩ := ih (n := up.getD n 0) (by omega) (by omega)
      refine ⟨?_, b, ?_⟩
      · show Desc m n0 up (n :: (pathF up (n0 + 1) F (up.getD n 0)).1).reverse _
        rw [List.reverse_cons]
        exact a.snoc c.symm (by rw [c]; omega) hn
      · show (n :: (pathF up (n0 + 1) F (up.getD n 0)).1).reverse.getLastD _ = n
        rw [List.reverse_cons]
        simp
    · rw [if_neg hc]
      exact ⟨trivial, by show up.getD n 0 ≤ n0; omega, rfl⟩

/-- WHAT LOWEST FINDS. -/
def LowV (n0 : Nat) (par : Nat → Nat) (half : List Nat) (v val : Nat) : Prop :=
  (v ≤ n0 ∧ val = v) ∨ (n0 < v ∧ (∀ u, n0 < u → Anc par u v → val ≤ half.getD u 0) ∧ ∃ u, n0 < u ∧ Anc par u v ∧ val = half.getD u 0)
theorem low_ok (hp : ∀ i, 0 < i → i < m → par i < i) (h : Cl m n0 par half up ls) (hh : ∀ i, i ≤ n0 → i < m → half.getD i 0 = i) {v : Nat} (hv : v < m) :
    Cl m n0 par half (lowF up half ls (n0 + 1) v).1 (lowF up half ls (n0 + 1) v).2.1 ∧ (lowF up half ls (n0 + 1) v).2.2 = v ∧
    LowV n0 par half v (half.getD ((lowF up half ls (n0 + 1) v).2.1.getD v 0) 0) := by
  obtain ⟨a, b, c⟩ := path_ok h (F := v + 1) (Nat.lt_succ_self v) hv
  obtain ⟨d, e, f⟩ := comp_ok hp h a b
  rw [c] at e f
  have d' : Cl m n0 par half (lowF up half ls (n0 + 1) v).1 (lowF up half ls (n0 + 1) v).2.1 := d
  refine ⟨d', f, ?_⟩
  have e' : (lowF up half ls (n0 + 1) v).1.getD v 0 ≤ n0 := e
  generalize lowF up half ls (n0 + 1) v = Z at d' e'
  rcases Nat.eq_zero_or_pos v with hz | hz
  · subst hz
    rw [d'.l0]
    exact Or.inl ⟨Nat.zero_le _, hh 0 (Nat.zero_le _) hv⟩
  · obtain ⟨l1, l2, l3⟩ := d'.lc v hz hv
    have hle := l2.le hp hv
    have hin : n0 < Z.2.1.getD v 0 ∨ Z.2.1.getD v 0 = v := by
      by_cases q : Z.2.1.getD v 0 = v
      · exact Or.inr q
      · exact Or.inl (d'.ub v _ hz hv l2 l1 (by omega))
    rcases Nat.lt_or_ge n0 v with hc | hc
    · exact Or.inr ⟨hc, fun u hu ha => l3 u ha (by omega), _, by omega, l2, rfl⟩
    · have q : Z.2.1.getD v 0 = v := by omega
      rw [q]
      exact Or.inl ⟨hc, hh v hc hv⟩

/-- All that go on to one. -/
def predsF (half : List Nat) (n0 : Nat) : List Nat → List Nat → List Nat → Nat → List Nat × List Nat × Nat
  | [], up, ls, h => (up, ls, h)
  | v :: r, up, ls, h => predsF half n0 r (lowF up half ls (n0 + 1) v).1 (lowF up half ls (n0 + 1) v).2.1 (min h (half.getD ((lowF up half ls (n0 + 1) v).2.1.getD (lowF up half ls (n0 + 1) v).2.2 0) 0))
theorem preds_ok (hp : ∀ i, 0 < i → i < m → par i < i) (hh : ∀ i, i ≤ n0 → i < m → half.getD i 0 = i) {l : List Nat} {h : Nat} (hl : ∀ v ∈ l, v < m) (hc : Cl m n0 par half up ls) :
    Cl m n0 par half (predsF half n0 l up ls h).1 (predsF half n0 l up ls h).2.1 ∧ (predsF half n0 l up ls h).2.2 ≤ h ∧ (∀ v ∈ l, ∃ x, LowV n0 par half v x ∧ (predsF half n0 l up ls h).2.2 ≤ x) ∧
    ((predsF half n0 l up ls h).2.2 = h ∨ ∃ v ∈ l, LowV n0 par half v (predsF half n0 l up ls h).2.2) := by
  induction l generalizing up ls h with
  | nil => exact ⟨hc, Nat.le_refl _, fun v hv => absurd hv (by simp), Or.inl rfl⟩
  | cons v r ih =>
    obtain ⟨a, b, c⟩ := low_ok hp hc hh (hl v (by simp))
    unfold predsF
    rw [b]
    generalize half.getD ((lowF up half ls (n0 + 1) v).2.1.getD v 0) 0 = x at c
    obtain ⟨d, e, f, g⟩ := ih (h := min h x) (fun u hu => hl u (by simp [hu])) a
    generalize predsF half n0 r (lowF up half ls (n0 + 1) v).1 (lowF up half ls (n0 + 1) v).2.1 (min h x) = Z at d e f g
    refine ⟨d, by omega, fun u hu => ?_, ?_⟩
    · rcases List.mem_cons.1 hu with q | q
      · subst q; exact ⟨x, c, by omega⟩
      · exact f u q
    · rcases g with q | ⟨u, hu, q⟩
      · rcases Nat.le_total h x with w | w
        · left; omega
        · right; exact ⟨v, by simp, by rw [q, show min h x = x by omega]; exact c⟩
      · right; exact ⟨u, by simp [hu], q⟩

/-- All numbers, from the greatest on: P has of each those that go on to it. -/
def halfF (P : Nat → List Nat) (par : Nat → Nat) : Nat → List Nat → List Nat → List Nat → List Nat × List Nat × List Nat
  | 0, up, ls, half => (up, ls, half)
  | n + 1, up, ls, half => halfF P par n (predsF half (n + 1) (P (n + 1)) up ls (par (n + 1))).1 (predsF half (n + 1) (P (n + 1)) up ls (par (n + 1))).2.1 (half.set (n + 1) (predsF half (n + 1) (P (n + 1)) up ls (par (n + 1))).2.2)

theorem half_step {E : Nat → Nat → Prop} (D : Nums3 m E par) {n : Nat} {l : List Nat} (hn : n + 1 < m) (hl : ∀ v, v ∈ l ↔ E v (n + 1)) (hc : Cl m (n + 1) par half up ls) (hh : ∀ i, i ≤ n + 1 → i < m → half.getD i 0 = i) (hlen : half.length = m)
    (H : ∀ u, n + 1 < u → u < m → Half E (half.getD u 0) u) :
    Cl m n par (half.set (n + 1) (predsF half (n + 1) l up ls (par (n + 1))).2.2) (predsF half (n + 1) l up ls (par (n + 1))).1 (predsF half (n + 1) l up ls (par (n + 1))).2.1 ∧
    (∀ u, n < u → u < m → Half E ((half.set (n + 1) (predsF half (n + 1) l up ls (par (n + 1))).2.2).getD u 0) u) ∧ ∀ i, i ≤ n → i < m → (half.set (n + 1) (predsF half (n + 1) l up ls (par (n + 1))).2.2).getD i 0 = i := by
  obtain ⟨a, b, c, d⟩ := preds_ok (l := l) (h := par (n + 1)) D.lt hh (fun v hv => (D.bound _ _ ((hl v).1 hv)).1) hc
  generalize predsF half (n + 1) l up ls (par (n + 1)) = Z at a b c d
  have hS : ∀ q, (half.set (n + 1) Z.2.2).getD q 0 = if q = n + 1 then Z.2.2 else half.getD q 0 := fun q => getD_set' _ _ _ _ (by rw [hlen]; exact hn)
  have hH : Half E Z.2.2 (n + 1) := by
    refine half_of (half := fun u => half.getD u 0) D (by omega) hn H b ?_ ?_ ?_
    · intro v he hv
      obtain ⟨x, h1, h2⟩ := c v ((hl v).2 he)
      rcases h1 with ⟨_, q⟩ | ⟨q, _⟩ <;> omega
    · intro v u he hu ha
      obtain ⟨x, h1, h2⟩ := c v ((hl v).2 he)
      have hle := ha.le D.lt (D.bound _ _ he).1
      rcases h1 with ⟨q, _⟩ | ⟨_, q, _⟩
      · omega
      · exact Nat.le_trans h2 (q u hu ha)
    · rcases d with q | ⟨v, hv, q⟩
      · exact Or.inl q
      · rcases q with ⟨q1, q2⟩ | ⟨_, _, u, q1, q2, q3⟩
        · exact Or.inr (Or.inl ⟨q2 ▸ (hl v).1 hv, by omega⟩)
        · exact Or.inr (Or.inr ⟨v, u, (hl v).1 hv, q1, q2, q3⟩)
  refine ⟨⟨a.ul, a.ll, a.u0, a.l0, a.ua, fun i z i0 hi hz h1 h2 => by have := a.ub i z i0 hi hz h1 h2; omega, ?_⟩, ?_, ?_⟩
  · intro i i0 hi
    obtain ⟨l1, l2, l3⟩ := a.lc i i0 hi
    refine ⟨l1, l2, fun z hz h1 => ?_⟩
    have hle := l2.le D.lt hi
    have hlz := hz.le D.lt hi
    by_cases e : i = n + 1
    · subst e
      have e1 : Z.2.1.getD (n + 1) 0 = n + 1 := by
        by_cases q : Z.2.1.getD (n + 1) 0 = n + 1
        · exact q
        · have := a.ub _ _ i0 hi l2 l1 (by omega); omega
      have e2 : z = n + 1 := by
        by_cases q : z = n + 1
        · exact q
        · have := a.ub _ _ i0 hi hz h1 (by omega); omega
      rw [e1, e2]
      exact Nat.le_refl _
    · have e1 : Z.2.1.getD i 0 ≠ n + 1 := by
        intro q
        have := a.ub _ _ i0 hi l2 l1 (by omega); omega
      have e2 : z ≠ n + 1 := by
        intro q
        have := a.ub _ _ i0 hi hz h1 (by omega); omega
      rw [hS, hS, if_neg e1, if_neg e2]
      exact l3 z hz h1
  · intro u h1 h2
    rw [hS]
    by_cases e : u = n + 1
    · subst e; rw [if_pos rfl]; exact hH
    · rw [if_neg e]; exact H u (by omega) h2
  · intro i h1 h2
    rw [hS, if_neg (by omega)]
    exact hh i (by omega) h2

theorem half_all {E : Nat → Nat → Prop} (D : Nums3 m E par) {P : Nat → List Nat} (hP : ∀ w v, w < m → (v ∈ P w ↔ E v w)) {n : Nat} (hn : n < m) (hc : Cl m n par half up ls) (hh : ∀ i, i ≤ n → i < m → half.getD i 0 = i) (hlen : half.length = m)
    (H : ∀ u, n < u → u < m → Half E (half.getD u 0) u) : (halfF P par n up ls half).2.2.length = m ∧ ∀ u, 0 < u → u < m → Half E ((halfF P par n up ls half).2.2.getD u 0) u := by
  induction n generalizing half up ls with
  | zero => exact ⟨hlen, H⟩
  | succ n ih =>
    obtain ⟨a, b, c⟩ := half_step D hn (fun v => hP (n + 1) v hn) hc hh hlen H
    exact ih (by omega) a c (by rw [List.length_set]; exact hlen) b
/-- What a climb begins with. -/
theorem cl_start (hp : ∀ i, 0 < i → i < m → par i < i) (hm : 0 < m) (h0 : par 0 = 0) : Cl m (m - 1) par (List.range m) ((List.range m).map par) (List.range m) := by
  have e : ∀ i, i < m → ((List.range m).map par).getD i 0 = par i := fun i hi => by simp [List.getD_eq_getElem?_getD, hi]
  have e' : ∀ i, i < m → (List.range m).getD i 0 = i := fun i hi => by simp [List.getD_eq_getElem?_getD, hi]
  have none : ∀ i z, 0 < i → i < m → Anc par z i → par i < z → z < i → False := by
    intro i z h1 h2 h3 h4 h5
    have hpi := hp i h1 h2
    cases h3 with
    | refl => omega
    | up _ h => have := h.le hp (by omega); omega
  refine ⟨by simp, by simp, by rw [e 0 hm]; exact h0, e' 0 hm, fun i h1 h2 => ?_, fun i z h1 h2 h3 h4 h5 => ?_, fun i h1 h2 => ?_⟩
  · rw [e i h2]; exact ⟨hp i h1 h2, .one h1⟩
  · rw [e i h2] at h4; exact (none i z h1 h2 h3 h4 h5).elim
  · rw [e i h2, e' i h2]
    refine ⟨hp i h1 h2, .refl _, fun z h3 h4 => ?_⟩
    have hz := h3.le hp h2
    by_cases q : z = i
    · rw [q]; exact Nat.le_refl _
    · exact (none i z h1 h2 h3 h4 (by omega)).elim
end
end Go.Proofs.Ytjlmkcamefaodaa.Fl

/-! The nearest above, as climb.nearest reckons them, plainly: ways up that skip ahead. -/

namespace Go.Proofs.Ytjlmkcamefaodaa.Fl

/-- Up from n to what isn't below h. -/
def meetF (near far : List Nat) (h : Nat) : Nat → Nat → Nat
  | 0, n => n
  | F + 1, n => if h < n then meetF near far h F (if h < far.getD n 0 then far.getD n 0 else near.getD n 0) else n
/-- Three rows, gone through from k on. -/
def nearF (par : Nat → Nat) (half : List Nat) : Nat → Nat → List Nat → List Nat → List Nat → List Nat × List Nat × List Nat
  | 0, _, near, far, depth => (near, far, depth)
  | c + 1, k, near, far, depth =>
    let p := meetF near far (half.getD k 0) (par k + 1) (par k)
    let d := depth.set k (depth.getD p 0 + 1)
    let q := far.getD p 0
    nearF par half c (k + 1) (near.set k p)
      (if (d.getD p 0 : Int) - (d.getD q 0 : Int) = (d.getD q 0 : Int) - (d.getD ((far.set k p).getD q 0) 0 : Int) then (far.set k p).set k ((far.set k p).getD q 0) else far.set k p) d

/-- The rows are right below k. -/
structure NearOk (m k : Nat) (near far : List Nat) : Prop where
  nl : near.length = m
  fl : far.length = m
  n0 : near.getD 0 0 = 0
  f0 : far.getD 0 0 = 0
  nlt : ∀ i, 0 < i → i < k → near.getD i 0 < i
  flt : ∀ i, 0 < i → i < k → far.getD i 0 < i
  fa : ∀ i, 0 < i → i < k → Anc (fun j => near.getD j 0) (far.getD i 0) i

theorem meet_ok {m k : Nat} {near far : List Nat} (h : NearOk m k near far) {x F n : Nat} (hF : n < F) (hn : n < k) :
    meetF near far x F n ≤ x ∧ meetF near far x F n ≤ n ∧ Anc (fun j => near.getD j 0) (meetF near far x F n) n ∧ ∀ d, Anc (fun j => near.getD j 0) d n → d ≤ x → Anc (fun j => near.getD j 0) d (meetF near far x F n) := by
  induction F generalizing n with
  | zero => omega
  | succ F ih =>
    unfold meetF
    by_cases hc : x < n
    · rw [if_pos hc]
      have h0 : 0 < n := by omega
      have a := h.nlt n h0 hn
      have b := h.flt n h0 hn
      by_cases hf : x < far.getD n 0
      · rw [if_pos hf]
        obtain ⟨c, d, e, f⟩ := ih (n := far.getD n 0) (by omega) (by omega)
        refine ⟨c, by omega, e.trans (h.fa n h0 hn), fun z hz hx => f z ?_ hx⟩
        exact anc_chain (m := k) (fun i i0 hi => h.nlt i i0 hi) hz (h.fa n h0 hn) (by omega) hn
      · rw [if_neg hf]
        obtain ⟨c, d, e, f⟩ := ih (n := near.getD n 0) (by omega) (by omega)
        refine ⟨c, by omega, e.trans (.one h0), fun z hz hx => f z ?_ hx⟩
        cases hz with
        | refl => omega
        | up _ q => exact q
    · rw [if_neg hc]
      exact ⟨by omega, Nat.le_refl _, .refl _, fun d hd _ => hd⟩

/-- The nearest above are right below k. -/
def NearAt (par : Nat → Nat) (half near : List Nat) (k : Nat) : Prop := ∀ w, 0 < w → w < k → near.getD w 0 < w ∧ ∀ d, Anc (fun j => near.getD j 0) d (near.getD w 0) ↔ (Anc (fun j => near.getD j 0) d (par w) ∧ d ≤ half.getD w 0)

theorem anc_set {near : List Nat} {k p d v : Nat} (hlt : ∀ i, 0 < i → i < k → near.getD i 0 < i) (hk : k < near.length) (hv : v < k) : Anc (fun j => (near.set k p).getD j 0) d v ↔ Anc (fun j => near.getD j 0) d v := by
  have e : ∀ i, i < k → (near.set k p).getD i 0 = near.getD i 0 := fun i hi => by rw [getD_set' _ _ _ _ hk, if_neg (by omega)]
  constructor
  · exact fun h => Anc.congr (m := k) (fun i i0 hi => by show (near.set k p).getD i 0 < i; rw [e i hi]; exact hlt i i0 hi) (fun i hi => (e i hi).symm) h hv
  · exact fun h => Anc.congr (m := k) hlt (fun i hi => e i hi) h hv

theorem near_all {m : Nat} {par : Nat → Nat} {half : List Nat} (hp : ∀ i, 0 < i → i < m → par i < i) {c k : Nat} {near far depth : List Nat} (hk : 0 < k) (hm : k + c = m) (h : NearOk m k near far) (hN : NearAt par half near k) :
    (nearF par half c k near far depth).1.length = m ∧ (nearF par half c k near far depth).1.getD 0 0 = 0 ∧ NearAt par half (nearF par half c k near far depth).1 m := by
  induction c generalizing k near far depth with
  | zero =>
    obtain rfl : k = m := by omega
    exact ⟨h.nl, h.n0, hN⟩
  | succ c ih =>
    have hkm : k < m := by omega
    have hpk := hp k hk hkm
    obtain ⟨a1, a2, a3, a4⟩ := meet_ok h (x := half.getD k 0) (F := par k + 1) (n := par k) (Nat.lt_succ_self _) hpk
    unfold nearF
    generalize meetF near far (half.getD k 0) (par k + 1) (par k) = p at a1 a2 a3 a4
    have eN : ∀ i, (near.set k p).getD i 0 = if i = k then p else near.getD i 0 := fun i => getD_set' _ _ _ _ (by rw [h.nl]; exact hkm)
    have eF : ∀ i, (far.set k p).getD i 0 = if i = k then p else far.getD i 0 := fun i => getD_set' _ _ _ _ (by rw [h.fl]; exact hkm)
    have hA : ∀ d v, v < k → (Anc (fun j => (near.set k p).getD j 0) d v ↔ Anc (fun j => near.getD j 0) d v) := fun d v hv => anc_set h.nlt (by rw [h.nl]; exact hkm) hv
    have hpk' : p < k := by omega
    -- where the far one goes: to p, or to p's far one
    have hfar : ∀ f : List Nat, (f = far.set k p ∨ f = (far.set k p).set k ((far.set k p).getD (far.getD p 0) 0)) → f.length = m ∧ (∀ i, i ≠ k → f.getD i 0 = far.getD i 0) ∧ f.getD k 0 < k ∧ Anc (fun j => near.getD j 0) (f.getD k 0) p := by
      have hq : far.getD p 0 ≤ p ∧ Anc (fun j => near.getD j 0) (far.getD p 0) p := by
        rcases Nat.eq_zero_or_pos p with e | e
        · subst e; rw [h.f0]; exact ⟨Nat.le_refl _, .refl _⟩
        · exact ⟨Nat.le_of_lt (h.flt p e hpk'), h.fa p e hpk'⟩
      have hq2 : far.getD (far.getD p 0) 0 ≤ far.getD p 0 ∧ Anc (fun j => near.getD j 0) (far.getD (far.getD p 0) 0) (far.getD p 0) := by
        rcases Nat.eq_zero_or_pos (far.getD p 0) with e | e
        · rw [e, h.f0]; exact ⟨Nat.le_refl _, .refl _⟩
        · exact ⟨Nat.le_of_lt (h.flt _ e (by omega)), h.fa _ e (by omega)⟩
      rintro f (rfl | rfl)
      · exact ⟨by rw [List.length_set]; exact h.fl, fun i hi => by rw [eF, if_neg hi], by rw [eF, if_pos rfl]; exact hpk', by rw [eF, if_pos rfl]; exact .refl _⟩
      · have e2 : ∀ i, ((far.set k p).set k ((far.set k p).getD (far.getD p 0) 0)).getD i 0 = if i = k then (far.set k p).getD (far.getD p 0) 0 else (far.set k p).getD i 0 := fun i => getD_set' _ _ _ _ (by rw [List.length_set, h.fl]; exact hkm)
        have e3 : (far.set k p).getD (far.getD p 0) 0 = far.getD (far.getD p 0) 0 := by rw [eF, if_neg (by omega)]
        refine ⟨by rw [List.length_set, List.length_set]; exact h.fl, fun i hi => by rw [e2, if_neg hi, eF, if_neg hi], by rw [e2, if_pos rfl, e3]; omega, ?_⟩
        rw [e2, if_pos rfl, e3]
        exact hq2.2.trans hq.2
    have hN' : NearAt par half (near.set k p) (k + 1) := by
      intro w w0 hw
      rw [eN]
      by_cases e : w = k
      · subst e
        rw [if_pos rfl]
        refine ⟨hpk', fun d => ?_⟩
        rw [hA d p hpk', hA d (par w) hpk]
        exact ⟨fun hd => ⟨hd.trans a3, by have := hd.le (m := w) (fun i i0 hi => h.nlt i i0 hi) hpk'; omega⟩, fun hd => a4 d hd.1 hd.2⟩
      · rw [if_neg e]
        have hw' : w < k := by omega
        obtain ⟨b1, b2⟩ := hN w w0 hw'
        have := hp w w0 (by omega)
        exact ⟨b1, fun d => by rw [hA d _ (by omega), hA d _ (by omega)]; exact b2 d⟩
    have step : ∀ f : List Nat, (f = far.set k p ∨ f = (far.set k p).set k ((far.set k p).getD (far.getD p 0) 0)) → NearOk m (k + 1) (near.set k p) f := by
      intro f hf
      obtain ⟨c1, c2, c3, c4⟩ := hfar f hf
      refine ⟨by rw [List.length_set]; exact h.nl, c1, by rw [eN, if_neg (by omega)]; exact h.n0, by rw [c2 0 (by omega)]; exact h.f0, fun i i0 hi => ?_, fun i i0 hi => ?_, fun i i0 hi => ?_⟩
      · exact (hN' i i0 hi).1
      · by_cases e : i = k
        · subst e; exact c3
        · rw [c2 i e]; exact h.flt i i0 (by omega)
      · by_cases e : i = k
        · subst e
          refine .up i0 ?_
          show Anc _ _ ((near.set i p).getD i 0)
          rw [eN, if_pos rfl, hA _ p hpk']
          exact c4
        · rw [c2 i e, hA _ i (by omega)]
          exact h.fa i i0 (by omega)
    refine ih (by omega) (by omega) ?_ hN'
    split
    · exact step _ (Or.inr rfl)
    · exact step _ (Or.inl rfl)

/-- Nought everywhere is right below 1. -/
theorem near_start (m : Nat) (_hm : 0 < m) : NearOk m 1 (List.replicate m 0) (List.replicate m 0) := by
  have e : ∀ i, (List.replicate m 0).getD i 0 = 0 := fun i => by
    rw [List.getD_eq_getElem?_getD, List.getElem?_replicate]
    split <;> rfl
  exact ⟨by simp, by simp, e 0, e 0, fun i h1 h2 => by omega, fun i h1 h2 => by omega, fun i h1 h2 => by omega⟩

/-- Half ways, and what is nearest above, of all numbers. -/
def halvesF (P : Nat → List Nat) (par : Nat → Nat) (m : Nat) : List Nat := (halfF P par (m - 1) ((List.range m).map par) (List.range m) (List.range m)).2.2
def nearestF (P : Nat → List Nat) (par : Nat → Nat) (m : Nat) : List Nat := (nearF par (halvesF P par m) (m - 1) 1 (List.replicate m 0) (List.replicate m 0) (List.replicate m 0)).1

/-- THE NEAREST ABOVE: what is met going up by it is what dominates. -/
theorem nearest_dom {m : Nat} {E : Nat → Nat → Prop} {par : Nat → Nat} (D : Nums3 m E par) {P : Nat → List Nat} (hP : ∀ w v, w < m → (v ∈ P w ↔ E v w)) (hm : 0 < m) (h0 : par 0 = 0) :
    (nearestF P par m).length = m ∧ (nearestF P par m).getD 0 0 = 0 ∧ (∀ w, 0 < w → w < m → (nearestF P par m).getD w 0 < w) ∧
    ∀ w, w < m → ∀ d, Anc (fun j => (nearestF P par m).getD j 0) d w ↔ DomN E d w := by
  have hid : ∀ i, i ≤ m - 1 → i < m → (List.range m).getD i 0 = i := fun i _ hi => by simp [List.getD_eq_getElem?_getD, hi]
  obtain ⟨h1, h2⟩ := half_all D hP (n := m - 1) (by omega) (cl_start D.lt hm h0) hid (by simp) (fun u a b => by omega)
  obtain ⟨a, b, c⟩ := near_all (m := m) (half := halvesF P par m) (depth := List.replicate m 0) D.lt (c := m - 1) (k := 1) (by omega) (by omega) (near_start m hm) (fun w a b => by omega)
  exact ⟨a, b, fun w w0 hw => (c w w0 hw).1, fun w hw d => dom_near D (half := fun w => (halvesF P par m).getD w 0) h2 (fun w w0 hw => c w w0 hw) w hw d⟩
end Go.Proofs.Ytjlmkcamefaodaa.Fl
