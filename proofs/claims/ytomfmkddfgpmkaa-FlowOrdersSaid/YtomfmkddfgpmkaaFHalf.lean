/-
  Half ways and nearest nodes above as the climb reckons them, plainly: what is made short stays right.
-/
import Derived.Test.YtomfmkddfgpmkaaFLow
import Derived.Test.YtomfmkddfgpmkaaFSemi
namespace Go.Proofs.Ytomfmkddfgpmkaa.Fl

theorem getD_set' (m : List Nat) (j x q : Nat) (hj : j < m.length) : (m.set j x).getD q 0 = if q = j then x else m.getD q 0 := by
  rw [List.getD_eq_getElem?_getD, List.getD_eq_getElem?_getD, List.getElem?_set]
  by_cases h : j = q
  · subst h; simp [hj]
  · rw [if_neg h, if_neg (Ne.symm h)]

/-- Of two that stand above one, the one stands above the other. -/
theorem anc_chain {par : Nat → Nat} {m : Nat} (hp : ∀ i, 0 < i → i < m → par i < i) {z n b : Nat} (h1 : Anc par z b) (h2 : Anc par n b) (hle : z ≤ n) (hb : b < m) : Anc par z n := by
  induction h2 with
  | refl => exact h1
  | @up b h0 h3 ih =>
    have hl := hp b h0 hb
    have hn := h3.le hp (by omega)
    cases h1 with
    | refl => omega
    | up _ h => exact ih h (by omega)
theorem Anc.congr {f g : Nat → Nat} {m : Nat} (hp : ∀ i, 0 < i → i < m → f i < i) (he : ∀ i, i < m → g i = f i) {d v : Nat} (h : Anc f d v) (hv : v < m) : Anc g d v := by
  induction h with
  | refl => exact .refl _
  | @up w h0 _ ih =>
    have := hp w h0 hv
    exact .up h0 (by rw [he w hv]; exact ih (by omega))

/-- A climb's rows are right, as far down as n0: what was skipped is below n0, and the least of it is told. -/
structure Cl (m n0 : Nat) (par : Nat → Nat) (half up ls : List Nat) : Prop where
  ul : up.length = m
  ll : ls.length = m
  u0 : up.getD 0 0 = 0
  l0 : ls.getD 0 0 = 0
  ua : ∀ i, 0 < i → i < m → up.getD i 0 < i ∧ Anc par (up.getD i 0) i
  ub : ∀ i z, 0 < i → i < m → Anc par z i → up.getD i 0 < z → z < i → n0 < z
  lc : ∀ i, 0 < i → i < m → up.getD i 0 < ls.getD i 0 ∧ Anc par (ls.getD i 0) i ∧ ∀ z, Anc par z i → up.getD i 0 < z → half.getD (ls.getD i 0) 0 ≤ half.getD z 0

section
variable {m n0 : Nat} {par : Nat → Nat} {half up ls : List Nat}

theorem Cl.one (hp : ∀ i, 0 < i → i < m → par i < i) (h : Cl m n0 par half up ls) {b n : Nat} (hb : b < m) (hn : n0 < n) (he : up.getD b 0 = n) :
    Cl m n0 par half (up.set b (up.getD n 0)) (if half.getD (ls.getD n 0) 0 < half.getD (ls.getD b 0) 0 then ls.set b (ls.getD n 0) else ls) := by
  have hb0 : 0 < b := by
    rcases Nat.eq_zero_or_pos b with e | e
    · subst e; have := h.u0; omega
    · exact e
  obtain ⟨a1, a2⟩ := h.ua b hb0 hb
  rw [he] at a1 a2
  obtain ⟨b1, b2⟩ := h.ua n (by omega) (by omega)
  obtain ⟨c1, c2, c3⟩ := h.lc b hb0 hb
  obtain ⟨d1, d2, d3⟩ := h.lc n (by omega) (by omega)
  rw [he] at c1 c3
  have hU : ∀ q, (up.set b (up.getD n 0)).getD q 0 = if q = b then up.getD n 0 else up.getD q 0 := fun q => getD_set' _ _ _ _ (by rw [h.ul]; exact hb)
  have hL : ∀ q, (if half.getD (ls.getD n 0) 0 < half.getD (ls.getD b 0) 0 then ls.set b (ls.getD n 0) else ls).getD q 0 = if q = b ∧ half.getD (ls.getD n 0) 0 < half.getD (ls.getD b 0) 0 then ls.getD n 0 else ls.getD q 0 := by
    intro q
    by_cases hc : half.getD (ls.getD n 0) 0 < half.getD (ls.getD b 0) 0
    · rw [if_pos hc, getD_set' _ _ _ _ (by rw [h.ll]; exact hb)]
      by_cases e : q = b
      · rw [if_pos e, if_pos ⟨e, hc⟩]
      · rw [if_neg e, if_neg (fun c => e c.1)]
    · rw [if_neg hc, if_neg (fun e => hc e.2)]
  refine ⟨by rw [List.length_set]; exact h.ul, ?_, ?_, ?_, ?_, ?_, ?_⟩
  · split
    · rw [List.length_set]; exact h.ll
    · exact h.ll
  · rw [hU, if_neg (by omega)]; exact h.u0
  · rw [hL, if_neg (by omega)]; exact h.l0
  · intro i i0 hi
    rw [hU]
    by_cases e : i = b
    · subst e
      rw [if_pos rfl]
      exact ⟨by omega, b2.trans a2⟩
    · rw [if_neg e]; exact h.ua i i0 hi
  · intro i z i0 hi hz
    rw [hU]
    by_cases e : i = b
    · subst e
      rw [if_pos rfl]
      intro h1 h2
      rcases Nat.lt_or_ge n z with h3 | h3
      · exact h.ub i z i0 hi hz (by omega) h2
      · rcases Nat.lt_or_ge z n with h4 | h4
        · exact h.ub n z (by omega) (by omega) (anc_chain hp hz a2 h3 hi) h1 h4
        · omega
    · rw [if_neg e]; exact h.ub i z i0 hi hz
  · intro i i0 hi
    rw [hU, hL]
    by_cases e : i = b
    · subst e
      rw [if_pos rfl]
      by_cases hc : half.getD (ls.getD n 0) 0 < half.getD (ls.getD i 0) 0
      · rw [if_pos ⟨rfl, hc⟩]
        refine ⟨d1, d2.trans a2, fun z hz h1 => ?_⟩
        rcases Nat.lt_or_ge n z with h3 | h3
        · exact Nat.le_trans (Nat.le_of_lt hc) (c3 z hz h3)
        · exact d3 z (anc_chain hp hz a2 h3 hi) h1
      · rw [if_neg (fun e => hc e.2)]
        refine ⟨by omega, c2, fun z hz h1 => ?_⟩
        rcases Nat.lt_or_ge n z with h3 | h3
        · exact c3 z hz h3
        · exact Nat.le_trans (Nat.le_of_not_lt hc) (d3 z (anc_chain hp hz a2 h3 hi) h1)
    · rw [if_neg e, if_neg (fun q => e q.1)]
      exact h.lc i i0 hi

/-- A row of numbers, each of which goes up to the one ahead of it, the first to n. -/
def Desc (m n0 : Nat) (up : List Nat) : List Nat → Nat → Prop
  | [], _ => True
  | b :: r, n => up.getD b 0 = n ∧ n0 < n ∧ b < m ∧ Desc m n0 up r b
theorem Desc.set (h : ∀ i, 0 < i → i < m → up.getD i 0 < i) (h0 : up.getD 0 0 = 0) (hl : up.length = m) {r : List Nat} {n b x : Nat} (hd : Desc m n0 up r n) (hb : b ≤ n) (hbm : b < m) : Desc m n0 (up.set b x) r n := by
  induction r generalizing n with
  | nil => exact trivial
  | cons c r ih =>
    obtain ⟨h1, h2, h3, h4⟩ := hd
    have hc : n < c := by
      rcases Nat.eq_zero_or_pos c with e | e
      · subst e; omega
      · have := h c e h3; omega
    exact ⟨by rw [getD_set' _ _ _ _ (by omega), if_neg (by omega)]; exact h1, h2, h3, ih h4 (by omega)⟩
theorem Desc.snoc {r : List Nat} {n c : Nat} (hd : Desc m n0 up r n) (hc : up.getD c 0 = r.getLastD n) (hn : n0 < r.getLastD n) (hcm : c < m) : Desc m n0 up (r ++ [c]) n := by
  induction r generalizing n with
  | nil => exact ⟨hc, hn, hcm, trivial⟩
  | cons b r ih =>
    obtain ⟨h1, h2, h3, h4⟩ := hd
    rw [List.getLastD_cons] at hc hn
    exact ⟨h1, h2, h3, ih h4 hc hn⟩

theorem comp_ok (hp : ∀ i, 0 < i → i < m → par i < i) {r : List Nat} {n : Nat} (h : Cl m n0 par half up ls) (hd : Desc m n0 up r n) (hn : up.getD n 0 ≤ n0) :
    Cl m n0 par half (comp half r up ls n).1 (comp half r up ls n).2.1 ∧ (comp half r up ls n).1.getD (r.getLastD n) 0 ≤ n0 ∧ (comp half r up ls n).2.2 = r.getLastD n := by
  induction r generalizing n up ls with
  | nil => exact ⟨h, hn, rfl⟩
  | cons b r ih =>
    obtain ⟨h1, h2, h3, h4⟩ := hd
    have h' := h.one hp h3 h2 h1
    have hd' := h4.set (b := b) (x := up.getD n 0) (fun i a c => (h.ua i a c).1) h.u0 h.ul (Nat.le_refl _) h3
    have q := ih h' hd' (by rw [getD_set' _ _ _ _ (by rw [h.ul]; exact h3), if_pos rfl]; exact hn)
    rw [List.getLastD_cons]
    exact q

theorem path_ok (h : Cl m n0 par half up ls) {F n : Nat} (hF : n < F) (hn : n < m) :
    Desc m n0 up (pathF up (n0 + 1) F n).1.reverse (pathF up (n0 + 1) F n).2 ∧ up.getD (pathF up (n0 + 1) F n).2 0 ≤ n0 ∧ (pathF up (n0 + 1) F n).1.reverse.getLastD (pathF up (n0 + 1) F n).2 = n := by
  induction F generalizing n with
  | zero => omega
  | succ F ih =>
    unfold pathF
    by_cases hc : n0 + 1 ≤ up.getD n 0
    · rw [if_pos hc]
      have n0' : 0 < n := by
        rcases Nat.eq_zero_or_pos n with e | e
        · subst e; have := h.u0; omega
        · exact e
      have hl := (h.ua n n0' hn).1
      obtain ⟨a, b, c⟩ := ih (n := up.getD n 0) (by omega) (by omega)
      refine ⟨?_, b, ?_⟩
      · show Desc m n0 up (n :: (pathF up (n0 + 1) F (up.getD n 0)).1).reverse _
        rw [List.reverse_cons]
        exact a.snoc c.symm (by rw [c]; omega) hn
      · show (n :: (pathF up (n0 + 1) F (up.getD n 0)).1).reverse.getLastD _ = n
        rw [List.reverse_cons]
        simp
    · rw [if_neg hc]
      exact ⟨trivial, by show up.getD n 0 ≤ n0; omega, rfl⟩

/-- WHAT LOWEST FINDS. -/
def LowV (n0 : Nat) (par : Nat → Nat) (half : List Nat) (v val : Nat) : Prop :=
  (v ≤ n0 ∧ val = v) ∨ (n0 < v ∧ (∀ u, n0 < u → Anc par u v → val ≤ half.getD u 0) ∧ ∃ u, n0 < u ∧ Anc par u v ∧ val = half.getD u 0)
theorem low_ok (hp : ∀ i, 0 < i → i < m → par i < i) (h : Cl m n0 par half up ls) (hh : ∀ i, i ≤ n0 → i < m → half.getD i 0 = i) {v : Nat} (hv : v < m) :
    Cl m n0 par half (lowF up half ls (n0 + 1) v).1 (lowF up half ls (n0 + 1) v).2.1 ∧ (lowF up half ls (n0 + 1) v).2.2 = v ∧
    LowV n0 par half v (half.getD ((lowF up half ls (n0 + 1) v).2.1.getD v 0) 0) := by
  obtain ⟨a, b, c⟩ := path_ok h (F := v + 1) (Nat.lt_succ_self v) hv
  obtain ⟨d, e, f⟩ := comp_ok hp h a b
  rw [c] at e f
  have d' : Cl m n0 par half (lowF up half ls (n0 + 1) v).1 (lowF up half ls (n0 + 1) v).2.1 := d
  refine ⟨d', f, ?_⟩
  have e' : (lowF up half ls (n0 + 1) v).1.getD v 0 ≤ n0 := e
  generalize lowF up half ls (n0 + 1) v = Z at d' e'
  rcases Nat.eq_zero_or_pos v with hz | hz
  · subst hz
    rw [d'.l0]
    exact Or.inl ⟨Nat.zero_le _, hh 0 (Nat.zero_le _) hv⟩
  · obtain ⟨l1, l2, l3⟩ := d'.lc v hz hv
    have hle := l2.le hp hv
    have hin : n0 < Z.2.1.getD v 0 ∨ Z.2.1.getD v 0 = v := by
      by_cases q : Z.2.1.getD v 0 = v
      · exact Or.inr q
      · exact Or.inl (d'.ub v _ hz hv l2 l1 (by omega))
    rcases Nat.lt_or_ge n0 v with hc | hc
    · exact Or.inr ⟨hc, fun u hu ha => l3 u ha (by omega), _, by omega, l2, rfl⟩
    · have q : Z.2.1.getD v 0 = v := by omega
      rw [q]
      exact Or.inl ⟨hc, hh v hc hv⟩

/-- All that go on to one. -/
def predsF (half : List Nat) (n0 : Nat) : List Nat → List Nat → List Nat → Nat → List Nat × List Nat × Nat
  | [], up, ls, h => (up, ls, h)
  | v :: r, up, ls, h => predsF half n0 r (lowF up half ls (n0 + 1) v).1 (lowF up half ls (n0 + 1) v).2.1 (min h (half.getD ((lowF up half ls (n0 + 1) v).2.1.getD (lowF up half ls (n0 + 1) v).2.2 0) 0))
theorem preds_ok (hp : ∀ i, 0 < i → i < m → par i < i) (hh : ∀ i, i ≤ n0 → i < m → half.getD i 0 = i) {l : List Nat} {h : Nat} (hl : ∀ v ∈ l, v < m) (hc : Cl m n0 par half up ls) :
    Cl m n0 par half (predsF half n0 l up ls h).1 (predsF half n0 l up ls h).2.1 ∧ (predsF half n0 l up ls h).2.2 ≤ h ∧ (∀ v ∈ l, ∃ x, LowV n0 par half v x ∧ (predsF half n0 l up ls h).2.2 ≤ x) ∧
    ((predsF half n0 l up ls h).2.2 = h ∨ ∃ v ∈ l, LowV n0 par half v (predsF half n0 l up ls h).2.2) := by
  induction l generalizing up ls h with
  | nil => exact ⟨hc, Nat.le_refl _, fun v hv => absurd hv (by simp), Or.inl rfl⟩
  | cons v r ih =>
    obtain ⟨a, b, c⟩ := low_ok hp hc hh (hl v (by simp))
    unfold predsF
    rw [b]
    generalize half.getD ((lowF up half ls (n0 + 1) v).2.1.getD v 0) 0 = x at c
    obtain ⟨d, e, f, g⟩ := ih (h := min h x) (fun u hu => hl u (by simp [hu])) a
    generalize predsF half n0 r (lowF up half ls (n0 + 1) v).1 (lowF up half ls (n0 + 1) v).2.1 (min h x) = Z at d e f g
    refine ⟨d, by omega, fun u hu => ?_, ?_⟩
    · rcases List.mem_cons.1 hu with q | q
      · subst q; exact ⟨x, c, by omega⟩
      · exact f u q
    · rcases g with q | ⟨u, hu, q⟩
      · rcases Nat.le_total h x with w | w
        · left; omega
        · right; exact ⟨v, by simp, by rw [q, show min h x = x by omega]; exact c⟩
      · right; exact ⟨u, by simp [hu], q⟩

/-- All numbers, from the greatest on: P has of each those that go on to it. -/
def halfF (P : Nat → List Nat) (par : Nat → Nat) : Nat → List Nat → List Nat → List Nat → List Nat × List Nat × List Nat
  | 0, up, ls, half => (up, ls, half)
  | n + 1, up, ls, half => halfF P par n (predsF half (n + 1) (P (n + 1)) up ls (par (n + 1))).1 (predsF half (n + 1) (P (n + 1)) up ls (par (n + 1))).2.1 (half.set (n + 1) (predsF half (n + 1) (P (n + 1)) up ls (par (n + 1))).2.2)

theorem half_step {E : Nat → Nat → Prop} (D : Nums3 m E par) {n : Nat} {l : List Nat} (hn : n + 1 < m) (hl : ∀ v, v ∈ l ↔ E v (n + 1)) (hc : Cl m (n + 1) par half up ls) (hh : ∀ i, i ≤ n + 1 → i < m → half.getD i 0 = i) (hlen : half.length = m)
    (H : ∀ u, n + 1 < u → u < m → Half E (half.getD u 0) u) :
    Cl m n par (half.set (n + 1) (predsF half (n + 1) l up ls (par (n + 1))).2.2) (predsF half (n + 1) l up ls (par (n + 1))).1 (predsF half (n + 1) l up ls (par (n + 1))).2.1 ∧
    (∀ u, n < u → u < m → Half E ((half.set (n + 1) (predsF half (n + 1) l up ls (par (n + 1))).2.2).getD u 0) u) ∧ ∀ i, i ≤ n → i < m → (half.set (n + 1) (predsF half (n + 1) l up ls (par (n + 1))).2.2).getD i 0 = i := by
  obtain ⟨a, b, c, d⟩ := preds_ok (l := l) (h := par (n + 1)) D.lt hh (fun v hv => (D.bound _ _ ((hl v).1 hv)).1) hc
  generalize predsF half (n + 1) l up ls (par (n + 1)) = Z at a b c d
  have hS : ∀ q, (half.set (n + 1) Z.2.2).getD q 0 = if q = n + 1 then Z.2.2 else half.getD q 0 := fun q => getD_set' _ _ _ _ (by rw [hlen]; exact hn)
  have hH : Half E Z.2.2 (n + 1) := by
    refine half_of (half := fun u => half.getD u 0) D (by omega) hn H b ?_ ?_ ?_
    · intro v he hv
      obtain ⟨x, h1, h2⟩ := c v ((hl v).2 he)
      rcases h1 with ⟨_, q⟩ | ⟨q, _⟩ <;> omega
    · intro v u he hu ha
      obtain ⟨x, h1, h2⟩ := c v ((hl v).2 he)
      have hle := ha.le D.lt (D.bound _ _ he).1
      rcases h1 with ⟨q, _⟩ | ⟨_, q, _⟩
      · omega
      · exact Nat.le_trans h2 (q u hu ha)
    · rcases d with q | ⟨v, hv, q⟩
      · exact Or.inl q
      · rcases q with ⟨q1, q2⟩ | ⟨_, _, u, q1, q2, q3⟩
        · exact Or.inr (Or.inl ⟨q2 ▸ (hl v).1 hv, by omega⟩)
        · exact Or.inr (Or.inr ⟨v, u, (hl v).1 hv, q1, q2, q3⟩)
  refine ⟨⟨a.ul, a.ll, a.u0, a.l0, a.ua, fun i z i0 hi hz h1 h2 => by have := a.ub i z i0 hi hz h1 h2; omega, ?_⟩, ?_, ?_⟩
  · intro i i0 hi
    obtain ⟨l1, l2, l3⟩ := a.lc i i0 hi
    refine ⟨l1, l2, fun z hz h1 => ?_⟩
    have hle := l2.le D.lt hi
    have hlz := hz.le D.lt hi
    by_cases e : i = n + 1
    · subst e
      have e1 : Z.2.1.getD (n + 1) 0 = n + 1 := by
        by_cases q : Z.2.1.getD (n + 1) 0 = n + 1
        · exact q
        · have := a.ub _ _ i0 hi l2 l1 (by omega); omega
      have e2 : z = n + 1 := by
        by_cases q : z = n + 1
        · exact q
        · have := a.ub _ _ i0 hi hz h1 (by omega); omega
      rw [e1, e2]
      exact Nat.le_refl _
    · have e1 : Z.2.1.getD i 0 ≠ n + 1 := by
        intro q
        have := a.ub _ _ i0 hi l2 l1 (by omega); omega
      have e2 : z ≠ n + 1 := by
        intro q
        have := a.ub _ _ i0 hi hz h1 (by omega); omega
      rw [hS, hS, if_neg e1, if_neg e2]
      exact l3 z hz h1
  · intro u h1 h2
    rw [hS]
    by_cases e : u = n + 1
    · subst e; rw [if_pos rfl]; exact hH
    · rw [if_neg e]; exact H u (by omega) h2
  · intro i h1 h2
    rw [hS, if_neg (by omega)]
    exact hh i (by omega) h2

theorem half_all {E : Nat → Nat → Prop} (D : Nums3 m E par) {P : Nat → List Nat} (hP : ∀ w v, w < m → (v ∈ P w ↔ E v w)) {n : Nat} (hn : n < m) (hc : Cl m n par half up ls) (hh : ∀ i, i ≤ n → i < m → half.getD i 0 = i) (hlen : half.length = m)
    (H : ∀ u, n < u → u < m → Half E (half.getD u 0) u) : (halfF P par n up ls half).2.2.length = m ∧ ∀ u, 0 < u → u < m → Half E ((halfF P par n up ls half).2.2.getD u 0) u := by
  induction n generalizing half up ls with
  | zero => exact ⟨hlen, H⟩
  | succ n ih =>
    obtain ⟨a, b, c⟩ := half_step D hn (fun v => hP (n + 1) v hn) hc hh hlen H
    exact ih (by omega) a c (by rw [List.length_set]; exact hlen) b
/-- What a climb begins with. -/
theorem cl_start (hp : ∀ i, 0 < i → i < m → par i < i) (hm : 0 < m) (h0 : par 0 = 0) : Cl m (m - 1) par (List.range m) ((List.range m).map par) (List.range m) := by
  have e : ∀ i, i < m → ((List.range m).map par).getD i 0 = par i := fun i hi => by simp [List.getD_eq_getElem?_getD, hi]
  have e' : ∀ i, i < m → (List.range m).getD i 0 = i := fun i hi => by simp [List.getD_eq_getElem?_getD, hi]
  have none : ∀ i z, 0 < i → i < m → Anc par z i → par i < z → z < i → False := by
    intro i z h1 h2 h3 h4 h5
    have hpi := hp i h1 h2
    cases h3 with
    | refl => omega
    | up _ h => have := h.le hp (by omega); omega
  refine ⟨by simp, by simp, by rw [e 0 hm]; exact h0, e' 0 hm, fun i h1 h2 => ?_, fun i z h1 h2 h3 h4 h5 => ?_, fun i h1 h2 => ?_⟩
  · rw [e i h2]; exact ⟨hp i h1 h2, .one h1⟩
  · rw [e i h2] at h4; exact (none i z h1 h2 h3 h4 h5).elim
  · rw [e i h2, e' i h2]
    refine ⟨hp i h1 h2, .refl _, fun z h3 h4 => ?_⟩
    have hz := h3.le hp h2
    by_cases q : z = i
    · rw [q]; exact Nat.le_refl _
    · exact (none i z h1 h2 h3 h4 (by omega)).elim
end
end Go.Proofs.Ytomfmkddfgpmkaa.Fl
