/-
  Rings found one by one; what their opening does; how the document counts them.
-/
import Derived.Test.YtnbkcdhblmfopaaMvP
namespace Go.Proofs.Ytnbkcdhblmfopaa.Mv

def dnC (dn : Nat → Bool) (c : List Nat) : Nat → Bool := fun x => dn x || decide (x ∈ c)
theorem dnC_nil (dn : Nat → Bool) : dnC dn [] = dn := by funext x; simp [dnC]
theorem dnC_snoc (dn : Nat → Bool) (c : List Nat) (i : Nat) : up (dnC dn c) i true = dnC dn (c ++ [i]) := by
  funext x
  by_cases h : x = i
  · subst h; simp [up_same, dnC]
  · rw [up_other _ _ h]; simp [dnC, h]
theorem dnC_app (dn : Nat → Bool) (a b : List Nat) : dnC (dnC dn a) b = dnC dn (a ++ b) := by
  funext x
  simp [dnC, Bool.or_assoc]
theorem dnC_false {dn : Nat → Bool} {c : List Nat} {x : Nat} : dnC dn c x = false ↔ dn x = false ∧ x ∉ c := by simp [dnC]
theorem dnC_true {dn : Nat → Bool} {c : List Nat} {x : Nat} : dnC dn c x = true ↔ dn x = true ∨ x ∈ c := by simp [dnC]

/-- On the way round. -/
def Inn (l : List M) (dn : Nat → Bool) (first : Nat) (c : List Nat) (i : Nat) : Prop :=
  (dn first = true ∧ c = [] ∧ i = first) ∨ (dn first = false ∧ i < l.length ∧ dn i = false ∧ c.Nodup ∧ (∀ x ∈ c, x < l.length ∧ dn x = false) ∧ Ch l c ∧ (c = [] → i = first) ∧ (c ≠ [] → c.headD 0 = first ∧ fR l (c.getLastD 0) = tO l i))
section
variable {l : List M} {dn : Nat → Bool} {first i : Nat} {c : List Nat}
theorem inn_start (h : first < l.length) : Inn l dn first [] first := by
  cases hd : dn first with
  | true => exact Or.inl ⟨hd, rfl, rfl⟩
  | false => exact Or.inr ⟨hd, h, hd, List.nodup_nil, (fun x hx => by cases hx), trivial, fun _ => rfl, fun h => absurd rfl h⟩
theorem inn_lt (hf : first < l.length) (h : Inn l dn first c i) : i < l.length := by
  rcases h with ⟨_, _, rfl⟩ | ⟨_, h, _⟩
  · exact hf
  · exact h
theorem inn_next (hp : Perm l dn) (hd : Dis l) (h : Inn l dn first c i) (hi : dnC dn c i = false) : ∃ j, j < l.length ∧ fR l i = tO l j := by
  rcases h with ⟨h1, _, rfl⟩ | ⟨_, h2, h3, _⟩
  · rw [(dnC_false.1 hi).1] at h1; cases h1
  · obtain ⟨j, h4, _, h5⟩ := hp.fw i h2 h3
    exact ⟨j, h4, h5⟩
theorem inn_step (hp : Perm l dn) (hd : Dis l) (h : Inn l dn first c i) (hi : dnC dn c i = false) {j : Nat} (hj : j < l.length) (he : fR l i = tO l j) : Inn l dn first (c ++ [i]) j := by
  obtain ⟨hi1, hi2⟩ := dnC_false.1 hi
  rcases h with ⟨h1, _, rfl⟩ | ⟨h1, h2, h3, h4, h5, h6, h7, h8⟩
  · rw [hi1] at h1; cases h1
  · obtain ⟨j', g1, g2, g3⟩ := hp.fw i h2 h3
    obtain rfl : j = j' := hd j j' hj g1 (by rw [← he, g3])
    refine Or.inr ⟨h1, hj, g2, List.nodup_append.2 ⟨h4, by simp, fun a ha b hb => by rw [List.mem_singleton.1 hb]; intro e; subst e; exact hi2 ha⟩, fun x hx => ?_, ch_app h6 (fun hc => (h8 hc).2), fun e => absurd e (by simp), fun _ => ⟨?_, by rw [last_app]; exact he⟩⟩
    · rcases List.mem_append.1 hx with hx | hx
      · exact h5 x hx
      · rw [List.mem_singleton.1 hx]; exact ⟨h2, h3⟩
    · cases c with
      | nil => exact h7 rfl
      | cons x r => exact (h8 (by simp)).1
theorem ch_split : ∀ {x : Nat} {r : List Nat}, Ch l (x :: r) → ∀ y ∈ r, ∃ p a q, x :: r = p ++ a :: y :: q ∧ fR l a = tO l y
  | x, z :: r, h, y, hy => by
    rcases List.mem_cons.1 hy with rfl | hy
    · exact ⟨[], x, r, rfl, h.1⟩
    · obtain ⟨p, a, q, e, h1⟩ := ch_split h.2 y hy
      exact ⟨x :: p, a, q, by rw [e]; rfl, h1⟩
theorem inn_end (hp : Perm l dn) (h : Inn l dn first c i) (hi : dnC dn c i = true) : (dn first = true ∧ c = []) ∨ (dn first = false ∧ Ring l c ∧ c.headD 0 = first ∧ ∀ x ∈ c, x < l.length ∧ dn x = false) := by
  rcases h with ⟨h1, h2, rfl⟩ | ⟨h1, h2, h3, h4, h5, h6, h7, h8⟩
  · exact Or.inl ⟨h1, h2⟩
  · right
    have hic : i ∈ c := by
      rcases dnC_true.1 hi with h | h
      · rw [h3] at h; cases h
      · exact h
    have hne : c ≠ [] := fun e => by rw [e] at hic; cases hic
    obtain ⟨h9, h10⟩ := h8 hne
    refine ⟨h1, ⟨hne, h4, h6, ?_⟩, h9, h5⟩
    cases c with
    | nil => cases hic
    | cons x r =>
      rcases List.mem_cons.1 hic with rfl | hir
      · exact h10
      · exfalso
        obtain ⟨p, a, q, e, h11⟩ := ch_split h6 i hir
        have ha : a ∈ x :: r := by rw [e]; simp
        have hl := last_mem hne
        have := hp.inj a _ (h5 a ha).1 (h5 _ hl).1 (h5 a ha).2 (h5 _ hl).2 (h11.trans h10.symm)
        rw [e, last_app, last_cons2] at this
        have hq : a ∈ i :: q := by rw [this]; exact last_mem (by simp)
        rw [e] at h4
        exact (List.nodup_cons.1 (List.nodup_append.1 h4).2.1).1 hq
end

structure Out (l : List M) (dn0 : Nat → Bool) (css : List (List Nat)) (k : Nat) : Prop where
  perm : Perm l (dnC dn0 css.flatten)
  rings : ∀ c ∈ css, Ring l c
  mins : ∀ c ∈ css, ∀ x ∈ c, c.headD 0 ≤ x
  nd : css.flatten.Nodup
  lt : ∀ x ∈ css.flatten, x < l.length ∧ dn0 x = false
  pre : ∀ x, x < k → x < l.length → dnC dn0 css.flatten x = true
theorem out_start {l : List M} {dn0 : Nat → Bool} (h : Perm l dn0) : Out l dn0 [] 0 :=
  ⟨by rw [List.flatten_nil, dnC_nil]; exact h, (fun c hc => by cases hc), (fun c hc => by cases hc), by simp, (fun x hx => by simp at hx), fun x hx => by omega⟩
section
variable {l : List M} {dn0 : Nat → Bool} {css : List (List Nat)} {k : Nat} {c : List Nat}
theorem out_none (h : Out l dn0 css k) (hk : dnC dn0 css.flatten k = true) : Out l dn0 css (k + 1) :=
  ⟨h.perm, h.rings, h.mins, h.nd, h.lt, fun x hx hl => by
    by_cases e : x = k
    · rw [e]; exact hk
    · exact h.pre x (by omega) hl⟩
theorem perm_ring {dn : Nat → Bool} (hd : Dis l) (h : Perm l dn) (hr : Ring l c) (hc : ∀ x ∈ c, x < l.length ∧ dn x = false) : Perm l (dnC dn c) where
  fw := fun i hi hdi => by
    obtain ⟨h1, h2⟩ := dnC_false.1 hdi
    obtain ⟨j, h3, h4, h5⟩ := h.fw i hi h1
    refine ⟨j, h3, dnC_false.2 ⟨h4, fun hj => h2 ?_⟩, h5⟩
    obtain ⟨a, ha, e⟩ := ring_prev hr hj
    have := h.inj i a hi (hc a ha).1 h1 (hc a ha).2 (h5.trans e.symm)
    rw [this]; exact ha
  bw := fun j hj hdj => by
    obtain ⟨h1, h2⟩ := dnC_false.1 hdj
    obtain ⟨i, h3, h4, h5⟩ := h.bw j hj h1
    refine ⟨i, h3, dnC_false.2 ⟨h4, fun hi => h2 ?_⟩, h5⟩
    obtain ⟨b, hb, e⟩ := ring_next hr hi
    rw [hd j b hj (hc b hb).1 (by rw [← h5, e])]
    exact hb
  inj := fun i j hi hj h1 h2 => h.inj i j hi hj (dnC_false.1 h1).1 (dnC_false.1 h2).1
theorem out_ring (hd : Dis l) (h : Out l dn0 css k) (hr : Ring l c) (hh : c.headD 0 = k) (hc : ∀ x ∈ c, x < l.length ∧ dnC dn0 css.flatten x = false) : Out l dn0 (css ++ [c]) (k + 1) := by
  have hf : (css ++ [c]).flatten = css.flatten ++ c := by simp
  refine ⟨?_, fun c' hc' => ?_, fun c' hc' x hx => ?_, ?_, fun x hx => ?_, fun x hx hl => ?_⟩
  · rw [hf, ← dnC_app]
    exact perm_ring hd h.perm hr hc
  · rcases List.mem_append.1 hc' with h1 | h1
    · exact h.rings c' h1
    · rw [List.mem_singleton.1 h1]; exact hr
  · rcases List.mem_append.1 hc' with h1 | h1
    · exact h.mins c' h1 x hx
    · rw [List.mem_singleton.1 h1] at hx ⊢
      rw [hh]
      rcases Nat.lt_or_ge x k with h2 | h2
      · have := h.pre x h2 (hc x hx).1
        rw [(hc x hx).2] at this
        cases this
      · exact h2
  · rw [hf]
    exact List.nodup_append.2 ⟨h.nd, hr.2.1, fun a ha b hb e => by subst e; exact (dnC_false.1 (hc a hb).2).2 ha⟩
  · rw [hf] at hx
    rcases List.mem_append.1 hx with h1 | h1
    · exact h.lt x h1
    · exact ⟨(hc x h1).1, (dnC_false.1 (hc x h1).2).1⟩
  · rw [hf, ← dnC_app]
    by_cases e : x = k
    · refine dnC_true.2 (Or.inr ?_)
      rw [e, ← hh]
      cases c with
      | nil => exact absurd rfl hr.1
      | cons y r => simp
    · exact dnC_true.2 (Or.inl (h.pre x (by omega) hl))
end

/-- The rings of a list, all of them. -/
structure CSet (l : List M) (css : List (List Nat)) : Prop where
  rings : ∀ c ∈ css, Ring l c
  mins : ∀ c ∈ css, ∀ x ∈ c, c.headD 0 ≤ x
  nd : css.flatten.Nodup
  lt : ∀ x ∈ css.flatten, x < l.length ∧ tO l x ≠ fR l x
  mx : ∀ C : Nat → Prop, PC l C → ∀ j, C j → j ∈ css.flatten
theorem cset_of {l : List M} {dn0 : Nat → Bool} {css : List (List Nat)} {out : List M} (h : Good l dn0 [] out) (ho : Out l dn0 css l.length) : CSet l css where
  rings := ho.rings
  mins := ho.mins
  nd := ho.nd
  lt := fun x hx => ⟨(ho.lt x hx).1, fun e => by
    have h1 := ho.lt x hx
    rw [h.sf x h1.1 e] at h1
    cases h1.2⟩
  mx := fun C hC j hj => by
    have h1 := h.cy C hC j hj
    have h2 := (hC j hj).1
    rcases dnC_true.1 (ho.pre j h2 h2) with h3 | h3
    · rw [h1] at h3; cases h3
    · exact h3

/-! What is done. -/
def bodM (spare : Int) : List M → List M
  | [] => []
  | [m] => [(m.1, spare)]
  | m :: m' :: r => m :: bodM spare (m' :: r)
def opM (spare : Int) (cm : List M) : List M := (spare, (cm.headD (0, 0)).1) :: bodM spare cm
theorem bodM_len (spare : Int) : ∀ cm : List M, (bodM spare cm).length = cm.length
  | [] => rfl
  | [_] => rfl
  | _ :: m' :: r => by
    unfold bodM
    rw [List.length_cons, bodM_len spare (m' :: r)]
    rfl
section
variable {l : List M} {spare : Int}
theorem body_ex (hd : Dis l) (hsp : ∀ i, i < l.length → tO l i ≠ spare) : ∀ (x : Nat) (r : List Nat) (s : Int → Int) (v : Int), (x :: r).Nodup → (∀ y ∈ x :: r, y < l.length) → Ch l (x :: r) → (∀ y ∈ x :: r, s (tO l y) = tO l y) → s spare = v → fR l ((x :: r).getLastD 0) = v →
    (∀ y ∈ x :: r, ex (bodM spare ((x :: r).map (mv l))) s (tO l y) = fR l y) ∧ ∀ a, (∀ y ∈ x :: r, tO l y ≠ a) → ex (bodM spare ((x :: r).map (mv l))) s a = s a
  | x, [], s, v, _, hlt, _, hst, hv, hl => by
    have e : ∀ a, ex (bodM spare ([x].map (mv l))) s a = if a = tO l x then s spare else s a := fun a => rfl
    refine ⟨fun y hy => ?_, fun a ha => ?_⟩
    · rw [List.mem_singleton.1 hy, e, if_pos rfl, hv, ← hl]; rfl
    · rw [e, if_neg (fun h => ha x (by simp) h.symm)]
  | x, z :: r, s, v, hn, hlt, hc, hst, hv, hl => by
    have e : ∀ a, ex (bodM spare ((x :: z :: r).map (mv l))) s a = ex (bodM spare ((z :: r).map (mv l))) (ex1 (mv l x) s) a := fun a => rfl
    have e1 : ∀ a, ex1 (mv l x) s a = if a = tO l x then s (fR l x) else s a := fun a => rfl
    obtain ⟨hn1, hn2⟩ := List.nodup_cons.1 hn
    have hxy : ∀ y ∈ z :: r, tO l y ≠ tO l x := fun y hy e => hn1 (by rw [← hd y x (hlt y (List.mem_cons_of_mem _ hy)) (hlt x (by simp)) e]; exact hy)
    obtain ⟨h1, h2⟩ := body_ex hd hsp z r (ex1 (mv l x) s) v hn2 (fun y hy => hlt y (List.mem_cons_of_mem _ hy)) hc.2 (fun y hy => by
      rw [e1, if_neg (hxy y hy)]
      exact hst y (List.mem_cons_of_mem _ hy)) (by rw [e1, if_neg (fun h => hsp x (hlt x (by simp)) h.symm)]; exact hv) (by rw [← hl, last_cons2])
    refine ⟨fun y hy => ?_, fun a ha => ?_⟩
    · rw [e]
      rcases List.mem_cons.1 hy with rfl | hy
      · rw [h2 _ hxy, e1, if_pos rfl, hc.1]
        exact hst z (by simp)
      · exact h1 y hy
    · rw [e, h2 a (fun y hy => ha y (List.mem_cons_of_mem _ hy)), e1, if_neg (fun h => ha x (by simp) h.symm)]
theorem ring_ex (hd : Dis l) (hsp : ∀ i, i < l.length → tO l i ≠ spare) {c : List Nat} (hr : Ring l c) (hlt : ∀ y ∈ c, y < l.length) (s : Int → Int) (hst : ∀ y ∈ c, s (tO l y) = tO l y) :
    (∀ y ∈ c, ex (opM spare (c.map (mv l))) s (tO l y) = fR l y) ∧ ∀ a, a ≠ spare → (∀ y ∈ c, tO l y ≠ a) → ex (opM spare (c.map (mv l))) s a = s a := by
  obtain ⟨h1, h2, h3, h4⟩ := hr
  cases c with
  | nil => exact absurd rfl h1
  | cons x r =>
    have e : ∀ a, ex (opM spare ((x :: r).map (mv l))) s a = ex (bodM spare ((x :: r).map (mv l))) (ex1 (spare, tO l x) s) a := fun a => rfl
    have e1 : ∀ a, ex1 (spare, tO l x) s a = if a = spare then s (tO l x) else s a := fun a => rfl
    obtain ⟨g1, g2⟩ := body_ex hd hsp x r (ex1 (spare, tO l x) s) (tO l x) h2 hlt h3 (fun y hy => by rw [e1, if_neg (hsp y (hlt y hy))]; exact hst y hy) (by rw [e1, if_pos rfl]; exact hst x (by simp)) h4
    exact ⟨fun y hy => by rw [e]; exact g1 y hy, fun a ha hy => by rw [e, g2 a hy, e1, if_neg ha]⟩
theorem rings_ex (hd : Dis l) (hsp : ∀ i, i < l.length → tO l i ≠ spare) : ∀ (css : List (List Nat)) (s : Int → Int), (∀ c ∈ css, Ring l c) → css.flatten.Nodup → (∀ y ∈ css.flatten, y < l.length) → (∀ y ∈ css.flatten, s (tO l y) = tO l y) →
    (∀ y ∈ css.flatten, ex (css.map fun c => opM spare (c.map (mv l))).flatten s (tO l y) = fR l y) ∧ ∀ a, a ≠ spare → (∀ y ∈ css.flatten, tO l y ≠ a) → ex (css.map fun c => opM spare (c.map (mv l))).flatten s a = s a
  | [], s, _, _, _, _ => ⟨fun y hy => by simp at hy, fun a _ _ => rfl⟩
  | c :: css, s, hr, hn, hlt, hst => by
    rw [List.flatten_cons] at hn hlt hst ⊢
    obtain ⟨n1, n2, n3⟩ := List.nodup_append.1 hn
    obtain ⟨g1, g2⟩ := ring_ex hd hsp (hr c (by simp)) (fun y hy => hlt y (List.mem_append_left _ hy)) s (fun y hy => hst y (List.mem_append_left _ hy))
    have hne : ∀ x ∈ c, ∀ y ∈ css.flatten, tO l x ≠ tO l y := fun x hx y hy e => n3 x hx y hy (hd x y (hlt x (List.mem_append_left _ hx)) (hlt y (List.mem_append_right _ hy)) e)
    obtain ⟨q1, q2⟩ := rings_ex hd hsp css (ex (opM spare (c.map (mv l))) s) (fun c hc => hr c (List.mem_cons_of_mem _ hc)) n2 (fun y hy => hlt y (List.mem_append_right _ hy)) (fun y hy => by
      rw [g2 _ (hsp y (hlt y (List.mem_append_right _ hy))) (fun x hx => hne x hx y hy)]
      exact hst y (List.mem_append_right _ hy))
    rw [List.map_cons, List.flatten_cons, ex_app]
    refine ⟨fun y hy => ?_, fun a ha hy => ?_⟩
    · rcases List.mem_append.1 hy with h | h
      · rw [q2 _ (hsp y (hlt y hy)) (fun x hx e => hne y h x hx e.symm)]
        exact g1 y h
      · exact q1 y h
    · rw [q2 a ha (fun y h => hy y (List.mem_append_right _ h)), g2 a ha (fun y h => hy y (List.mem_append_left _ h))]
theorem bodM_places : ∀ (cm : List M), ∀ m ∈ bodM spare cm, (∃ m' ∈ cm, m'.1 = m.1) ∧ (m.2 = spare ∨ ∃ m' ∈ cm, m'.2 = m.2)
  | [m'], m, h => by
    rw [show m = (m'.1, spare) from List.mem_singleton.1 h]
    exact ⟨⟨m', by simp, rfl⟩, Or.inl rfl⟩
  | a :: b :: r, m, h => by
    rcases List.mem_cons.1 h with rfl | h
    · exact ⟨⟨m, by simp, rfl⟩, Or.inr ⟨m, by simp, rfl⟩⟩
    · obtain ⟨⟨m1, h1, h2⟩, h3⟩ := bodM_places (b :: r) m h
      refine ⟨⟨m1, List.mem_cons_of_mem _ h1, h2⟩, ?_⟩
      rcases h3 with h3 | ⟨m2, h3, h4⟩
      · exact Or.inl h3
      · exact Or.inr ⟨m2, List.mem_cons_of_mem _ h3, h4⟩
end
/-- What moves, done one by one, should be. -/
structure OrdB (l : List M) (spare : Int) (css : List (List Nat)) (out : List M) : Prop where
  ln : out.length = ct l.length (fun i => decide (tO l i ≠ fR l i)) + css.length
  ed : ∀ i, i < l.length → ex out id (tO l i) = fR l i
  eo : ∀ a, a ≠ spare → (∀ i, i < l.length → tO l i ≠ a) → ex out id a = a
  mo : css = [] → ∀ m ∈ out, m ∈ l
  pl : ∀ m ∈ out, (m.1 = spare ∨ ∃ m' ∈ l, m'.1 = m.1) ∧ (m.2 = spare ∨ ∃ m' ∈ l, m'.1 = m.2 ∨ m'.2 = m.2)
def OrdOK (l : List M) (spare : Int) (out : List M) : Prop := ∃ css, CSet l css ∧ OrdB l spare css out
theorem len_rings (spare : Int) (l : List M) : ∀ css : List (List Nat), ((css.map fun c => opM spare (c.map (mv l))).flatten).length = css.flatten.length + css.length
  | [] => rfl
  | c :: css => by
    rw [List.map_cons, List.flatten_cons, List.length_append, len_rings spare l css, List.flatten_cons, List.length_append, List.length_cons]
    unfold opM
    rw [List.length_cons, bodM_len, List.length_map]
    omega
theorem ord_ok {l : List M} {spare : Int} {dn0 : Nat → Bool} {out : List M} {css : List (List Nat)} (hd : Dis l) (hsp : ∀ i, i < l.length → tO l i ≠ spare) (h : Good l dn0 [] out) (ho : Out l dn0 css l.length) : OrdOK l spare (out ++ (css.map fun c => opM spare (c.map (mv l))).flatten) := by
  have hU : ∀ x, x ∈ css.flatten ↔ x < l.length ∧ dn0 x = false := fun x => ⟨ho.lt x, fun ⟨h1, h2⟩ => by
    rcases dnC_true.1 (ho.pre x h1 h1) with h3 | h3
    · rw [h2] at h3; cases h3
    · exact h3⟩
  obtain ⟨q1, q2⟩ := rings_ex hd hsp css (ex out id) ho.rings ho.nd (fun y hy => (ho.lt y hy).1) (fun y hy => h.eu y (ho.lt y hy).1 (ho.lt y hy).2)
  refine ⟨css, cset_of h ho, ⟨?_, fun i hi => ?_, fun a ha hn => ?_, fun hc m hm => ?_, fun m hm => ?_⟩⟩
  · rw [List.length_append, len_rings]
    have h1 := h.ln
    rw [ct_list (l := css.flatten) ho.nd (fun x => by rw [hU]; simp)] at h1
    omega
  · rw [ex_app]
    cases hdi : dn0 i with
    | false => exact q1 i ((hU i).2 ⟨hi, hdi⟩)
    | true =>
      rw [q2 _ (hsp i hi) (fun y hy e => by
        have h1 := (hU y).1 hy
        rw [hd y i h1.1 hi e, hdi] at h1
        cases h1.2)]
      exact h.ed i hi hdi
  · rw [ex_app, q2 a ha (fun y hy => hn y (ho.lt y hy).1)]
    exact h.eo a hn
  · subst hc
    rw [List.map_nil, List.flatten_nil, List.append_nil] at hm
    exact h.mo m hm
  · rcases List.mem_append.1 hm with hm | hm
    · exact ⟨Or.inr ⟨m, h.mo m hm, rfl⟩, Or.inr ⟨m, h.mo m hm, Or.inr rfl⟩⟩
    · obtain ⟨b, hb, hm⟩ := List.mem_flatten.1 hm
      obtain ⟨c, hc, rfl⟩ := List.mem_map.1 hb
      have hcl : ∀ m' ∈ c.map (mv l), m' ∈ l := fun m' h1 => by
        obtain ⟨x, hx, rfl⟩ := List.mem_map.1 h1
        exact mv_mem (ho.lt x (List.mem_flatten.2 ⟨c, hc, hx⟩)).1
      rcases List.mem_cons.1 hm with rfl | hm
      · refine ⟨Or.inl rfl, Or.inr ?_⟩
        obtain ⟨h1, _⟩ := ho.rings c hc
        cases c with
        | nil => exact absurd rfl h1
        | cons x r => exact ⟨mv l x, hcl _ (by simp), Or.inl rfl⟩
      · obtain ⟨⟨m1, h1, h2⟩, h3⟩ := bodM_places _ m hm
        refine ⟨Or.inr ⟨m1, hcl _ h1, h2⟩, ?_⟩
        rcases h3 with h3 | ⟨m2, h3, h4⟩
        · exact Or.inl h3
        · exact Or.inr ⟨m2, hcl _ h3, Or.inr h4⟩

/-! How the document counts. -/
def srcB (l : List M) (a : Int) (i : Nat) : Bool := decide (tO l i = a) && decide (fR l i ≠ a)
def src (l : List M) (a : Int) : Option Int := ((List.range l.length).find? (srcB l a)).map (fR l)
theorem src_some {l : List M} {a : Int} {i : Nat} (hi : i < l.length) (h : srcB l a i = true) (hn : ∀ j, j < i → srcB l a j = false) : src l a = some (fR l i) := by
  unfold src
  rw [List.find?_range_eq_some.2 ⟨h, List.mem_range.2 hi, fun j hj => by rw [hn j hj]; rfl⟩]
  rfl
theorem src_none {l : List M} {a : Int} (h : ∀ j, j < l.length → srcB l a j = false) : src l a = none := by
  unfold src
  rw [List.find?_eq_none.2 fun x hx => by rw [h x (List.mem_range.1 hx)]; simp]
  rfl
theorem src_at {l : List M} (hd : Dis l) {i : Nat} (hi : i < l.length) (hs : tO l i ≠ fR l i) : src l (tO l i) = some (fR l i) := by
  refine src_some hi (by simp [srcB]; exact fun e => hs e.symm) (fun j hj => ?_)
  cases hb : srcB l (tO l i) j with
  | false => rfl
  | true =>
    simp [srcB] at hb
    have := hd j i (by omega) hi hb.1
    omega
theorem src_inv {l : List M} {a b : Int} (h : src l a = some b) : ∃ i, i < l.length ∧ tO l i = a ∧ fR l i = b ∧ tO l i ≠ fR l i := by
  unfold src at h
  obtain ⟨i, h1, h2⟩ := Option.map_eq_some_iff.1 h
  obtain ⟨h3, h4, _⟩ := List.find?_range_eq_some.1 h1
  simp [srcB] at h3
  exact ⟨i, List.mem_range.1 h4, h3.1, h2, by rw [h3.1]; exact fun e => h3.2 e.symm⟩
/-- No place of a lesser number. -/
def noLess (l : List M) (a : Int) (i : Nat) : Bool := (List.range l.length).all fun k => decide (tO l k ≠ a) || decide (i < k)
def rl (l : List M) (i : Nat) : Nat → Int → Bool → Int × Bool
  | 0, a, b => (a, b)
  | k + 1, a, b => match src l a with
    | none => (a, false)
    | some a' => if a' = tO l i then (a', b) else rl l i k a' (b && noLess l a' i)
def counted (l : List M) (i : Nat) : Bool := (rl l i l.length (tO l i) true).2 && decide ((rl l i l.length (tO l i) true).1 = tO l i) && decide (tO l i ≠ fR l i)
theorem rl_false (l : List M) (i : Nat) : ∀ k a, (rl l i k a false).2 = false
  | 0, _ => rfl
  | k + 1, a => by
    unfold rl
    cases src l a with
    | none => rfl
    | some a' =>
      show (if a' = tO l i then (a', false) else rl l i k a' (false && noLess l a' i)).2 = false
      split
      · rfl
      · rw [Bool.false_and]; exact rl_false l i k a'
theorem rl_path {l : List M} (hd : Dis l) {i : Nat} : ∀ (k y : Nat) (b : Bool), (rl l i k (tO l y) b).2 = true → (rl l i k (tO l y) b).1 = tO l i → y < l.length → (y = i → k ≠ 0) → i < l.length →
    ∃ p, Ch l (y :: p) ∧ (∀ x ∈ p, i < x ∧ x < l.length ∧ tO l x ≠ fR l x) ∧ tO l y ≠ fR l y ∧ fR l ((y :: p).getLastD 0) = tO l i
  | 0, y, b, h1, h2, hy, hk, hi => absurd rfl (hk (hd y i hy hi h2))
  | k + 1, y, b, h1, h2, hy, _, hi => by
    unfold rl at h1 h2
    cases hs : src l (tO l y) with
    | none => rw [hs] at h1; cases h1
    | some a' =>
      obtain ⟨y', g1, g2, g3, g4⟩ := src_inv hs
      obtain rfl := hd y' y g1 hy g2
      rw [hs] at h1 h2
      by_cases ha : a' = tO l i
      · exact ⟨[], trivial, (fun x hx => by cases hx), g4, by rw [← ha]; exact g3⟩
      · simp only [ha, if_false] at h1 h2
        have hb : (b && noLess l a' i) = true := by
          cases hb : (b && noLess l a' i) with
          | true => rfl
          | false => rw [hb, rl_false] at h1; cases h1
        obtain ⟨hb1, hb2⟩ := (Bool.and_eq_true _ _).mp hb
        -- the next one
        have hz : ∃ z, z < l.length ∧ tO l z = a' := by
          cases k with
          | zero => exact absurd h2 ha
          | succ k =>
            unfold rl at h1
            cases hs2 : src l a' with
            | none => rw [hs2] at h1; cases h1
            | some a2 =>
              obtain ⟨z, z1, z2, _⟩ := src_inv hs2
              exact ⟨z, z1, z2⟩
        obtain ⟨z, z1, z2⟩ := hz
        rw [← z2] at h1 h2
        obtain ⟨p, p1, p2, p3, p4⟩ := rl_path hd k z _ h1 h2 z1 (fun e => absurd (by rw [← z2, e]) ha) hi
        have hiz : i < z := by
          have := List.all_eq_true.1 hb2 z (List.mem_range.2 z1)
          simpa [z2] using this
        refine ⟨z :: p, ⟨by rw [g3, z2], p1⟩, fun x hx => ?_, g4, by rw [last_cons2]; exact p4⟩
        rcases List.mem_cons.1 hx with rfl | hx
        · exact ⟨hiz, z1, p3⟩
        · exact p2 x hx
theorem rl_ring {l : List M} (hd : Dis l) {i : Nat} (hi : i < l.length) : ∀ (r : List Nat) (y k : Nat), (y :: r).length ≤ k → Ch l (y :: r) → (∀ x ∈ r, i < x) → (∀ x ∈ y :: r, x < l.length ∧ tO l x ≠ fR l x) → fR l ((y :: r).getLastD 0) = tO l i → rl l i k (tO l y) true = (tO l i, true)
  | [], y, k + 1, _, _, _, h4, h5 => by
    unfold rl
    rw [src_at hd (h4 y (by simp)).1 (h4 y (by simp)).2]
    have h6 : fR l y = tO l i := h5
    simp [h6]
  | z :: r, y, k + 1, h1, h2, h3, h4, h5 => by
    unfold rl
    rw [src_at hd (h4 y (by simp)).1 (h4 y (by simp)).2]
    have hz := h4 z (by simp)
    have hne : fR l y ≠ tO l i := fun e => by
      have := hd z i hz.1 hi (by rw [← h2.1, e])
      have := h3 z (by simp)
      omega
    have hnl : noLess l (tO l z) i = true := List.all_eq_true.2 fun x hx => by
      by_cases e : tO l x = tO l z
      · rw [hd x z (List.mem_range.1 hx) hz.1 e]
        simp [h3 z (by simp)]
      · simp [e]
    simp only [hne, if_false]
    rw [h2.1, hnl]
    exact rl_ring hd hi r z k (by simp at h1 ⊢; omega) h2.2 (fun x hx => h3 x (List.mem_cons_of_mem _ hx)) (fun x hx => h4 x (List.mem_cons_of_mem _ hx)) (by rw [← h5, last_cons2])

theorem heads_nodup : ∀ {css : List (List Nat)}, css.flatten.Nodup → (∀ c ∈ css, c ≠ []) → (css.map fun c => c.headD 0).Nodup
  | [], _, _ => by simp
  | c :: css, h, hne => by
    rw [List.flatten_cons] at h
    obtain ⟨h1, h2, h3⟩ := List.nodup_append.1 h
    have hm : ∀ c : List Nat, c ≠ [] → c.headD 0 ∈ c := fun c hc => by
      cases c with
      | nil => exact absurd rfl hc
      | cons x r => simp
    refine List.nodup_cons.2 ⟨fun hx => ?_, heads_nodup h2 (fun c hc => hne c (List.mem_cons_of_mem _ hc))⟩
    obtain ⟨c', hc', e⟩ := List.mem_map.1 hx
    exact h3 _ (hm c (hne c (by simp))) _ (List.mem_flatten.2 ⟨c', hc', hm c' (hne c' (List.mem_cons_of_mem _ hc'))⟩) e.symm
theorem head_mem {c : List Nat} (h : c ≠ []) : c.headD 0 ∈ c := by
  cases c with
  | nil => exact absurd rfl h
  | cons x r => simp
/-- As many as there are rings. -/
theorem counted_len {l : List M} {css : List (List Nat)} (hd : Dis l) (h : CSet l css) : ct l.length (counted l) = css.length := by
  have hne : ∀ c ∈ css, c ≠ [] := fun c hc => (h.rings c hc).1
  rw [ct_list (l := css.map fun c => c.headD 0) (heads_nodup h.nd hne), List.length_map]
  intro i
  constructor
  · intro hm
    obtain ⟨c, hc, rfl⟩ := List.mem_map.1 hm
    have hr := h.rings c hc
    have hlt : ∀ x ∈ c, x < l.length ∧ tO l x ≠ fR l x := fun x hx => h.lt x (List.mem_flatten.2 ⟨c, hc, hx⟩)
    have hi := hlt _ (head_mem (hne c hc))
    refine ⟨hi.1, ?_⟩
    have hlen : c.length ≤ l.length := by
      have h1 := hr.2.1.length_le_of_subset (l₂ := List.range l.length) (fun x hx => List.mem_range.2 (hlt x hx).1)
      simpa using h1
    obtain ⟨h1, h2, h3, h4⟩ := hr
    have hmin := h.mins c hc
    cases c with
    | nil => exact absurd rfl h1
    | cons x r =>
      have := rl_ring hd (i := x) hi.1 r x l.length hlen h3 (fun y hy => by
        have h5 := hmin y (List.mem_cons_of_mem _ hy)
        have h6 : x ≤ y := h5
        have h7 : x ≠ y := fun e => (List.nodup_cons.1 h2).1 (by rw [e]; exact hy)
        omega) hlt h4
      show counted l x = true
      unfold counted
      rw [this]
      simpa using hi.2
  · intro ⟨hi, hc⟩
    unfold counted at hc
    rw [Bool.and_eq_true, Bool.and_eq_true, decide_eq_true_eq, decide_eq_true_eq] at hc
    obtain ⟨p, p1, p2, p3, p4⟩ := rl_path hd l.length i true hc.1.1 hc.1.2 hi (fun _ => by omega) hi
    have hpc : PC l fun x => x ∈ i :: p := fun x hx => by
      rcases List.mem_cons.1 hx with rfl | hx
      · exact ⟨hi, p3, _, last_mem (by simp), p4⟩
      · exact ⟨(p2 x hx).2.1, (p2 x hx).2.2, ch_prev p1 x hx⟩
    obtain ⟨c, hc, hic⟩ := List.mem_flatten.1 (h.mx _ hpc i (by simp))
    have hr := h.rings c hc
    have hall := ring_all hr (S := fun x => x ∈ i :: p) (fun a b ha hb hsa e => by
      have hb1 := (h.lt b (List.mem_flatten.2 ⟨c, hc, hb⟩)).1
      rcases ch_next p1 a hsa with e1 | ⟨b', hb', e1⟩
      · rw [hd b i hb1 hi (by rw [← e, e1, p4])]; simp
      · rw [hd b b' hb1 (p2 b' hb').2.1 (by rw [← e, e1])]; simp [hb']) hic (by simp)
    have h1 := hall _ (head_mem (hne c hc))
    refine List.mem_map.2 ⟨c, hc, ?_⟩
    rcases List.mem_cons.1 h1 with e | h2
    · exact e
    · have h3 := (p2 _ h2).1
      have h4 := h.mins c hc i hic
      omega
end Go.Proofs.Ytnbkcdhblmfopaa.Mv
