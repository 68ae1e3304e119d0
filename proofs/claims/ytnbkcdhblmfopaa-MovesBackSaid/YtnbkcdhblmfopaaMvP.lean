/-
  Moves, plainly: rows, rings, and what they do.
-/
import Derived.Test.YtnbkcdhblmfopaaFMem
namespace Go.Proofs.Ytnbkcdhblmfopaa.Mv

abbrev M := Int × Int
def mv (l : List M) (i : Nat) : M := l.getD i (0, 0)
def tO (l : List M) (i : Nat) : Int := (mv l i).1
def fR (l : List M) (i : Nat) : Int := (mv l i).2
/-- No two have one To. -/
def Dis (l : List M) : Prop := ∀ i j, i < l.length → j < l.length → tO l i = tO l j → i = j
theorem mv_mem {l : List M} {i : Nat} (h : i < l.length) : mv l i ∈ l := by
  unfold mv
  rw [List.getD_eq_getElem?_getD, List.getElem?_eq_getElem h]
  exact List.getElem_mem h
theorem mem_mv {l : List M} {m : M} (h : m ∈ l) : ∃ i, i < l.length ∧ mv l i = m := by
  obtain ⟨i, hi, e⟩ := List.getElem_of_mem h
  exact ⟨i, hi, by unfold mv; rw [List.getD_eq_getElem?_getD, List.getElem?_eq_getElem hi]; exact e⟩

/-! Counts. -/
def ct : Nat → (Nat → Bool) → Nat
  | 0, _ => 0
  | n + 1, f => ct n f + (f n).toNat
theorem ct_congr {f g : Nat → Bool} : ∀ {n : Nat}, (∀ i, i < n → f i = g i) → ct n f = ct n g
  | 0, _ => rfl
  | n + 1, h => by
    unfold ct
    rw [ct_congr (n := n) (fun i hi => h i (by omega)), h n (by omega)]
theorem ct_flip {f g : Nat → Bool} {i : Nat} (hf : f i = true) (hg : g i = false) : ∀ {n : Nat}, i < n → (∀ j, j < n → j ≠ i → f j = g j) → ct n f = ct n g + 1
  | 0, h, _ => by omega
  | n + 1, h, he => by
    unfold ct
    by_cases hi : i = n
    · subst hi
      rw [ct_congr (fun j hj => he j (by omega) (by omega)), hf, hg]
      rfl
    · rw [ct_flip hf hg (n := n) (by omega) (fun j hj hne => he j (by omega) hne), he n (by omega) (by omega)]
      omega
theorem ct_zero {f : Nat → Bool} : ∀ {n : Nat}, ct n f = 0 → ∀ i, i < n → f i = false
  | 0, _, i, h => by omega
  | n + 1, h, i, hi => by
    unfold ct at h
    by_cases he : i = n
    · subst he
      cases hf : f i with
      | false => rfl
      | true => rw [hf] at h; simp at h
    · exact ct_zero (n := n) (by omega) i (by omega)
theorem ct_none {f : Nat → Bool} : ∀ {n : Nat}, (∀ i, i < n → f i = false) → ct n f = 0
  | 0, _ => rfl
  | n + 1, h => by
    unfold ct
    rw [ct_none (fun i hi => h i (by omega)), h n (by omega)]
    rfl
theorem ct_pos {f : Nat → Bool} {n i : Nat} (hi : i < n) (h : f i = true) : 0 < ct n f := by
  rcases Nat.eq_zero_or_pos (ct n f) with h0 | h0
  · rw [ct_zero h0 i hi] at h; cases h
  · exact h0
theorem ct_some {f : Nat → Bool} {n : Nat} (h : ct n f ≠ 0) : ∃ i, i < n ∧ f i = true := by
  apply Classical.byContradiction
  intro hc
  exact h (ct_none fun i hi => by
    cases hf : f i with
    | false => rfl
    | true => exact absurd ⟨i, hi, hf⟩ hc)
theorem ct_le {f : Nat → Bool} : ∀ {n : Nat}, ct n f ≤ n
  | 0 => Nat.le_refl _
  | n + 1 => by
    unfold ct
    have := ct_le (f := f) (n := n)
    cases f n <;> simp <;> omega
theorem ct_filter (f : Nat → Bool) : ∀ n : Nat, ct n f = ((List.range n).filter f).length
  | 0 => rfl
  | n + 1 => by
    unfold ct
    rw [ct_filter f n, List.range_succ, List.filter_append, List.length_append]
    cases h : f n <;> simp [h]
theorem nodup_same {a b : List Nat} (ha : a.Nodup) (hb : b.Nodup) (h : ∀ x, x ∈ a ↔ x ∈ b) : a.length = b.length :=
  Nat.le_antisymm (ha.length_le_of_subset fun x hx => (h x).1 hx) (hb.length_le_of_subset fun x hx => (h x).2 hx)
theorem ct_list {f : Nat → Bool} {n : Nat} {l : List Nat} (hl : l.Nodup) (h : ∀ x, x ∈ l ↔ x < n ∧ f x = true) : ct n f = l.length := by
  rw [ct_filter]
  exact nodup_same (List.nodup_range.filter _) hl (fun x => by rw [h, List.mem_filter, List.mem_range])
/-- A list without doubles within another one that is no longer is all of it. -/
theorem nodup_full {a b : List Nat} (ha : a.Nodup) (h : ∀ x ∈ a, x ∈ b) (hl : b.length ≤ a.length) : ∀ x ∈ b, x ∈ a := by
  intro x hx
  apply Classical.byContradiction
  intro hn
  have h1 : (x :: a).Nodup := List.nodup_cons.2 ⟨hn, ha⟩
  have h2 := h1.length_le_of_subset (l₂ := b) (fun y hy => by
    rcases List.mem_cons.1 hy with rfl | hy
    · exact hx
    · exact h y hy)
  rw [List.length_cons] at h2
  omega

/-! One by one. -/
def ex1 (m : M) (s : Int → Int) : Int → Int := fun a => if a = m.1 then s m.2 else s a
def ex : List M → (Int → Int) → Int → Int
  | [], s => s
  | m :: r, s => ex r (ex1 m s)
theorem ex_app (a b : List M) (s : Int → Int) : ex (a ++ b) s = ex b (ex a s) := by
  induction a generalizing s with
  | nil => rfl
  | cons m r ih => exact ih _
theorem ex_comp (a : List M) (s : Int → Int) (p : Int) : ex a s p = s (ex a id p) := by
  induction a generalizing s p with
  | nil => rfl
  | cons m r ih =>
    show ex r (ex1 m s) p = s (ex r (ex1 m id) p)
    rw [ih (ex1 m s), ih (ex1 m id)]
    unfold ex1
    by_cases h : ex r id p = m.1 <;> simp [h]

def up {α : Type} (f : Nat → α) (i : Nat) (v : α) : Nat → α := fun x => if x = i then v else f x
theorem up_same {α : Type} (f : Nat → α) (i : Nat) (v : α) : up f i v i = v := by simp [up]
theorem up_other {α : Type} (f : Nat → α) {i x : Nat} (v : α) (h : x ≠ i) : up f i v x = f x := by simp [up, h]

/-- How many moves that aren't done need what a To has. -/
def cnt (l : List M) (dn : Nat → Bool) (j : Nat) : Nat := ct l.length fun i => !dn i && decide (fR l i = tO l j)
/-- Of each one somebody needs it. -/
def PC (l : List M) (C : Nat → Prop) : Prop := ∀ j, C j → j < l.length ∧ tO l j ≠ fR l j ∧ ∃ i, C i ∧ fR l i = tO l j
structure Good (l : List M) (dn : Nat → Bool) (rd : List Nat) (out : List M) : Prop where
  rn : rd.Nodup
  rm : ∀ x, x ∈ rd ↔ x < l.length ∧ dn x = false ∧ cnt l dn x = 0
  ed : ∀ i, i < l.length → dn i = true → ex out id (tO l i) = fR l i
  eu : ∀ i, i < l.length → dn i = false → ex out id (tO l i) = tO l i
  eo : ∀ a, (∀ i, i < l.length → tO l i ≠ a) → ex out id a = a
  ln : out.length + ct l.length (fun i => !dn i) = ct l.length (fun i => decide (tO l i ≠ fR l i))
  mo : ∀ m ∈ out, m ∈ l
  cl : ∀ j, j < l.length → dn j = true → tO l j ≠ fR l j → ∀ i, i < l.length → fR l i = tO l j → dn i = true
  sf : ∀ i, i < l.length → tO l i = fR l i → dn i = true
  cy : ∀ C : Nat → Prop, PC l C → ∀ j, C j → dn j = false

theorem good_start {l : List M} {dn : Nat → Bool} (hdn : ∀ i, i < l.length → dn i = decide (tO l i = fR l i)) {rd : List Nat} (hn : rd.Nodup) (hm : ∀ x, x ∈ rd ↔ x < l.length ∧ dn x = false ∧ cnt l dn x = 0) : Good l dn rd [] where
  rn := hn
  rm := hm
  ed := fun i hi h => by rw [hdn i hi] at h; exact of_decide_eq_true h
  eu := fun i hi h => rfl
  eo := fun a h => rfl
  ln := by
    rw [List.length_nil, Nat.zero_add]
    exact ct_congr fun i hi => by rw [hdn i hi]; simp
  mo := fun m hm => by cases hm
  cl := fun j hj h hne => by rw [hdn j hj] at h; exact absurd (of_decide_eq_true h) hne
  sf := fun i hi h => by rw [hdn i hi]; exact decide_eq_true h
  cy := fun C hC j hj => by
    obtain ⟨h1, h2, _⟩ := hC j hj
    rw [hdn j h1]
    exact decide_eq_false h2

section
variable {l : List M} {dn : Nat → Bool} {r : List Nat} {out : List M} {i : Nat}
theorem cnt_other (h : i < l.length) (hd : dn i = false) {x : Nat} (hx : fR l i ≠ tO l x) : cnt l (up dn i true) x = cnt l dn x := ct_congr fun j _ => by
  by_cases hj : j = i
  · subst hj; simp [up_same, hx]
  · rw [up_other _ _ hj]
theorem cnt_less (h : i < l.length) (hd : dn i = false) {x : Nat} (hx : fR l i = tO l x) : cnt l dn x = cnt l (up dn i true) x + 1 :=
  ct_flip (i := i) (by simp [hd, hx]) (by simp [up_same]) h (fun j _ hne => by rw [up_other _ _ hne])
theorem und_less (h : i < l.length) (hd : dn i = false) : ct l.length (fun i => !dn i) = ct l.length (fun j => !(up dn i true) j) + 1 :=
  ct_flip (i := i) (by simp [hd]) (by simp [up_same]) h (fun j _ hne => by rw [up_other _ _ hne])
theorem cnt_none (h : cnt l dn i = 0) {j : Nat} (hj : j < l.length) (he : fR l j = tO l i) : dn j = true := by
  have := ct_zero h j hj
  simpa [he] using this

/-- One is done, and nobody needs .. -/
theorem good_step (hd : Dis l) (h : Good l dn (r ++ [i]) out) {r' : List Nat} (hr : r'.Nodup) (hm : ∀ x, x ∈ r' ↔ x < l.length ∧ up dn i true x = false ∧ cnt l (up dn i true) x = 0) : Good l (up dn i true) r' (out ++ [mv l i]) := by
  obtain ⟨hi, hdi, hci⟩ := (h.rm i).1 (by simp)
  have hns : tO l i ≠ fR l i := fun e => by rw [h.sf i hi e] at hdi; cases hdi
  have hsrc : ex out id (fR l i) = fR l i := by
    by_cases hj : ∃ j, j < l.length ∧ tO l j = fR l i
    · obtain ⟨j, hj, e⟩ := hj
      cases hdj : dn j with
      | false => rw [← e]; exact h.eu j hj hdj
      | true =>
        by_cases hs : tO l j = fR l j
        · rw [← e, h.ed j hj hdj, hs]
        · rw [h.cl j hj hdj hs i hi e.symm] at hdi; cases hdi
    · exact h.eo _ fun j h1 e => hj ⟨j, h1, e⟩
  have hst : ∀ a, ex (out ++ [mv l i]) id a = if a = tO l i then fR l i else ex out id a := fun a => by
    rw [ex_app]
    show ex1 (mv l i) (ex out id) a = _
    unfold ex1
    show (if a = tO l i then ex out id (fR l i) else _) = _
    rw [hsrc]
  exact {
    rn := hr
    rm := hm
    ed := fun j hj hdj => by
      rw [hst]
      by_cases hji : j = i
      · subst hji; simp
      · rw [if_neg (fun e => hji (hd j i hj hi e))]
        rw [up_other _ _ hji] at hdj
        exact h.ed j hj hdj
    eu := fun j hj hdj => by
      rw [hst]
      have hji : j ≠ i := fun e => by subst e; rw [up_same] at hdj; cases hdj
      rw [if_neg (fun e => hji (hd j i hj hi e))]
      rw [up_other _ _ hji] at hdj
      exact h.eu j hj hdj
    eo := fun a ha => by
      rw [hst, if_neg (fun e => ha i hi e.symm)]
      exact h.eo a ha
    ln := by
      have h1 := h.ln
      rw [und_less hi hdi] at h1
      rw [List.length_append, List.length_singleton]
      omega
    mo := fun m hm => by
      rcases List.mem_append.1 hm with hm | hm
      · exact h.mo m hm
      · rw [List.mem_singleton.1 hm]; exact mv_mem hi
    cl := fun j hj hdj hs k hk e => by
      by_cases hki : k = i
      · subst hki; exact up_same _ _ _
      · rw [up_other _ _ hki]
        by_cases hji : j = i
        · subst hji; exact cnt_none hci hk e
        · rw [up_other _ _ hji] at hdj
          exact h.cl j hj hdj hs k hk e
    sf := fun j hj e => by
      by_cases hji : j = i
      · subst hji; exact up_same _ _ _
      · rw [up_other _ _ hji]; exact h.sf j hj e
    cy := fun C hC j hj => by
      have h1 := h.cy C hC
      have hji : j ≠ i := fun e => by
        subst e
        obtain ⟨_, _, k, hk, ek⟩ := hC j hj
        have h2 := cnt_none hci (hC k hk).1 ek
        rw [h1 k hk] at h2
        cases h2
      rw [up_other _ _ hji]
      exact h1 j hj }
/-- .. what it came from: nothing that is a To. -/
theorem ready_none (hd : Dis l) (h : Good l dn (r ++ [i]) out) (hn : ∀ j, j < l.length → tO l j ≠ fR l i) : r.Nodup ∧ ∀ x, x ∈ r ↔ x < l.length ∧ up dn i true x = false ∧ cnt l (up dn i true) x = 0 := by
  obtain ⟨hi, hdi, hci⟩ := (h.rm i).1 (by simp)
  obtain ⟨h1, _, h3⟩ := List.nodup_append.1 h.rn
  refine ⟨h1, fun x => ?_⟩
  have hx := h.rm x
  by_cases hxi : x = i
  · subst hxi
    rw [up_same]
    exact ⟨fun hx => absurd rfl (h3 x hx x (by simp)), fun hx => by cases hx.2.1⟩
  · rw [up_other _ _ hxi]
    rw [List.mem_append, List.mem_singleton] at hx
    constructor
    · intro hr
      have h4 := hx.1 (Or.inl hr)
      exact ⟨h4.1, h4.2.1, by rw [cnt_other hi hdi (fun e => hn x h4.1 e.symm)]; exact h4.2.2⟩
    · intro ⟨h4, h5, h6⟩
      rw [cnt_other hi hdi (fun e => hn x h4 e.symm)] at h6
      rcases hx.2 ⟨h4, h5, h6⟩ with h | h
      · exact h
      · exact absurd h hxi
/-- .. or j, which is ready then, or isn't. -/
theorem ready_some (hd : Dis l) (h : Good l dn (r ++ [i]) out) {j : Nat} (hj : j < l.length) (he : tO l j = fR l i) :
    (cnt l (up dn i true) j = 0 ∧ up dn i true j = false → (r ++ [j]).Nodup ∧ ∀ x, x ∈ r ++ [j] ↔ x < l.length ∧ up dn i true x = false ∧ cnt l (up dn i true) x = 0) ∧
    (¬ (cnt l (up dn i true) j = 0 ∧ up dn i true j = false) → r.Nodup ∧ ∀ x, x ∈ r ↔ x < l.length ∧ up dn i true x = false ∧ cnt l (up dn i true) x = 0) := by
  obtain ⟨hi, hdi, hci⟩ := (h.rm i).1 (by simp)
  obtain ⟨h1, _, h3⟩ := List.nodup_append.1 h.rn
  have hjr : j ∉ r ++ [i] := fun hm => by
    have h4 := ((h.rm j).1 hm).2.2
    rw [cnt_less hi hdi he.symm] at h4
    omega
  have hout : ∀ x, x ≠ j → (x ∈ r ↔ x < l.length ∧ up dn i true x = false ∧ cnt l (up dn i true) x = 0) := fun x hxj => by
    have hx := h.rm x
    by_cases hxi : x = i
    · subst hxi
      rw [up_same]
      exact ⟨fun hx => absurd rfl (h3 x hx x (by simp)), fun hx => by cases hx.2.1⟩
    · rw [up_other _ _ hxi]
      rw [List.mem_append, List.mem_singleton] at hx
      constructor
      · intro hr
        have h4 := hx.1 (Or.inl hr)
        exact ⟨h4.1, h4.2.1, by rw [cnt_other hi hdi (fun e => hxj (hd x j h4.1 hj (by rw [← e, he])))]; exact h4.2.2⟩
      · intro ⟨h4, h5, h6⟩
        rw [cnt_other hi hdi (fun e => hxj (hd x j h4 hj (by rw [← e, he])))] at h6
        rcases hx.2 ⟨h4, h5, h6⟩ with h | h
        · exact h
        · exact absurd h hxi
  have hjr' : j ∉ r := fun h => hjr (by simp [h])
  refine ⟨fun hp => ⟨List.nodup_append.2 ⟨h1, by simp, fun a ha b hb => by rw [List.mem_singleton.1 hb]; intro e; subst e; exact hjr' ha⟩, fun x => ?_⟩, fun hp => ⟨h1, fun x => ?_⟩⟩
  · by_cases hxj : x = j
    · subst hxj
      exact ⟨fun _ => ⟨hj, hp.2, hp.1⟩, fun _ => by simp⟩
    · rw [← hout x hxj]
      simp [hxj]
  · by_cases hxj : x = j
    · subst hxj
      exact ⟨fun h => absurd h hjr', fun h => absurd ⟨h.2.2, h.2.1⟩ hp⟩
    · exact hout x hxj
end

/-- What is left goes round. -/
structure Perm (l : List M) (dn : Nat → Bool) : Prop where
  fw : ∀ i, i < l.length → dn i = false → ∃ j, j < l.length ∧ dn j = false ∧ fR l i = tO l j
  bw : ∀ j, j < l.length → dn j = false → ∃ i, i < l.length ∧ dn i = false ∧ fR l i = tO l j
  inj : ∀ i j, i < l.length → j < l.length → dn i = false → dn j = false → fR l i = fR l j → i = j
theorem good_perm {l : List M} {dn : Nat → Bool} {out : List M} (hd : Dis l) (h : Good l dn [] out) : Perm l dn := by
  have hbw : ∀ j, j < l.length → dn j = false → ∃ i, i < l.length ∧ dn i = false ∧ fR l i = tO l j := fun j hj hdj => by
    have hc : cnt l dn j ≠ 0 := fun h0 => by have := (h.rm j).2 ⟨hj, hdj, h0⟩; cases this
    obtain ⟨i, hi, h1⟩ := ct_some hc
    rw [Bool.and_eq_true, Bool.not_eq_true', decide_eq_true_eq] at h1
    exact ⟨i, hi, h1⟩
  have hch : ∀ j, ∃ i, j < l.length → dn j = false → i < l.length ∧ dn i = false ∧ fR l i = tO l j := fun j => by
    by_cases hj : j < l.length ∧ dn j = false
    · obtain ⟨i, hi⟩ := hbw j hj.1 hj.2
      exact ⟨i, fun _ _ => hi⟩
    · exact ⟨0, fun h1 h2 => absurd ⟨h1, h2⟩ hj⟩
  obtain ⟨c, hc⟩ := Classical.axiomOfChoice hch
  let U := (List.range l.length).filter fun i => !dn i
  have hU : ∀ x, x ∈ U ↔ x < l.length ∧ dn x = false := fun x => by simp [U]
  have hUn : U.Nodup := List.nodup_range.filter _
  have hcn : (U.map c).Nodup := by
    refine List.pairwise_map.2 (hUn.imp_of_mem fun {a b} ha hb hne e => hne ?_)
    obtain ⟨a1, a2⟩ := (hU a).1 ha
    obtain ⟨b1, b2⟩ := (hU b).1 hb
    exact hd a b a1 b1 (by rw [← (hc a a1 a2).2.2, ← (hc b b1 b2).2.2, e])
  have hfull := nodup_full (b := U) hcn (fun x hx => by
    obtain ⟨j, hj, rfl⟩ := List.mem_map.1 hx
    obtain ⟨j1, j2⟩ := (hU j).1 hj
    exact (hU _).2 ⟨(hc j j1 j2).1, (hc j j1 j2).2.1⟩) (by rw [List.length_map]; exact Nat.le_refl _)
  have hone : ∀ i, i < l.length → dn i = false → ∃ j, j < l.length ∧ dn j = false ∧ c j = i ∧ fR l i = tO l j := fun i hi hdi => by
    obtain ⟨j, hj, e⟩ := List.mem_map.1 (hfull i ((hU i).2 ⟨hi, hdi⟩))
    obtain ⟨j1, j2⟩ := (hU j).1 hj
    exact ⟨j, j1, j2, e, by rw [← e]; exact (hc j j1 j2).2.2⟩
  refine ⟨fun i hi hdi => ?_, hbw, fun i k hi hk hdi hdk e => ?_⟩
  · obtain ⟨j, h1, h2, _, h3⟩ := hone i hi hdi
    exact ⟨j, h1, h2, h3⟩
  · obtain ⟨a, a1, _, a3, a4⟩ := hone i hi hdi
    obtain ⟨b, b1, _, b3, b4⟩ := hone k hk hdk
    have := hd a b a1 b1 (by rw [← a4, ← b4, e])
    rw [← a3, ← b3, this]

/-! Rings. -/
def Ch (l : List M) : List Nat → Prop
  | x :: y :: r => fR l x = tO l y ∧ Ch l (y :: r)
  | _ => True
def Ring (l : List M) (c : List Nat) : Prop := c ≠ [] ∧ c.Nodup ∧ Ch l c ∧ fR l (c.getLastD 0) = tO l (c.headD 0)
theorem ch_app {l : List M} {i : Nat} : ∀ {c : List Nat}, Ch l c → (c ≠ [] → fR l (c.getLastD 0) = tO l i) → Ch l (c ++ [i])
  | [], _, _ => trivial
  | [x], _, h2 => ⟨h2 (by simp), trivial⟩
  | x :: y :: r, h1, h2 => ⟨h1.1, ch_app (c := y :: r) h1.2 (fun _ => by have := h2 (by simp); simpa using this)⟩
theorem ch_tail {l : List M} {x : Nat} {r : List Nat} (h : Ch l (x :: r)) : Ch l r := by
  cases r with
  | nil => trivial
  | cons y r => exact h.2
theorem ch_drop {l : List M} : ∀ {a b : List Nat}, Ch l (a ++ b) → Ch l b
  | [], _, h => h
  | x :: a, b, h => ch_drop (a := a) (ch_tail h)
/-- All that come behind. -/
theorem ch_all {l : List M} {S : Nat → Prop} : ∀ {x : Nat} {r : List Nat}, Ch l (x :: r) → (∀ a b, a ∈ x :: r → b ∈ x :: r → S a → fR l a = tO l b → S b) → S x → ∀ y ∈ x :: r, S y
  | x, [], _, _, hx, y, hy => by rw [List.mem_singleton.1 hy]; exact hx
  | x, z :: r, hc, hs, hx, y, hy => by
    rcases List.mem_cons.1 hy with rfl | hy
    · exact hx
    · exact ch_all hc.2 (fun a b ha hb => hs a b (by simp [List.mem_cons.1 ha]) (by simp [List.mem_cons.1 hb])) (hs x z (by simp) (by simp) hx hc.1) y hy
theorem ch_prev {l : List M} : ∀ {x : Nat} {r : List Nat}, Ch l (x :: r) → ∀ y ∈ r, ∃ a ∈ x :: r, fR l a = tO l y
  | x, z :: r, h, y, hy => by
    rcases List.mem_cons.1 hy with rfl | hy
    · exact ⟨x, by simp, h.1⟩
    · obtain ⟨a, ha, e⟩ := ch_prev h.2 y hy
      exact ⟨a, by simp [List.mem_cons.1 ha], e⟩
theorem ch_next {l : List M} : ∀ {x : Nat} {r : List Nat}, Ch l (x :: r) → ∀ y ∈ x :: r, y = (x :: r).getLastD 0 ∨ ∃ b ∈ r, fR l y = tO l b
  | x, [], _, y, hy => Or.inl (by rw [List.mem_singleton.1 hy]; rfl)
  | x, z :: r, h, y, hy => by
    rcases List.mem_cons.1 hy with rfl | hy
    · exact Or.inr ⟨z, by simp, h.1⟩
    · rcases ch_next h.2 y hy with e | ⟨b, hb, e⟩
      · exact Or.inl (by rw [e]; simp)
      · exact Or.inr ⟨b, by simp [hb], e⟩
theorem last_cons2 (x y : Nat) (r : List Nat) : (x :: y :: r).getLastD 0 = (y :: r).getLastD 0 := by
  rw [List.getLastD_cons, List.getLastD_cons, List.getLastD_cons]
theorem last_app (a : Nat) (q : List Nat) : ∀ p : List Nat, (p ++ a :: q).getLastD 0 = (a :: q).getLastD 0
  | [] => rfl
  | [x] => last_cons2 x a q
  | x :: y :: p => (last_cons2 x y (p ++ a :: q)).trans (last_app a q (y :: p))
theorem last_mem : ∀ {c : List Nat}, c ≠ [] → c.getLastD 0 ∈ c
  | [], h => absurd rfl h
  | [x], _ => by simp
  | x :: y :: r, _ => by
    rw [last_cons2]
    exact List.mem_cons_of_mem _ (last_mem (c := y :: r) (by simp))
theorem ring_next {l : List M} {c : List Nat} (h : Ring l c) {a : Nat} (ha : a ∈ c) : ∃ b ∈ c, fR l a = tO l b := by
  obtain ⟨h1, _, h3, h4⟩ := h
  cases c with
  | nil => exact absurd rfl h1
  | cons x r =>
    rcases ch_next h3 a ha with rfl | ⟨b, hb, e⟩
    · exact ⟨x, by simp, h4⟩
    · exact ⟨b, by simp [hb], e⟩
theorem ring_prev {l : List M} {c : List Nat} (h : Ring l c) {b : Nat} (hb : b ∈ c) : ∃ a ∈ c, fR l a = tO l b := by
  obtain ⟨h1, _, h3, h4⟩ := h
  cases c with
  | nil => exact absurd rfl h1
  | cons x r =>
    rcases List.mem_cons.1 hb with rfl | hb
    · exact ⟨_, last_mem h1, h4⟩
    · exact ch_prev h3 b hb
/-- Who goes round meets all. -/
theorem ring_all {l : List M} {c : List Nat} (h : Ring l c) {S : Nat → Prop} (hs : ∀ a b, a ∈ c → b ∈ c → S a → fR l a = tO l b → S b) {a : Nat} (ha : a ∈ c) (hsa : S a) : ∀ b ∈ c, S b := by
  obtain ⟨h1, _, h3, h4⟩ := h
  cases c with
  | nil => exact absurd rfl h1
  | cons x r =>
    obtain ⟨p, q, e⟩ := List.append_of_mem ha
    have h5 : Ch l (a :: q) := ch_drop (a := p) (by rw [← e]; exact h3)
    have hsub : ∀ y ∈ a :: q, y ∈ x :: r := fun y hy => by rw [e]; exact List.mem_append_right _ hy
    have hlast : (x :: r).getLastD 0 = (a :: q).getLastD 0 := by rw [e, last_app]
    have h6 := ch_all h5 (fun a b ha hb => hs a b (hsub a ha) (hsub b hb)) hsa _ (last_mem (c := a :: q) (by simp))
    rw [← hlast] at h6
    have h7 : S x := hs _ x (last_mem h1) (by simp) h6 h4
    exact ch_all h3 hs h7
end Go.Proofs.Ytnbkcdhblmfopaa.Mv
