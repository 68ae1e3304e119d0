/-
  Rings the other way round; rings that are laid one behind the other.
-/
import Derived.Test.YtnbkcdhblmfopaaMvQ
namespace Go.Proofs.Ytnbkcdhblmfopaa.Mv

theorem flat_disj : ∀ {css : List (List Nat)}, css.flatten.Nodup → ∀ {c c' : List Nat} {a : Nat}, c ∈ css → c' ∈ css → a ∈ c → a ∈ c' → c = c'
  | [], _, _, _, _, h, _, _, _ => by cases h
  | d :: css, hn, c, c', a, hc, hc', ha, ha' => by
    rw [List.flatten_cons] at hn
    obtain ⟨_, n2, n3⟩ := List.nodup_append.1 hn
    rcases List.mem_cons.1 hc with rfl | h1 <;> rcases List.mem_cons.1 hc' with rfl | h2
    · rfl
    · exact absurd rfl (n3 a ha a (List.mem_flatten.2 ⟨c', h2, ha'⟩))
    · exact absurd rfl (n3 a ha' a (List.mem_flatten.2 ⟨c, h1, ha⟩))
    · exact flat_disj n2 h1 h2 ha ha'
/-- The same moves, the other way round. -/
def Flip (l1 l2 : List M) : Prop := l1.length = l2.length ∧ ∀ i, i < l1.length → tO l2 i = fR l1 i ∧ fR l2 i = tO l1 i
theorem Flip.symm {l1 l2 : List M} (h : Flip l1 l2) : Flip l2 l1 := ⟨h.1.symm, fun i hi => ⟨(h.2 i (by rw [h.1]; exact hi)).2.symm, (h.2 i (by rw [h.1]; exact hi)).1.symm⟩⟩
theorem flip_mem {l1 l2 : List M} {css1 css2 : List (List Nat)} (h : Flip l1 l2) (h1 : CSet l1 css1) (h2 : CSet l2 css2) : ∀ x ∈ css1.flatten, x ∈ css2.flatten := by
  refine h2.mx (fun x => x ∈ css1.flatten) (fun j hj => ?_)
  obtain ⟨q1, q2⟩ := h1.lt j hj
  obtain ⟨c, hc, hjc⟩ := List.mem_flatten.1 hj
  obtain ⟨b, hb, e⟩ := ring_next (h1.rings c hc) hjc
  have hbl := h1.lt b (List.mem_flatten.2 ⟨c, hc, hb⟩)
  refine ⟨by rw [← h.1]; exact q1, by rw [(h.2 j q1).1, (h.2 j q1).2]; exact fun e => q2 e.symm, b, List.mem_flatten.2 ⟨c, hc, hb⟩, ?_⟩
  rw [(h.2 b hbl.1).2, (h.2 j q1).1, e]
theorem flip_heads {l1 l2 : List M} {css1 css2 : List (List Nat)} (hd : Dis l1) (h : Flip l1 l2) (h1 : CSet l1 css1) (h2 : CSet l2 css2) : ∀ x ∈ css1.map (fun c => c.headD 0), x ∈ css2.map fun c => c.headD 0 := by
  intro x hx
  obtain ⟨c, hc, rfl⟩ := List.mem_map.1 hx
  have hh := head_mem (h1.rings c hc).1
  have hx1 : c.headD 0 ∈ css1.flatten := List.mem_flatten.2 ⟨c, hc, hh⟩
  obtain ⟨c2, hc2, hx2⟩ := List.mem_flatten.1 (flip_mem h h1 h2 _ hx1)
  have hr2 := h2.rings c2 hc2
  have hall := ring_all hr2 (S := fun y => y ∈ c) (fun a b ha hb hsa e => by
    have ha1 := h1.lt a (List.mem_flatten.2 ⟨c, hc, hsa⟩)
    have hb1 := flip_mem h.symm h2 h1 b (List.mem_flatten.2 ⟨c2, hc2, hb⟩)
    have hb2 := h1.lt b hb1
    obtain ⟨c', hc', hbc'⟩ := List.mem_flatten.1 hb1
    obtain ⟨nb, hnb, e2⟩ := ring_next (h1.rings c' hc') hbc'
    rw [(h.2 a ha1.1).2, (h.2 b hb2.1).1] at e
    have hnl := h1.lt nb (List.mem_flatten.2 ⟨c', hc', hnb⟩)
    have hnba : nb = a := hd nb a hnl.1 ha1.1 (by rw [← e2, e])
    rw [hnba] at hnb
    rw [flat_disj h1.nd hc hc' hsa hnb]
    exact hbc') hx2 hh
  refine List.mem_map.2 ⟨c2, hc2, ?_⟩
  have q1 := h1.mins c hc _ (hall _ (head_mem hr2.1))
  have q2 := h2.mins c2 hc2 _ hx2
  omega
/-- As many rings. -/
theorem flip_len {l1 l2 : List M} {css1 css2 : List (List Nat)} (hd1 : Dis l1) (hd2 : Dis l2) (h : Flip l1 l2) (h1 : CSet l1 css1) (h2 : CSet l2 css2) : css1.length = css2.length := by
  have e := nodup_same (heads_nodup h1.nd fun c hc => (h1.rings c hc).1) (heads_nodup h2.nd fun c hc => (h2.rings c hc).1) (fun x => ⟨flip_heads hd1 h h1 h2 x, flip_heads hd2 h.symm h2 h1 x⟩)
  simpa using e
/-- Two ways to tell the rings of a list tell as many. -/
theorem cset_len {l : List M} {css1 css2 : List (List Nat)} (hd : Dis l) (h1 : CSet l css1) (h2 : CSet l css2) : css1.length = css2.length := by
  rw [← counted_len hd h1, counted_len hd h2]

/-! Rings laid one behind the other. -/
structure Laid (l : List M) (css : List (List Nat)) : Prop where
  to : ∀ i, i < l.length → tO l i = (i : Int) + 1
  fr : ∀ i, i < l.length → 1 ≤ fR l i ∧ fR l i ≤ (l.length : Int)
  rings : ∀ c ∈ css, Ring l c
  mins : ∀ c ∈ css, ∀ x ∈ c, c.headD 0 ≤ x
  nd : css.flatten.Nodup
  lt : ∀ x ∈ css.flatten, x < l.length ∧ tO l x ≠ fR l x
  cv : ∀ i, i < l.length → tO l i ≠ fR l i → i ∈ css.flatten
theorem Laid.start : Laid [] [] := ⟨fun i hi => absurd hi (by simp), fun i hi => absurd hi (by simp), (fun c hc => by cases hc), (fun c hc => by cases hc), by simp, (fun x hx => by simp at hx), fun i hi => absurd hi (by simp)⟩
theorem Laid.dis {l : List M} {css : List (List Nat)} (h : Laid l css) : Dis l := fun i j hi hj e => by
  rw [h.to i hi, h.to j hj] at e
  omega
theorem Laid.cset {l : List M} {css : List (List Nat)} (h : Laid l css) : CSet l css := ⟨h.rings, h.mins, h.nd, h.lt, fun C hC j hj => h.cv j (hC j hj).1 (hC j hj).2.1⟩
/-- A ring of k places behind n others. -/
def blkM (n k : Nat) (j : Nat) : List M := (List.range j).map fun x => (((n + 1 + x : Nat) : Int), ((n + 1 + (x + 1) % k : Nat) : Int))
theorem blkM_succ (n k j : Nat) : blkM n k (j + 1) = blkM n k j ++ [(((n + 1 + j : Nat) : Int), ((n + 1 + (j + 1) % k : Nat) : Int))] := by simp [blkM, List.range_succ]
theorem blkM_len (n k j : Nat) : (blkM n k j).length = j := by simp [blkM]
theorem mv_left {l r : List M} {i : Nat} (h : i < l.length) : mv (l ++ r) i = mv l i := by
  unfold mv
  rw [List.getD_eq_getElem?_getD, List.getElem?_append_left h, List.getD_eq_getElem?_getD]
theorem mv_blk {l : List M} {k i : Nat} (h : i < k) : mv (l ++ blkM l.length k k) (l.length + i) = (((l.length + 1 + i : Nat) : Int), ((l.length + 1 + (i + 1) % k : Nat) : Int)) := by
  unfold mv blkM
  rw [List.getD_eq_getElem?_getD, List.getElem?_append_right (by omega), show l.length + i - l.length = i by omega, List.getElem?_map, List.getElem?_range h]
  rfl
theorem ring_ext {l l' : List M} {c : List Nat} (h : Ring l c) (he : ∀ x ∈ c, mv l' x = mv l x) : Ring l' c := by
  obtain ⟨h1, h2, h3, h4⟩ := h
  have hf : ∀ x ∈ c, fR l' x = fR l x := fun x hx => by unfold fR; rw [he x hx]
  have ht : ∀ x ∈ c, tO l' x = tO l x := fun x hx => by unfold tO; rw [he x hx]
  refine ⟨h1, h2, ?_, by rw [hf _ (last_mem h1), ht _ (head_mem h1)]; exact h4⟩
  clear h1 h2 h4 he
  have go : ∀ c : List Nat, (∀ x ∈ c, fR l' x = fR l x) → (∀ x ∈ c, tO l' x = tO l x) → Ch l c → Ch l' c := fun c => by
    induction c with
    | nil => intros; trivial
    | cons x r ih =>
      intro hf ht h
      cases r with
      | nil => trivial
      | cons y r => exact ⟨by rw [hf x (by simp), ht y (by simp)]; exact h.1, ih (fun z hz => hf z (List.mem_cons_of_mem _ hz)) (fun z hz => ht z (List.mem_cons_of_mem _ hz)) h.2⟩
  exact go c hf ht h3
theorem ch_range {l : List M} : ∀ (k s : Nat), (∀ i, i + 1 < k → fR l (s + i) = tO l (s + i + 1)) → Ch l (List.range' s k)
  | 0, _, _ => trivial
  | 1, _, _ => trivial
  | k + 2, s, h => ⟨h 0 (by omega), ch_range (k + 1) (s + 1) fun i hi => by
      have := h (i + 1) (by omega)
      rw [show s + 1 + i = s + (i + 1) by omega]
      exact this⟩
theorem last_range : ∀ (k s : Nat), (List.range' s (k + 1)).getLastD 0 = s + k
  | 0, s => rfl
  | k + 1, s => by
    have h := last_range k (s + 1)
    show (s :: (s + 1) :: List.range' (s + 1 + 1) k).getLastD 0 = _
    rw [last_cons2]
    rw [show (s + 1) :: List.range' (s + 1 + 1) k = List.range' (s + 1) (k + 1) from rfl, h]
    omega
theorem Laid.block {l : List M} {css : List (List Nat)} (h : Laid l css) (k : Nat) : Laid (l ++ blkM l.length k k) (if 2 ≤ k then css ++ [List.range' l.length k] else css) := by
  have hlen : (l ++ blkM l.length k k).length = l.length + k := by rw [List.length_append, blkM_len]
  have hold : ∀ i, i < l.length → tO (l ++ blkM l.length k k) i = tO l i ∧ fR (l ++ blkM l.length k k) i = fR l i := fun i hi => by unfold tO fR; rw [mv_left hi]; exact ⟨rfl, rfl⟩
  have hnew : ∀ i, i < k → tO (l ++ blkM l.length k k) (l.length + i) = ((l.length + 1 + i : Nat) : Int) ∧ fR (l ++ blkM l.length k k) (l.length + i) = ((l.length + 1 + (i + 1) % k : Nat) : Int) := fun i hi => by unfold tO fR; rw [mv_blk hi]; exact ⟨rfl, rfl⟩
  have hsplit : ∀ i, i < l.length + k → i < l.length ∨ ∃ j, j < k ∧ i = l.length + j := fun i hi => by
    rcases Nat.lt_or_ge i l.length with h1 | h1
    · exact Or.inl h1
    · exact Or.inr ⟨i - l.length, by omega, by omega⟩
  have hmod : ∀ i, i < k → (i + 1) % k < k := fun i hi => Nat.mod_lt _ (by omega)
  have hself : ∀ i, i < k → (tO (l ++ blkM l.length k k) (l.length + i) ≠ fR (l ++ blkM l.length k k) (l.length + i) ↔ 2 ≤ k) := fun i hi => by
    rw [(hnew i hi).1, (hnew i hi).2]
    constructor
    · intro hne
      rcases Nat.lt_or_ge k 2 with h1 | h1
      · exfalso
        have hk : k = 1 := by omega
        subst hk
        obtain rfl : i = 0 := by omega
        exact hne rfl
      · exact h1
    · intro hk e
      have e' : i = (i + 1) % k := by omega
      rcases Nat.lt_or_ge (i + 1) k with h1 | h1
      · rw [Nat.mod_eq_of_lt h1] at e'; omega
      · have : i + 1 = k := by omega
        rw [this, Nat.mod_self] at e'
        omega
  have hto : ∀ i, i < (l ++ blkM l.length k k).length → tO (l ++ blkM l.length k k) i = (i : Int) + 1 := fun i hi => by
    rw [hlen] at hi
    rcases hsplit i hi with h1 | ⟨j, hj, rfl⟩
    · rw [(hold i h1).1]; exact h.to i h1
    · rw [(hnew j hj).1]; omega
  have hfr : ∀ i, i < (l ++ blkM l.length k k).length → 1 ≤ fR (l ++ blkM l.length k k) i ∧ fR (l ++ blkM l.length k k) i ≤ ((l ++ blkM l.length k k).length : Int) := fun i hi => by
    rw [hlen] at hi ⊢
    rcases hsplit i hi with h1 | ⟨j, hj, rfl⟩
    · rw [(hold i h1).2]; have := h.fr i h1; omega
    · rw [(hnew j hj).2]; have := hmod j hj; omega
  have hrold : ∀ c ∈ css, Ring (l ++ blkM l.length k k) c := fun c hc => ring_ext (h.rings c hc) (fun x hx => mv_left (h.lt x (List.mem_flatten.2 ⟨c, hc, hx⟩)).1)
  have hltold : ∀ x ∈ css.flatten, x < l.length ∧ x < (l ++ blkM l.length k k).length ∧ tO (l ++ blkM l.length k k) x ≠ fR (l ++ blkM l.length k k) x := fun x hx => by
    obtain ⟨h1, h2⟩ := h.lt x hx
    exact ⟨h1, by rw [hlen]; omega, by rw [(hold x h1).1, (hold x h1).2]; exact h2⟩
  by_cases hk : 2 ≤ k
  · rw [if_pos hk]
    obtain ⟨k', rfl⟩ : ∃ k', k = k' + 1 := ⟨k - 1, by omega⟩
    have hmem : ∀ x, x ∈ List.range' l.length (k' + 1) ↔ l.length ≤ x ∧ x < l.length + (k' + 1) := fun x => by rw [List.mem_range'_1]
    refine ⟨hto, hfr, fun c hc => ?_, fun c hc x hx => ?_, ?_, fun x hx => ?_, fun i hi hne => ?_⟩
    · rcases List.mem_append.1 hc with h1 | h1
      · exact hrold c h1
      · rw [List.mem_singleton.1 h1]
        refine ⟨by simp [List.range'], List.nodup_range' .., ch_range _ _ fun i hi => ?_, ?_⟩
        · rw [(hnew i (by omega)).2, show l.length + i + 1 = l.length + (i + 1) by omega, (hnew (i + 1) hi).1, Nat.mod_eq_of_lt hi]
        · rw [last_range, (hnew k' (by omega)).2, Nat.mod_self]
          show _ = tO _ l.length
          have := (hnew 0 (by omega)).1
          exact this.symm
    · rcases List.mem_append.1 hc with h1 | h1
      · exact h.mins c h1 x hx
      · rw [List.mem_singleton.1 h1] at hx ⊢
        exact ((hmem x).1 hx).1
    · rw [List.flatten_append, List.flatten_cons, List.flatten_nil, List.append_nil]
      exact List.nodup_append.2 ⟨h.nd, List.nodup_range' .., fun a ha b hb e => by have := (h.lt a ha).1; have := ((hmem b).1 hb).1; omega⟩
    · rw [List.flatten_append, List.flatten_cons, List.flatten_nil, List.append_nil] at hx
      rcases List.mem_append.1 hx with h1 | h1
      · exact (hltold x h1).2
      · obtain ⟨q1, q2⟩ := (hmem x).1 h1
        obtain ⟨j, rfl⟩ : ∃ j, x = l.length + j := ⟨x - l.length, by omega⟩
        exact ⟨by rw [hlen]; exact q2, (hself j (by omega)).2 hk⟩
    · rw [List.flatten_append, List.flatten_cons, List.flatten_nil, List.append_nil]
      rw [hlen] at hi
      rcases hsplit i hi with h1 | ⟨j, hj, rfl⟩
      · rw [(hold i h1).1, (hold i h1).2] at hne
        exact List.mem_append_left _ (h.cv i h1 hne)
      · exact List.mem_append_right _ ((hmem _).2 ⟨by omega, by omega⟩)
  · rw [if_neg hk]
    refine ⟨hto, hfr, hrold, h.mins, h.nd, fun x hx => (hltold x hx).2, fun i hi hne => ?_⟩
    rw [hlen] at hi
    rcases hsplit i hi with h1 | ⟨j, hj, rfl⟩
    · rw [(hold i h1).1, (hold i h1).2] at hne
      exact h.cv i h1 hne
    · exact absurd ((hself j hj).1 hne) hk
end Go.Proofs.Ytnbkcdhblmfopaa.Mv
