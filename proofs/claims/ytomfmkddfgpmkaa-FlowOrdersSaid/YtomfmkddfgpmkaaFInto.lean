/-
  Who goes on to whom, of any graph.
-/
import Derived.Test.YtomfmkddfgpmkaaFFault
namespace Go.Proofs.Ytomfmkddfgpmkaa
open Go Go.RowKit Fl

namespace Fl
/-- What stands at t when the nodes ahead of p are done, and j ways of p. -/
def rowSt (G : List (List Nat)) (p j t : Nat) : List Nat := (List.range p).filter (fun q => (row G q).contains t) ++ (if ((row G p).take j).contains t then [p] else [])
def intoF (G : List (List Nat)) : List (List Nat) := (List.range G.length).map (fun t => rowSt G G.length 0 t)
theorem rowSt_zero (G : List (List Nat)) (t : Nat) : rowSt G 0 0 t = [] := by simp [rowSt]
theorem rowSt_next (G : List (List Nat)) (p t : Nat) : rowSt G (p + 1) 0 t = rowSt G p (row G p).length t := by
  unfold rowSt
  rw [List.range_succ, List.filter_append, List.take_length]
  by_cases h : t ∈ row G p <;> simp [h]
theorem rowSt_len (G : List (List Nat)) (p j t : Nat) : (rowSt G p j t).length ≤ p + 1 := by
  unfold rowSt
  rw [List.length_append]
  have h1 := List.length_filter_le (fun q => (row G q).contains t) (List.range p)
  rw [List.length_range] at h1
  split
  · rw [List.length_singleton]; omega
  · rw [List.length_nil]; omega
theorem take_succ_has (l : List Nat) (j t : Nat) (h : j < l.length) : (l.take (j + 1)).contains t = ((l.take j).contains t || t == l[j]) := by
  rw [List.take_succ_eq_append_getElem h]
  rw [List.contains_append, Bool.eq_iff_iff]
  simp
theorem rowSt_other {G : List (List Nat)} {p j t : Nat} (h : j < (row G p).length) (ht : t ≠ (row G p)[j]) : rowSt G p (j + 1) t = rowSt G p j t := by
  unfold rowSt
  rw [take_succ_has _ _ _ h, show (t == (row G p)[j]) = false by simpa using ht, Bool.or_false]
theorem rowSt_had {G : List (List Nat)} {p j t : Nat} (h : j < (row G p).length) (ht : t = (row G p)[j]) (hc : ((row G p).take j).contains t = true) : rowSt G p (j + 1) t = rowSt G p j t := by
  unfold rowSt
  rw [take_succ_has _ _ _ h, hc, Bool.true_or]
theorem rowSt_new {G : List (List Nat)} {p j t : Nat} (h : j < (row G p).length) (ht : t = (row G p)[j]) (hc : ((row G p).take j).contains t = false) : rowSt G p (j + 1) t = rowSt G p j t ++ [p] := by
  unfold rowSt
  rw [take_succ_has _ _ _ h, hc, Bool.false_or, show (t == (row G p)[j]) = true by simpa using ht]
  simp
/-- The last one is p just if p stands there. -/
theorem rowSt_last {G : List (List Nat)} {p j t : Nat} (hne : rowSt G p j t ≠ []) : (((rowSt G p j t).getD ((rowSt G p j t).length - 1) 0) = p ↔ ((row G p).take j).contains t = true) := by
  by_cases hc : ((row G p).take j).contains t = true
  · simp only [hc, iff_true]
    unfold rowSt
    rw [if_pos hc, List.getD_eq_getElem?_getD, List.getElem?_append_right (by simp)]
    simp
  · have hf : ((row G p).take j).contains t = false := by simpa using hc
    have e : rowSt G p j t = (List.range p).filter (fun q => (row G q).contains t) := by unfold rowSt; rw [if_neg hc, List.append_nil]
    rw [e] at hne ⊢
    have hlen : 0 < ((List.range p).filter (fun q => (row G q).contains t)).length := List.length_pos_iff.2 hne
    rw [getD_of _ _ _ (by omega)]
    have hm := List.getElem_mem (l := (List.range p).filter (fun q => (row G q).contains t)) (n := ((List.range p).filter (fun q => (row G q).contains t)).length - 1) (by omega)
    have hlt := Nat.ne_of_lt (List.mem_range.1 (List.mem_filter.1 hm).1)
    exact ⟨fun h => absurd h hlt, fun h => absurd h hc⟩
end Fl

/-- Rows of rows, being written. -/
def IntoW (base bl n : Nat) (T : Nat → List Nat) (W : World) : Prop := base ≤ bl ∧ ∃ vs : List Value, vs.length = n ∧ Blk bl vs.toArray 25 W ∧ (∀ t (h : t < vs.length), Nums W base vs[t] (T t)) ∧ (∀ t (h : t < vs.length), some bl ≠ vs[t].ownBlock) ∧
  (∀ t u (ht : t < vs.length) (hu : u < vs.length), t ≠ u → vs[t].ownBlock = none ∨ vs[t].ownBlock ≠ vs[u].ownBlock)

theorem IntoW.ext {base bl n : Nat} {T T' : Nat → List Nat} {W : World} (h : IntoW base bl n T W) (e : ∀ t, t < n → T' t = T t) : IntoW base bl n T' W := by
  obtain ⟨h0, vs, h1, h2, h3, h4, h5⟩ := h
  exact ⟨h0, vs, h1, h2, fun t ht => by rw [e t (by omega)]; exact h3 t ht, h4, h5⟩
theorem IntoW.heap {base bl n : Nat} {T : Nat → List Nat} {W W' : World} (h : IntoW base bl n T W) (e : W'.heap = W.heap) : IntoW base bl n T W' := by
  obtain ⟨h0, vs, h1, h2, h3, h4, h5⟩ := h
  exact ⟨h0, vs, h1, by unfold Blk; rw [e]; exact h2, fun t ht => own_heap (h3 t ht) e, h4, h5⟩

theorem IntoW.app {base bl n : Nat} {T : Nat → List Nat} {W w4 : World} {o : Obj} {u : Value} {vs : List Value} {t0 p : Nat} (h0 : base ≤ bl) (h1 : vs.length = n) (h2 : Blk bl vs.toArray 25 W) (h3 : ∀ t (h : t < vs.length), Nums W base vs[t] (T t)) (h4 : ∀ t (h : t < vs.length), some bl ≠ vs[t].ownBlock)
    (h5 : ∀ t u (ht : t < vs.length) (hu : u < vs.length), t ≠ u → vs[t].ownBlock = none ∨ vs[t].ownBlock ≠ vs[u].ownBlock) (ht0 : t0 < vs.length) (hg : (W.alloc o).grownBy w4 vs[t0].ownBlock) (ho : Nums w4 base u (T t0 ++ [p])) (hat : u.ownBlock = vs[t0].ownBlock ∨ u.ownBlock = some (W.alloc o).heap.size) :
    IntoW base bl n (fun t => if t = t0 then T t ++ [p] else T t) (w4.setCell ⟨bl, t0, none⟩ u) := by
  have hat' : u.ownBlock = vs[t0].ownBlock ∨ ∃ g, u.ownBlock = some g ∧ W.heap.size ≤ g := by
    rcases hat with e | e
    · exact Or.inl e
    · exact Or.inr ⟨_, e, by simp⟩
  have qb : some bl ≠ u.ownBlock := own_apart (h3 t0 ht0) (h4 t0 ht0) h2.lt (Nat.le_refl _) hat'
  have hap : ∀ t (h : t < vs.length), t ≠ t0 → vs[t].ownBlock = none ∨ vs[t].ownBlock ≠ u.ownBlock := by
    intro t ht hne
    cases hv : vs[t].ownBlock with
    | none => exact Or.inl rfl
    | some g0 =>
      right
      have hl := ((h3 t ht).lt g0 hv).2
      have hn2 : some g0 ≠ vs[t0].ownBlock := by
        rcases h5 t t0 ht ht0 hne with e | e
        · rw [hv] at e; cases e
        · rw [hv] at e; exact e
      exact own_apart (h3 t0 ht0) hn2 hl (Nat.le_refl _) hat'
  refine ⟨h0, vs.set t0 u, by simpa using h1, ?_, fun t ht => ?_, fun t ht => ?_, fun t v ht hv hne => ?_⟩
  · have h := ((h2.alloc o).other hg (h4 t0 ht0)).set t0 u
    have e : vs.toArray.setIfInBounds t0 u = (vs.set t0 u).toArray := by apply Array.toList_inj.1; simp
    rw [e] at h
    exact h
  · have ht' : t < vs.length := by simpa using ht
    rw [List.getElem_set]
    show Nums _ _ _ (if t = t0 then T t ++ [p] else T t)
    by_cases e : t = t0
    · subst e
      rw [if_pos rfl, if_pos rfl]
      exact own_set ho qb
    · rw [if_neg (fun e' => e e'.symm), if_neg e]
      refine own_set (((h3 t ht').alloc o).kept hg ?_) (h4 t ht')
      exact h5 t t0 ht' ht0 e
  · have ht' : t < vs.length := by simpa using ht
    rw [List.getElem_set]
    split
    · exact qb
    · exact h4 t ht'
  · have ht' : t < vs.length := by simpa using ht
    have hv' : v < vs.length := by simpa using hv
    rw [List.getElem_set, List.getElem_set]
    by_cases e1 : t0 = t
    · rw [if_pos e1, if_neg (by omega)]
      rcases hap v hv' (by omega) with e | e
      · right; rw [e]
        intro e2
        have := ho.lt
        cases hu : u.ownBlock with
        | none =>
          rcases own_slice ho with ⟨_, h⟩ | ⟨g, c, h⟩
          · simp at h
          · rw [h] at hu; cases hu
        | some g => rw [hu] at e2; cases e2
      · right; exact Ne.symm e
    · rw [if_neg e1]
      by_cases e2 : t0 = v
      · rw [if_pos e2]; exact hap t ht' (by omega)
      · rw [if_neg e2]; exact h5 t v ht' hv' hne
end Go.Proofs.Ytomfmkddfgpmkaa
