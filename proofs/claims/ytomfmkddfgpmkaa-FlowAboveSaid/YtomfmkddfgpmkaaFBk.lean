/-
  The nodes of a loop, plainly: what is on the stack, what has been met; sets of numbers as maps; what has been collected of a map.
-/
import Derived.Test.YtomfmkddfgpmkaaFWlk
import Derived.Maps.OwnSet
import Derived.Maps.RangeWalk
import Derived.Sort.OwnSortedInts
namespace Go.Proofs.Ytomfmkddfgpmkaa.Fl
open Go Go.Maps Go.RowKit

/-- The way back: a stack (its top is last), and what has been met. -/
def bkF (F : List (List Nat)) : Nat → List Nat → List Nat → Option (List Nat)
  | 0, _, _ => none
  | k + 1, st, sn =>
    if st = [] then some sn
    else if st.getD (st.length - 1) 0 ∈ sn then bkF F k (st.take (st.length - 1)) sn
    else bkF F k (st.take (st.length - 1) ++ row F (st.getD (st.length - 1) 0)) (st.getD (st.length - 1) 0 :: sn)

theorem bk_end (F : List (List Nat)) (k : Nat) (sn : List Nat) : bkF F (k + 1) [] sn = some sn := by
  show (if ([] : List Nat) = [] then _ else _) = _
  rw [if_pos rfl]
theorem top_is (r : List Nat) (n : Nat) : (r ++ [n]).getD ((r ++ [n]).length - 1) 0 = n := by
  rw [List.length_append, List.length_singleton, Nat.add_sub_cancel, List.getD_eq_getElem?_getD, List.getElem?_append_right (Nat.le_refl _)]
  simp
theorem pop_is (r : List Nat) (n : Nat) : (r ++ [n]).take ((r ++ [n]).length - 1) = r := by
  rw [List.length_append, List.length_singleton, Nat.add_sub_cancel, List.take_left]
theorem bk_old {F : List (List Nat)} {k : Nat} {r sn : List Nat} {n : Nat} (h : n ∈ sn) : bkF F (k + 1) (r ++ [n]) sn = bkF F k r sn := by
  show (if r ++ [n] = [] then _ else _) = _
  rw [if_neg (by simp), top_is, pop_is, if_pos h]
theorem bk_new {F : List (List Nat)} {k : Nat} {r sn : List Nat} {n : Nat} (h : n ∉ sn) : bkF F (k + 1) (r ++ [n]) sn = bkF F k (r ++ row F n) (n :: sn) := by
  show (if r ++ [n] = [] then _ else _) = _
  rw [if_neg (by simp), top_is, pop_is, if_neg h]

theorem bk_ne (F : List (List Nat)) : ∀ (k : Nat) (st sn : List Nat), sn ≠ [] → bkF F k st sn ≠ some []
  | 0, _, _, _ => by simp [bkF]
  | k + 1, st, sn, h => by
    show (if st = [] then some sn else if _ then _ else _) ≠ _
    split
    · intro e
      exact h (Option.some.inj e)
    · split
      · exact bk_ne F k _ _ h
      · exact bk_ne F k _ _ (by simp)
/-- What is left to do. -/
def muB (N R : Nat) (st sn : List Nat) : Nat := st.length + (N - sn.length) * R
theorem nodup_lt {l : List Nat} {N : Nat} (h : l.Nodup) (hb : ∀ x ∈ l, x < N) : l.length ≤ N := by
  have h1 := h.length_le_of_subset (l₂ := List.range N) (fun x hx => List.mem_range.2 (hb x hx))
  simpa using h1
theorem mu_new {N R : Nat} {r rw' sn : List Nat} {n : Nat} (hn : (n :: sn).Nodup) (hb : ∀ x ∈ n :: sn, x < N) (hR : rw'.length ≤ R) : muB N R (r ++ rw') (n :: sn) < muB N R (r ++ [n]) sn := by
  have h1 : sn.length + 1 ≤ N := nodup_lt hn hb
  unfold muB
  rw [List.length_append, List.length_append, List.length_singleton, List.length_cons]
  obtain ⟨q, hq⟩ : ∃ q, N = sn.length + 1 + q := ⟨N - (sn.length + 1), by omega⟩
  have e1 : N - (sn.length + 1) = q := by omega
  have e2 : N - sn.length = q + 1 := by omega
  rw [e1, e2, Nat.add_mul, Nat.one_mul]
  omega
theorem mu_old {N R : Nat} {r sn : List Nat} {n : Nat} : muB N R r sn < muB N R (r ++ [n]) sn := by
  unfold muB
  rw [List.length_append, List.length_singleton]
  omega

/-- A map that is a set of numbers. -/
def SetIs (D : DataW Unit) (sn : List Nat) : Prop := IsMap D ∧ ∀ v : Int, Maps.has D (.int .i64 v) = true ↔ ∃ x ∈ sn, (x : Int) = v
theorem SetIs.none : SetIs (.map []) [] := ⟨⟨[], rfl⟩, fun v => by simp [Maps.has]⟩
theorem SetIs.put {D : DataW Unit} {sn : List Nat} (h : SetIs D sn) (n : Nat) : SetIs (D.put (.int .i64 (n : Int)) (.agg [])) (n :: sn) := by
  refine ⟨h.1.put _ _, fun v => ?_⟩
  by_cases hv : v = (n : Int)
  · subst hv
    rw [Maps.has_put_same h.1 (by simp [WideAt.IsKeyLit]) _]
    simp
  · have hne : (Lit.int .i64 v) ≠ (Lit.int .i64 (n : Int)) := fun e => hv (by cases e; rfl)
    rw [Maps.has_put_other hne _, h.2 v]
    constructor
    · rintro ⟨x, hx, e⟩
      exact ⟨x, List.mem_cons_of_mem _ hx, e⟩
    · rintro ⟨x, hx, e⟩
      rcases List.mem_cons.1 hx with h1 | h1
      · exact absurd (by rw [← e, h1]) hv
      · exact ⟨x, h1, e⟩
theorem SetIs.has {D : DataW Unit} {sn : List Nat} (h : SetIs D sn) (n : Nat) : Maps.has D (.int .i64 (n : Int)) = decide (n ∈ sn) := by
  have h1 := h.2 (n : Int)
  by_cases hn : n ∈ sn
  · rw [h1.2 ⟨n, hn, rfl⟩]
    simp [hn]
  · have h2 : Maps.has D (.int .i64 (n : Int)) = false := by
      cases hc : Maps.has D (.int .i64 (n : Int)) with
      | false => rfl
      | true =>
        obtain ⟨x, hx, e⟩ := h1.1 hc
        exact absurd (by rw [← show x = n by omega]; exact hx) hn
    rw [h2]
    simp [hn]

/-- What has been collected, of what is a set. -/
def CollN (D : DataW Unit) (left : Lit → Bool) (ks : List Nat) : Prop := ks.Nodup ∧ ∀ v : Int, (∃ x ∈ ks, (x : Int) = v) ↔ (Maps.has D (.int .i64 v) = true ∧ left (.int .i64 v) = false)
theorem CollN.start (D : DataW Unit) : CollN D (Maps.has D) [] := ⟨List.nodup_nil, fun v => by cases Maps.has D (.int .i64 v) <;> simp⟩
theorem CollN.step {D : DataW Unit} {left : Lit → Bool} {ks : List Nat} (h : CollN D left ks) {n : Nat} (hl : left (.int .i64 (n : Int)) = true) (hd : Maps.has D (.int .i64 (n : Int)) = true) : CollN D (fun z => left z && !z.sameKey (.int .i64 (n : Int))) (ks ++ [n]) := by
  have hnew : n ∉ ks := fun hx => by have := ((h.2 (n : Int)).1 ⟨n, hx, rfl⟩).2; rw [hl] at this; cases this
  refine ⟨List.nodup_append.2 ⟨h.1, by simp, fun a ha b hb => by simp at hb; subst hb; exact fun e => hnew (e ▸ ha)⟩, fun v => ?_⟩
  by_cases hv : v = (n : Int)
  · subst hv
    simp [hd, Lit.sameKey]
  · have h1 := h.2 v
    have e1 : (Lit.int .i64 v).sameKey (.int .i64 (n : Int)) = false := by simp [Lit.sameKey, hv]
    simp only [e1, Bool.not_false, Bool.and_true]
    rw [← h1]
    constructor
    · rintro ⟨x, hx, e⟩
      rcases List.mem_append.1 hx with h2 | h2
      · exact ⟨x, h2, e⟩
      · simp at h2
        exact absurd (by rw [← e, h2]) hv
    · rintro ⟨x, hx, e⟩
      exact ⟨x, List.mem_append_left _ hx, e⟩
theorem CollN.perm {D : DataW Unit} {left : Lit → Bool} {ks sn : List Nat} (h : CollN D left ks) (hs : SetIs D sn) (hn : sn.Nodup) (hl : ∀ kl, left kl = false) : ks.Perm sn := by
  refine (List.perm_ext_iff_of_nodup h.1 hn).2 fun x => ?_
  have h1 := h.2 (x : Int)
  have h2 := hs.2 (x : Int)
  rw [hl] at h1
  constructor
  · intro hx
    obtain ⟨y, hy, e⟩ := h2.1 (h1.1 ⟨x, hx, rfl⟩).1
    rw [← show y = x by omega]
    exact hy
  · intro hx
    obtain ⟨y, hy, e⟩ := h1.2 ⟨h2.2 ⟨x, hx, rfl⟩, rfl⟩
    rw [← show y = x by omega]
    exact hy

/-- Rising. -/
def sortN (l : List Nat) : List Nat := l.mergeSort (fun x y => decide (x ≤ y))
theorem sortN_perm (l : List Nat) : (sortN l).Perm l := List.mergeSort_perm _ _
theorem sortN_le (l : List Nat) : (sortN l).Pairwise (fun a b => a ≤ b) := by
  have h := List.pairwise_mergeSort (le := fun x y : Nat => decide (x ≤ y)) (fun a b c h1 h2 => by simp at *; omega) (fun a b => by simp; omega) l
  exact h.imp (fun h => by simpa using h)
theorem sort_is {ks sn : List Nat} (h : ks.Perm sn) : ((ks.map fun n : Nat => (n : Int)).mergeSort fun x y => decide (x ≤ y)) = (sortN sn).map fun n : Nat => (n : Int) := by
  have hp1 : ((ks.map fun n : Nat => (n : Int)).mergeSort fun x y => decide (x ≤ y)).Pairwise (fun a b => a ≤ b) :=
    (List.pairwise_mergeSort (le := fun x y : Int => decide (x ≤ y)) (fun a b c h1 h2 => by simp at *; omega) (fun a b => by simp; omega) _).imp (fun h => by simpa using h)
  have hp2 : ((sortN sn).map fun n : Nat => (n : Int)).Pairwise (fun a b => a ≤ b) := List.pairwise_map.2 ((sortN_le sn).imp (fun h => by omega))
  refine List.Perm.eq_of_pairwise (le := fun a b : Int => a ≤ b) (fun a b _ _ h1 h2 => by omega) hp1 hp2 ?_
  exact (List.mergeSort_perm _ _).trans ((h.map _).trans (((sortN_perm sn).symm).map _))
end Go.Proofs.Ytomfmkddfgpmkaa.Fl
