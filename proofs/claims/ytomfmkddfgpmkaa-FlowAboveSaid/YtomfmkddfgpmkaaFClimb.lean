/-
  What climbing through any graph begins with.
-/
import Derived.Test.YtomfmkddfgpmkaaFInt
import Derived.Test.YtomfmkddfgpmkaaFOne4
namespace Go.Proofs.Ytomfmkddfgpmkaa
open Go Go.RowKit Fl

/-- A climb in memory: four rows of m numbers, and a path elsewhere. -/
structure ClimbG (base bc b0 b1 b2 b3 m : Nat) (fr up hf ls : List Nat) (pv : Value) (W : World) : Prop where
  blk : Blk bc #[.slice (some ⟨b0, 0, none⟩) m m, .slice (some ⟨b1, 0, none⟩) m m, .slice (some ⟨b2, 0, none⟩) m m, .slice (some ⟨b3, 0, none⟩) m m, pv] 69 W
  k0 : Blk b0 (arrN fr) 3 W
  k1 : Blk b1 (arrN up) 3 W
  k2 : Blk b2 (arrN hf) 3 W
  k3 : Blk b3 (arrN ls) 3 W
  lc : base ≤ bc
  l0 : base ≤ b0
  l1 : base ≤ b1
  l2 : base ≤ b2
  l3 : base ≤ b3
  nc : bc ≠ b0 ∧ bc ≠ b1 ∧ bc ≠ b2 ∧ bc ≠ b3
  nb : b0 ≠ b1 ∧ b0 ≠ b2 ∧ b0 ≠ b3 ∧ b1 ≠ b2 ∧ b1 ≠ b3 ∧ b2 ≠ b3
  e0 : fr.length = m
  e1 : up.length = m
  e2 : hf.length = m
  e3 : ls.length = m
section
variable {base bc b0 b1 b2 b3 m : Nat} {fr up hf ls : List Nat} {pv : Value} {W W' : World}
theorem ClimbG.heap (h : ClimbG base bc b0 b1 b2 b3 m fr up hf ls pv W) (e : W'.heap = W.heap) : ClimbG base bc b0 b1 b2 b3 m fr up hf ls pv W' := by
  have e' : ∀ k : Nat, W'.heap[k]? = W.heap[k]? := fun k => by rw [e]
  exact ⟨(e' _).trans h.blk, (e' _).trans h.k0, (e' _).trans h.k1, (e' _).trans h.k2, (e' _).trans h.k3, h.lc, h.l0, h.l1, h.l2, h.l3, h.nc, h.nb, h.e0, h.e1, h.e2, h.e3⟩
theorem ClimbG.set0 (h : ClimbG base bc b0 b1 b2 b3 m fr up hf ls pv W) (j x : Nat) : ClimbG base bc b0 b1 b2 b3 m (fr.set j x) up hf ls pv (W.setCell ⟨b0, j, none⟩ (I (x : Int))) := by
  obtain ⟨⟨n0, n1, n2, n3⟩, n4, n5, n6, n7, n8, n9⟩ := And.intro h.nc h.nb
  exact ⟨h.blk.setOther n0 _ _, by have := h.k0.set j (I (x : Int)); rw [arrN_set] at this; exact this, h.k1.setOther (Ne.symm n4) _ _, h.k2.setOther (Ne.symm n5) _ _, h.k3.setOther (Ne.symm n6) _ _, h.lc, h.l0, h.l1, h.l2, h.l3, h.nc, h.nb, by rw [List.length_set]; exact h.e0, h.e1, h.e2, h.e3⟩
theorem ClimbG.set1 (h : ClimbG base bc b0 b1 b2 b3 m fr up hf ls pv W) (j x : Nat) : ClimbG base bc b0 b1 b2 b3 m fr (up.set j x) hf ls pv (W.setCell ⟨b1, j, none⟩ (I (x : Int))) := by
  obtain ⟨⟨n0, n1, n2, n3⟩, n4, n5, n6, n7, n8, n9⟩ := And.intro h.nc h.nb
  exact ⟨h.blk.setOther n1 _ _, h.k0.setOther n4 _ _, by have := h.k1.set j (I (x : Int)); rw [arrN_set] at this; exact this, h.k2.setOther (Ne.symm n7) _ _, h.k3.setOther (Ne.symm n8) _ _, h.lc, h.l0, h.l1, h.l2, h.l3, h.nc, h.nb, h.e0, by rw [List.length_set]; exact h.e1, h.e2, h.e3⟩
theorem ClimbG.set2 (h : ClimbG base bc b0 b1 b2 b3 m fr up hf ls pv W) (j x : Nat) : ClimbG base bc b0 b1 b2 b3 m fr up (hf.set j x) ls pv (W.setCell ⟨b2, j, none⟩ (I (x : Int))) := by
  obtain ⟨⟨n0, n1, n2, n3⟩, n4, n5, n6, n7, n8, n9⟩ := And.intro h.nc h.nb
  exact ⟨h.blk.setOther n2 _ _, h.k0.setOther n5 _ _, h.k1.setOther n7 _ _, by have := h.k2.set j (I (x : Int)); rw [arrN_set] at this; exact this, h.k3.setOther (Ne.symm n9) _ _, h.lc, h.l0, h.l1, h.l2, h.l3, h.nc, h.nb, h.e0, h.e1, by rw [List.length_set]; exact h.e2, h.e3⟩
theorem ClimbG.set3 (h : ClimbG base bc b0 b1 b2 b3 m fr up hf ls pv W) (j x : Nat) : ClimbG base bc b0 b1 b2 b3 m fr up hf (ls.set j x) pv (W.setCell ⟨b3, j, none⟩ (I (x : Int))) := by
  obtain ⟨⟨n0, n1, n2, n3⟩, n4, n5, n6, n7, n8, n9⟩ := And.intro h.nc h.nb
  exact ⟨h.blk.setOther n3 _ _, h.k0.setOther n6 _ _, h.k1.setOther n8 _ _, h.k2.setOther n9 _ _, by have := h.k3.set j (I (x : Int)); rw [arrN_set] at this; exact this, h.lc, h.l0, h.l1, h.l2, h.l3, h.nc, h.nb, h.e0, h.e1, h.e2, by rw [List.length_set]; exact h.e3⟩
theorem ClimbG.setP (h : ClimbG base bc b0 b1 b2 b3 m fr up hf ls pv W) (u : Value) : ClimbG base bc b0 b1 b2 b3 m fr up hf ls u (W.setCell ⟨bc, 4, none⟩ u) := by
  obtain ⟨n0, n1, n2, n3⟩ := h.nc
  exact ⟨h.blk.set 4 u, h.k0.setOther (Ne.symm n0) _ _, h.k1.setOther (Ne.symm n1) _ _, h.k2.setOther (Ne.symm n2) _ _, h.k3.setOther (Ne.symm n3) _ _, h.lc, h.l0, h.l1, h.l2, h.l3, h.nc, h.nb, h.e0, h.e1, h.e2, h.e3⟩
theorem ClimbG.grown {row : Option Nat} (h : ClimbG base bc b0 b1 b2 b3 m fr up hf ls pv W) (hg : W.grownBy W' row) (h0 : some bc ≠ row) (h1 : some b0 ≠ row) (h2 : some b1 ≠ row) (h3 : some b2 ≠ row) (h4 : some b3 ≠ row) : ClimbG base bc b0 b1 b2 b3 m fr up hf ls pv W' :=
  ⟨h.blk.other hg h0, h.k0.other hg h1, h.k1.other hg h2, h.k2.other hg h3, h.k3.other hg h4, h.lc, h.l0, h.l1, h.l2, h.l3, h.nc, h.nb, h.e0, h.e1, h.e2, h.e3⟩
end

def zerosN (m : Nat) : Obj := .cells (arrZ (List.replicate m 0)) 3
def fourV (w : World) (m : Nat) (v0 v1 v2 v3 : Value) : World :=
  (((((w.alloc (zerosN m)).alloc (zerosN m)).alloc (zerosN m)).alloc (zerosN m)).alloc (.cells #[v0, v1, v2, v3, .slice none 0 0] 69)).drew
theorem zerosN_blk (w : World) (b m : Nat) (h : w.heap[b]? = some (zerosN m)) : Blk b (arrN (List.replicate m 0)) 3 w := by
  rw [show arrN (List.replicate m 0) = arrZ (List.replicate m 0) by apply Array.toList_inj.1; simp]
  exact h
theorem fourG (w : World) (m bc b0 b1 b2 b3 : Nat) (hc : bc = w.heap.size + 4) (h0 : w.heap.size ≤ b0 ∧ b0 < w.heap.size + 4) (h1 : w.heap.size ≤ b1 ∧ b1 < w.heap.size + 4) (h2 : w.heap.size ≤ b2 ∧ b2 < w.heap.size + 4) (h3 : w.heap.size ≤ b3 ∧ b3 < w.heap.size + 4)
    (n : b0 ≠ b1 ∧ b0 ≠ b2 ∧ b0 ≠ b3 ∧ b1 ≠ b2 ∧ b1 ≠ b3 ∧ b2 ≠ b3) :
    ClimbG w.heap.size bc b0 b1 b2 b3 m (List.replicate m 0) (List.replicate m 0) (List.replicate m 0) (List.replicate m 0) (.slice none 0 0) (fourV w m (.slice (some ⟨b0, 0, none⟩) m m) (.slice (some ⟨b1, 0, none⟩) m m) (.slice (some ⟨b2, 0, none⟩) m m) (.slice (some ⟨b3, 0, none⟩) m m)) ∧
    Below w.heap.size w (fourV w m (.slice (some ⟨b0, 0, none⟩) m m) (.slice (some ⟨b1, 0, none⟩) m m) (.slice (some ⟨b2, 0, none⟩) m m) (.slice (some ⟨b3, 0, none⟩) m m)) := by
  have key : ∀ b, w.heap.size ≤ b ∧ b < w.heap.size + 4 → ∀ o, ((((((w.alloc (zerosN m)).alloc (zerosN m)).alloc (zerosN m)).alloc (zerosN m)).alloc o).drew).heap[b]? = some (zerosN m) := by
    intro b hb o
    obtain ⟨i, rfl⟩ : ∃ i, b = w.heap.size + i := ⟨b - w.heap.size, by omega⟩
    have hi : i < 4 := by omega
    refine five_get w _ _ _ _ _ i _ ?_
    match i, hi with
    | 0, _ => rfl
    | 1, _ => rfl
    | 2, _ => rfl
    | 3, _ => rfl
    | n + 4, h => exact absurd h (by omega)
  subst hc
  refine ⟨⟨five_get w _ _ _ _ _ 4 _ rfl, zerosN_blk _ _ _ (key b0 h0 _), zerosN_blk _ _ _ (key b1 h1 _), zerosN_blk _ _ _ (key b2 h2 _), zerosN_blk _ _ _ (key b3 h3 _), by omega, h0.1, h1.1, h2.1, h3.1, by omega, n, by simp, by simp, by simp, by simp⟩, ?_⟩
  exact ((((((Below.refl _ _).alloc (Nat.le_refl _) _).alloc (by simp) _).alloc (by simp; omega) _).alloc (by simp; omega) _).alloc (by simp; omega) _).drew

namespace Fl
/-- From which number each number's node was come to. -/
def fromF (ent : List Nat) (frm : List Int) (nums : List Nat) (i : Nat) : Nat := if i = 0 then 0 else nums.getD (frm.getD (ent.getD i 0) 0).toNat 0
def fromL (ent : List Nat) (frm : List Int) (nums : List Nat) (j : Nat) : List Nat := (List.range ent.length).map (fun i => if i < j then fromF ent frm nums i else 0)
def idL (m j : Nat) : List Nat := (List.range m).map (fun i => if i < j then i else 0)
theorem map_if_set {m j : Nat} {f : Nat → Nat} (hj : j < m) : ((List.range m).map (fun i => if i < j then f i else 0)).set j (f j) = (List.range m).map (fun i => if i < j + 1 then f i else 0) := by
  apply List.ext_getElem
  · simp
  · intro i h1 h2
    rw [List.getElem_set]
    simp
    by_cases e : j = i
    · subst e; rw [if_pos rfl, if_pos (by omega)]
    · rw [if_neg e]
      by_cases e2 : i < j
      · rw [if_pos e2, if_pos (by omega)]
      · rw [if_neg e2, if_neg (by omega)]
theorem map_if_zero (m : Nat) (f : Nat → Nat) : (List.range m).map (fun i => if i < 0 then f i else 0) = List.replicate m 0 := by
  apply List.ext_getElem
  · simp
  · intro i h1 h2; simp
theorem map_if_all (m : Nat) (f : Nat → Nat) : (List.range m).map (fun i => if i < m then f i else 0) = (List.range m).map f := by
  apply List.map_congr_left
  intro i hi
  rw [if_pos (List.mem_range.1 hi)]
end Fl
end Go.Proofs.Ytomfmkddfgpmkaa
