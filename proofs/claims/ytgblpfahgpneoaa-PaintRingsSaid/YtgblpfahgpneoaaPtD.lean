/-
  Each node's neighbours, told plainly.
-/
import Derived.Test.YtgblpfahgpneoaaPtA
import Derived.Test.YtgblpfahgpneoaaPtP
namespace Go.Proofs.Ytgblpfahgpneoaa
open Go Go.RowKit

/-- Whom a pair makes a node's neighbour. -/
def nb (p : P2) (t : Nat) : List Nat := if p.1 = p.2 then [] else if p.1 = (t : Int) then [p.2.toNat] else if p.2 = (t : Int) then [p.1.toNat] else []
def nbs (l : List P2) (t : Nat) : List Nat := l.flatMap fun p => nb p t
theorem nbs_app (l : List P2) (p : P2) (t : Nat) : nbs (l ++ [p]) t = nbs l t ++ nb p t := by simp [nbs]
theorem nb_len (p : P2) (t : Nat) : (nb p t).length ≤ 1 := by
  unfold nb
  repeat' split
  all_goals simp
theorem nbs_len (t : Nat) : ∀ l : List P2, (nbs l t).length ≤ l.length
  | [] => Nat.le_refl _
  | p :: l => by
    have h1 := nbs_len t l
    have h2 := nb_len p t
    have h3 : nbs (p :: l) t = nb p t ++ nbs l t := by simp [nbs]
    rw [h3, List.length_append, List.length_cons]
    omega
theorem mem_nb {n v x : Nat} {p : P2} (hp : NodeP n p) : x ∈ nb p v ↔ p.1 ≠ p.2 ∧ (p.1 = (v : Int) ∧ p.2 = (x : Int) ∨ p.2 = (v : Int) ∧ p.1 = (x : Int)) := by
  obtain ⟨h1, h2, h3, h4⟩ := hp
  unfold nb
  by_cases e : p.1 = p.2
  · rw [if_pos e]; simp [e]
  · rw [if_neg e]
    by_cases e1 : p.1 = (v : Int)
    · rw [if_pos e1, List.mem_singleton]
      constructor
      · intro h; exact ⟨e, Or.inl ⟨e1, by omega⟩⟩
      · rintro ⟨_, h | h⟩ <;> omega
    · rw [if_neg e1]
      by_cases e2 : p.2 = (v : Int)
      · rw [if_pos e2, List.mem_singleton]
        constructor
        · intro h; exact ⟨e, Or.inr ⟨e2, by omega⟩⟩
        · rintro ⟨_, h | h⟩ <;> omega
      · rw [if_neg e2]
        constructor
        · intro h; cases h
        · rintro ⟨_, h | h⟩ <;> omega
/-- Two nodes are neighbours. -/
def Nei (l : List P2) (v x : Nat) : Prop := ∃ p ∈ l, p.1 ≠ p.2 ∧ (p.1 = (v : Int) ∧ p.2 = (x : Int) ∨ p.2 = (v : Int) ∧ p.1 = (x : Int))
theorem mem_nbs {n v x : Nat} {l : List P2} (h : AreN n l) : x ∈ nbs l v ↔ Nei l v x := by
  unfold nbs Nei
  rw [List.mem_flatMap]
  exact ⟨fun ⟨p, hp, hx⟩ => ⟨p, hp, (mem_nb (h p hp)).1 hx⟩, fun ⟨p, hp, hx⟩ => ⟨p, hp, (mem_nb (h p hp)).2 hx⟩⟩
theorem Nei.symm {l : List P2} {v x : Nat} (h : Nei l v x) : Nei l x v := by
  obtain ⟨p, hp, h1, h2⟩ := h
  exact ⟨p, hp, h1, h2.elim (fun h => Or.inr ⟨h.2, h.1⟩) (fun h => Or.inl ⟨h.2, h.1⟩)⟩
theorem Nei.ne {l : List P2} {v x : Nat} (h : Nei l v x) : v ≠ x := by
  obtain ⟨p, hp, h1, h2⟩ := h
  intro e
  subst e
  rcases h2 with h | h <;> exact h1 (by rw [h.1, h.2])
theorem Nei.lt {n : Nat} {l : List P2} {v x : Nat} (hl : AreN n l) (h : Nei l v x) : x < n := by
  obtain ⟨p, hp, h1, h2⟩ := h
  obtain ⟨q1, q2, q3, q4⟩ := hl p hp
  rcases h2 with h | h <;> omega

/-- Each once, the first time. -/
def dd (l : List Nat) : List Nat := l.foldl (fun a x => if x ∈ a then a else a ++ [x]) []
theorem dd_nil : dd [] = [] := rfl
theorem dd_app (l : List Nat) (x : Nat) : dd (l ++ [x]) = if x ∈ dd l then dd l else dd l ++ [x] := by
  unfold dd
  rw [List.foldl_append]
  rfl
theorem rev_ind {α : Type} {P : List α → Prop} (h0 : P []) (h1 : ∀ l x, P l → P (l ++ [x])) (l : List α) : P l := by
  have h : ∀ l : List α, P l.reverse := fun l => by
    induction l with
    | nil => exact h0
    | cons x l ih => rw [List.reverse_cons]; exact h1 _ _ ih
  have := h l.reverse
  rwa [List.reverse_reverse] at this
theorem mem_dd {l : List Nat} {x : Nat} : x ∈ dd l ↔ x ∈ l := by
  induction l using rev_ind generalizing x with
  | h0 => exact Iff.rfl
  | h1 l y ih =>
    rw [dd_app]
    by_cases h : y ∈ dd l
    · rw [if_pos h, ih, List.mem_append, List.mem_singleton]
      refine ⟨Or.inl, fun h2 => ?_⟩
      rcases h2 with h2 | h2
      · exact h2
      · rw [h2]; exact ih.1 h
    · rw [if_neg h, List.mem_append, List.mem_append, ih]
theorem nodup_snoc {l : List Nat} {x : Nat} (h : l.Nodup) (hx : x ∉ l) : (l ++ [x]).Nodup :=
  List.nodup_append.2 ⟨h, by simp, fun a ha b hb e => by rw [List.mem_singleton.1 hb] at e; rw [e] at ha; exact hx ha⟩
theorem dd_nodup (l : List Nat) : (dd l).Nodup := by
  induction l using rev_ind with
  | h0 => exact List.nodup_nil
  | h1 l y ih =>
    rw [dd_app]
    by_cases h : y ∈ dd l
    · rw [if_pos h]; exact ih
    · rw [if_neg h]; exact nodup_snoc ih h
theorem dd_len (l : List Nat) : (dd l).length ≤ l.length := by
  induction l using rev_ind with
  | h0 => exact Nat.le_refl _
  | h1 l y ih =>
    rw [dd_app, List.length_append, List.length_singleton]
    by_cases h : y ∈ dd l
    · rw [if_pos h]; omega
    · rw [if_neg h, List.length_append, List.length_singleton]; omega
theorem dd_take {l : List Nat} {j : Nat} (hj : j < l.length) : dd (l.take (j + 1)) = if l.getD j 0 ∈ dd (l.take j) then dd (l.take j) else dd (l.take j) ++ [l.getD j 0] := by
  rw [List.take_succ_eq_append_getElem hj, dd_app, List.getD_eq_getElem?_getD, List.getElem?_eq_getElem hj]
  rfl
/-- The neighbours make a graph. -/
theorem gr_of {n : Nat} {l : List P2} (h : AreN n l) : Po.Gr n fun t => dd (nbs l t) := by
  refine ⟨fun v _ x hx => ?_, fun v _ => dd_nodup _, fun v _ hx => ?_, fun v _ x hx => ?_⟩
  · exact ((mem_nbs h).1 (mem_dd.1 hx)).lt h
  · exact ((mem_nbs h).1 (mem_dd.1 hx)).ne rfl
  · exact mem_dd.2 ((mem_nbs h).2 ((mem_nbs h).1 (mem_dd.1 hx)).symm)

/-- All but some old blocks stay. -/
structure FrS (S : Nat → Prop) (w W : World) : Prop where
  os : W.os = w.os
  tape : W.tape = w.tape
  output : W.output = w.output
  size : w.heap.size ≤ W.heap.size
  block : ∀ k, k < w.heap.size → ¬ S k → W.heap[k]? = w.heap[k]?
section
variable {S S' : Nat → Prop} {w w1 W W' : World}
theorem FrS.refl (S : Nat → Prop) (w : World) : FrS S w w := ⟨rfl, rfl, rfl, Nat.le_refl _, fun _ _ _ => rfl⟩
theorem FrS.trans (h : FrS S w W) (h' : FrS S W W') : FrS S w W' := ⟨h'.os.trans h.os, h'.tape.trans h.tape, h'.output.trans h.output, Nat.le_trans h.size h'.size, fun k hk hs => (h'.block k (Nat.lt_of_lt_of_le hk h.size) hs).trans (h.block k hk hs)⟩
theorem FrS.mono (h : FrS S w W) (hs : ∀ k, S k → S' k) : FrS S' w W := ⟨h.os, h.tape, h.output, h.size, fun k hk hn => h.block k hk fun e => hn (hs k e)⟩
theorem FrS.drewN (h : FrS S w W) (q : Nat) : FrS S w (W.drewN q) := ⟨h.os, h.tape, h.output, h.size, h.block⟩
theorem FrS.set (h : FrS S w W) (b j : Nat) (u : Value) (hb : S b) : FrS S w (W.setCell ⟨b, j, none⟩ u) :=
  ⟨h.os, h.tape, h.output, by simpa using h.size, fun k hk hn => (Below.heap_setCell _ _ _ _ (show k ≠ b from fun e => hn (by rw [e]; exact hb))).trans (h.block k hk hn)⟩
theorem FrS.below (h : FrS S w W) {B : Nat} (hs : ∀ k, S k → B ≤ k) (hB : B ≤ w.heap.size) {w0 : World} (h0 : Below B w0 w) : Below B w0 W :=
  ⟨h.os.trans h0.os, h.tape.trans h0.tape, h.output.trans h0.output, Nat.le_trans h0.size h.size, fun k hk => (h.block k (by omega) (fun e => by have := hs k e; omega)).trans (h0.block k hk)⟩
theorem Blk.frs {b : Nat} {cs : Array Value} {T : TypeId} (h : Blk b cs T w) (hf : FrS S w W) (hb : ¬ S b) : Blk b cs T W := (hf.block b h.lt hb).trans h
theorem own_frs {base E size n : Nat} {v : Value} {xs : List Value} (h : w.ownsRow base E size v n xs) (hf : FrS S w W) (hb : ∀ g, v.ownBlock = some g → ¬ S g) : W.ownsRow base E size v n xs := by
  refine ⟨h.1, ?_⟩
  rcases h.2 with h2 | ⟨g, cap, cur, hv, hg, hh, r⟩
  · exact Or.inl h2
  · exact Or.inr ⟨g, cap, cur, hv, hg, (hf.block g (lt_of_blk hh) (hb g (by rw [hv]; rfl))).trans hh, r⟩
theorem FrS.cells (b : Nat) (hb : S b) : ∀ (vs : List Value) (o : Nat) (W : World), FrS S w W → FrS S w (W.setCells b o vs)
  | [], _, _, h => h
  | v :: vs, o, _, h => FrS.cells b hb vs (o + 1) _ (h.set b o v hb)
theorem own_cells {base E g n c : Nat} : ∀ (vs : List Value) (o : Nat) (W : World) (xs : List Value), W.ownsRow base E 1 (.slice (some ⟨g, 0, none⟩) n c) n xs → o + vs.length ≤ n →
    ∃ xs', (W.setCells g o vs).ownsRow base E 1 (.slice (some ⟨g, 0, none⟩) n c) n xs' ∧ xs'.take o = xs.take o
  | [], _, _, xs, h, _ => ⟨xs, h, rfl⟩
  | v :: vs, o, W, xs, h, hl => by
    rw [List.length_cons] at hl
    obtain ⟨xs', h1, h2⟩ := own_cells vs (o + 1) (W.setCell ⟨g, o, none⟩ v) (xs.set o v) (own_setAt h o v (by omega)) (by omega)
    refine ⟨xs', h1, ?_⟩
    have h3 : (xs'.take (o + 1)).take o = ((xs.set o v).take (o + 1)).take o := by rw [h2]
    rw [List.take_take, List.take_take, Nat.min_eq_left (by omega)] at h3
    rw [h3, List.take_set_of_le (Nat.le_refl _)]
theorem own_cut {base E g n c m : Nat} {xs : List Value} (h : W.ownsRow base E 1 (.slice (some ⟨g, 0, none⟩) n c) n xs) (hm : m ≤ n) : W.ownsRow base E 1 (.slice (some ⟨g, 0, none⟩) m c) m (xs.take m) := by
  obtain ⟨h1, h2⟩ := h
  rcases h2 with ⟨e, _⟩ | ⟨g', cap, cur, e, hb, hg, hn, hc, hs, ht⟩
  · cases e
  · cases e
    refine ⟨by rw [List.length_take, h1]; omega, .inr ⟨g, _, cur, rfl, hb, hg, by omega, hc, hs, ?_⟩⟩
    rw [← ht, List.take_take]
    congr 1
    omega
end
end Go.Proofs.Ytgblpfahgpneoaa
