/-
  Each node's neighbours, as they lie in memory while they are found.
-/
import Derived.Test.YtgblpfahgpneoaaPtF
import Derived.Test.YtgblpfahgpneoaaPtO
namespace Go.Proofs.Ytgblpfahgpneoaa
open Go Go.RowKit

theorem IntoW.alloc {base bl n : Nat} {T : Nat → List Nat} {W : World} (h : IntoW base bl n T W) (o : Obj) : IntoW base bl n T (W.alloc o) := by
  obtain ⟨h0, vs, h1, h2, h3, h4, h5⟩ := h
  exact ⟨h0, vs, h1, h2.alloc _, fun t ht => (h3 t ht).alloc _, h4, h5⟩
theorem intoW_new (w : World) (n : Nat) : IntoW w.heap.size w.heap.size n (fun _ => []) (w.alloc (.cells (arrS (List.replicate n (.slice none 0 0))) 25)) := by
  refine ⟨Nat.le_refl _, List.replicate n (.slice none 0 0), by simp, Blk.new _ _ _, fun t ht => ?_, fun t ht => ?_, fun t u ht hu _ => ?_⟩
  · rw [List.getElem_replicate]
    exact World.ownsRow_nil _ _ _ _
  · rw [List.getElem_replicate]; simp [Value.ownBlock]
  · left; rw [List.getElem_replicate]; rfl

structure NbV (w : World) (n bl bL b10 B : Nat) (vs : List Value) (T : Nat → List Nat) (lf : Nat → Int) (W : World) : Prop where
  vl : vs.length = n
  rb : Blk bl vs.toArray 25 W
  ro : ∀ t (h : t < vs.length), Nums W w.heap.size vs[t] (T t)
  ol : ∀ t (h : t < vs.length) g, vs[t].ownBlock = some g → g < B ∧ g ≠ bl
  a4 : ∀ t u (ht : t < vs.length) (hu : u < vs.length), t ≠ u → vs[t].ownBlock = none ∨ vs[t].ownBlock ≠ vs[u].ownBlock
  lo : w.heap.size ≤ bl ∧ bl < B ∧ B ≤ bL ∧ B ≤ b10 ∧ b10 ≠ bL
  k0 : Blk b10 #[.slice (some ⟨bL, 0, none⟩) n n] 25 W
  kl : Blk bL (arrF n fun i => I (lf i)) 3 W
  be : Below w.heap.size w W
section
variable {w W W' : World} {n bl bL b10 B : Nat} {vs : List Value} {T T' : Nat → List Nat} {lf lf' : Nat → Int}
theorem NbV.iw (h : NbV w n bl bL b10 B vs T lf W) : IntoW w.heap.size bl n T W := ⟨h.lo.1, vs, h.vl, h.rb, h.ro, fun t ht e => (h.ol t ht _ e.symm).2 rfl, h.a4⟩
theorem NbV.below (h : NbV w n bl bL b10 B vs T lf W) (hb : Below W.heap.size W W') : NbV w n bl bL b10 B vs T lf W' :=
  ⟨h.vl, h.rb.below hb h.rb.lt, fun t ht => own_below (h.ro t ht) hb, h.ol, h.a4, h.lo, h.k0.below hb h.k0.lt, h.kl.below hb h.kl.lt, h.be.trans (hb.mono h.be.size)⟩
theorem NbV.alloc (h : NbV w n bl bL b10 B vs T lf W) (o : Obj) : NbV w n bl bL b10 B vs T lf (W.alloc o) := h.below ((Below.refl _ _).alloc (Nat.le_refl _) _)
theorem NbV.drew (h : NbV w n bl bL b10 B vs T lf W) : NbV w n bl bL b10 B vs T lf W.drew := h.below (below_drewN (Below.refl _ _) 1)
theorem nbV_start (hi : IntoW w.heap.size bl n T W) (hb : Below w.heap.size w W) : ∃ vs, NbV w n bl W.heap.size (W.heap.size + 1) W.heap.size vs T (fun _ => 0) ((W.alloc (.cells (Array.replicate n (I 0)) 3)).alloc (.cells #[.slice (some ⟨W.heap.size, 0, none⟩) n n] 25)) := by
  obtain ⟨h0, vs, h1, h2, h3, h4, h5⟩ := hi
  refine ⟨vs, h1, (h2.alloc _).alloc _, fun t ht => ((h3 t ht).alloc _).alloc _, fun t ht g hg => ⟨((h3 t ht).lt g hg).2, fun e => h4 t ht (by rw [hg, e])⟩, h5, ⟨h0, h2.lt, Nat.le_refl _, by omega, by omega⟩, Blk.new' _ _ _ (by simp), ?_, (hb.alloc hb.size _).alloc (by have := hb.size; simp; omega) _⟩
  rw [← arrF_repl]
  exact (Blk.new _ _ _).alloc _
theorem NbV.cut (h : NbV w n bl bL b10 B vs T lf W) {t : Nat} (ht : t < vs.length) {u : Value} {L : List Nat} (hf : FrS (fun k => k = bL ∨ some k = vs[t].ownBlock) W W') (ho : Nums W' w.heap.size u L) (hu : u.ownBlock = vs[t].ownBlock) (hk : Blk bL (arrF n fun i => I (lf' i)) 3 W') :
    NbV w n bl bL b10 B (vs.set t u) (fun s => if s = t then L else T s) lf' (W'.setCell ⟨bl, t, none⟩ u) := by
  obtain ⟨l1, l2, l3, l4, l5⟩ := h.lo
  have hbl : ¬ (bl = bL ∨ some bl = vs[t].ownBlock) := by
    rintro (e | e)
    · omega
    · exact (h.ol t ht _ e.symm).2 rfl
  have hub : ∀ g, u.ownBlock = some g → g < B ∧ g ≠ bl := fun g hg => h.ol t ht g (by rw [← hu]; exact hg)
  refine ⟨by simpa using h.vl, ?_, fun s hs => ?_, fun s hs g hg => ?_, fun s v hs hv hne => ?_, h.lo, ?_, hk.setOther (by omega) _ _, (hf.below (fun k hk => ?_) h.be.size h.be).setCell (p := ⟨bl, t, none⟩) l1 _⟩
  · have h9 := (h.rb.frs hf hbl).set t u
    have e : vs.toArray.setIfInBounds t u = (vs.set t u).toArray := by apply Array.toList_inj.1; simp
    rw [e] at h9
    exact h9
  · have hs' : s < vs.length := by simpa using hs
    rw [List.getElem_set]
    show Nums _ _ _ (if s = t then L else T s)
    by_cases e : s = t
    · subst e
      rw [if_pos rfl, if_pos rfl]
      exact own_set ho (fun e => (hub _ e.symm).2 rfl)
    · rw [if_neg (fun e' => e e'.symm), if_neg e]
      refine own_set (own_frs (h.ro s hs') hf (fun g hg => ?_)) (fun e => (h.ol s hs' _ e.symm).2 rfl)
      rintro (e2 | e2)
      · have := (h.ol s hs' g hg).1; omega
      · rcases h.a4 s t hs' ht e with e3 | e3
        · rw [e3] at hg; cases hg
        · rw [hg, e2] at e3; exact e3 rfl
  · have hs' : s < vs.length := by simpa using hs
    rw [List.getElem_set] at hg
    split at hg
    · exact hub g hg
    · exact h.ol s hs' g hg
  · have hs' : s < vs.length := by simpa using hs
    have hv' : v < vs.length := by simpa using hv
    rw [List.getElem_set, List.getElem_set]
    by_cases e1 : t = s
    · rw [if_pos e1, if_neg (by omega), hu]
      exact h.a4 t v ht hv' (by omega)
    · rw [if_neg e1]
      by_cases e2 : t = v
      · rw [if_pos e2, hu]; exact h.a4 s t hs' ht (fun e => e1 e.symm)
      · rw [if_neg e2]; exact h.a4 s v hs' hv' hne
  · refine (h.k0.frs hf ?_).setOther (by omega) _ _
    rintro (e | e)
    · omega
    · have := (h.ol t ht _ e.symm).1; omega
  · rcases hk with e | e
    · omega
    · exact ((h.ro t ht).lt k e.symm).1
theorem NbV.turn (h : NbV w n bl bL b10 B vs T lf W) (e : ∀ t, t < n → T' t = T t) : NbV w n bl bL b10 B vs T' lf W :=
  ⟨h.vl, h.rb, fun t ht => by rw [e t (by have := h.vl; omega)]; exact h.ro t ht, h.ol, h.a4, h.lo, h.k0, h.kl, h.be⟩
end
def Nb1 (w : World) (n bl : Nat) (l : List P2) (iv : Value) (W : World) : Prop := ∃ i : Nat, i ≤ l.length ∧ iv = I (i : Int) ∧ IntoW w.heap.size bl n (fun t => nbs (l.take i) t) W ∧ Below w.heap.size w W
def Nb2 (w : World) (n bl bL b10 B : Nat) (l : List P2) (iv : Value) (W : World) : Prop := ∃ (i : Nat) (vs : List Value) (lf : Nat → Int), i ≤ n ∧ iv = I (i : Int) ∧ NbV w n bl bL b10 B vs (fun t => if t < i then dd (nbs l t) else nbs l t) lf W ∧ ∀ x, lf x ≤ (i : Int)
def NbE (w : World) (n : Nat) (l : List P2) (W : World) (e : Ending) : Prop := ∃ v, e = .returned v ∧ Gz W.heap.size v n (fun t => dd (nbs l t)) W ∧ Below w.heap.size w W
end Go.Proofs.Ytgblpfahgpneoaa
