/-
  The order of nodes in memory.
-/
import Derived.Test.YtgblpfahgpneoaaPtP
import Derived.Test.YtgblpfahgpneoaaPtR
import Derived.Test.YtgblpfahgpneoaaPtH
import Derived.Test.YtgblpfahgpneoaaDrawn
namespace Go.Proofs.Ytgblpfahgpneoaa
open Go Go.RowKit

structure OrV (w : World) (n bl bR : Nat) (vs : List Value) (ov : Value) (lf : Nat → Int) (R : Nat → List Nat) (out : List Nat) (W : World) : Prop where
  l : Blk bl (arrF n fun i => I (lf i)) 3 W
  vl : vs.length = n
  rb : Blk bR vs.toArray 25 W
  ro : ∀ t (h : t < vs.length), Nums W w.heap.size vs[t] (R t)
  o : Nums W w.heap.size ov out
  b : Below w.heap.size w W
  lo : w.heap.size ≤ bl ∧ w.heap.size ≤ bR ∧ bl ≠ bR
  a2 : ∀ t (h : t < vs.length), some bl ≠ vs[t].ownBlock ∧ some bR ≠ vs[t].ownBlock
  a3 : some bl ≠ ov.ownBlock ∧ some bR ≠ ov.ownBlock
  a4 : ∀ t u (ht : t < vs.length) (hu : u < vs.length), t ≠ u → vs[t].ownBlock = none ∨ vs[t].ownBlock ≠ vs[u].ownBlock
  a5 : ∀ t (h : t < vs.length), vs[t].ownBlock = none ∨ vs[t].ownBlock ≠ ov.ownBlock
theorem nil_or_app {α : Type} (l : List α) : l = [] ∨ ∃ r n, l = r ++ [n] := by
  rcases List.eq_nil_or_concat l with h | ⟨r, n, h⟩
  · exact Or.inl h
  · exact Or.inr ⟨r, n, by rw [h, List.concat_eq_append]⟩
theorem ne_turn {a b : Option Nat} (h : a = none ∨ a ≠ b) : b = none ∨ b ≠ a := by
  cases b with
  | none => exact Or.inl rfl
  | some k =>
    rcases h with e | e
    · rw [e]; exact Or.inr (by simp)
    · exact Or.inr (Ne.symm e)
section
variable {w W w4 : World} {n bl bR : Nat} {vs : List Value} {ov : Value} {lf : Nat → Int} {R : Nat → List Nat} {out : List Nat}
theorem OrV.below {W' : World} (h : OrV w n bl bR vs ov lf R out W) (hb : Below W.heap.size W W') : OrV w n bl bR vs ov lf R out W' :=
  ⟨h.l.below hb h.l.lt, h.vl, h.rb.below hb h.rb.lt, fun t ht => own_below (h.ro t ht) hb, own_below h.o hb, h.b.trans (hb.mono h.b.size), h.lo, h.a2, h.a3, h.a4, h.a5⟩
theorem OrV.drew (h : OrV w n bl bR vs ov lf R out W) : OrV w n bl bR vs ov lf R out W.drew := h.below (below_drewN (Below.refl _ _) 1)
theorem OrV.turn {lf' : Nat → Int} {R' : Nat → List Nat} (h : OrV w n bl bR vs ov lf R out W) (h1 : ∀ x, x < n → lf' x = lf x) (h2 : ∀ x, x < n → R' x = R x) : OrV w n bl bR vs ov lf' R' out W :=
  ⟨by rw [arrF_congr (g := fun i => I (lf i)) (fun i hi => by rw [h1 i hi])]; exact h.l, h.vl, h.rb, fun t ht => by rw [h2 t (by have := h.vl; omega)]; exact h.ro t ht, h.o, h.b, h.lo, h.a2, h.a3, h.a4, h.a5⟩
theorem OrV.setL (h : OrV w n bl bR vs ov lf R out W) (i : Nat) (v : Int) : OrV w n bl bR vs ov (fun x => if x = i then v else lf x) R out (W.setCell ⟨bl, i, none⟩ (I v)) := by
  refine ⟨?_, h.vl, h.rb.setOther (fun e => h.lo.2.2 e.symm) _ _, fun t ht => own_set (h.ro t ht) (h.a2 t ht).1, own_set h.o h.a3.1, h.b.setCell h.lo.1 _, h.lo, h.a2, h.a3, h.a4, h.a5⟩
  have h9 := h.l.set i (I v)
  rw [arrF_set] at h9
  have e : (up (fun i => I (lf i)) i (I v)) = fun j => I (if j = i then v else lf j) := by
    funext j
    unfold up
    split <;> rfl
  rw [e] at h9
  exact h9
theorem OrV.push (h : OrV w n bl bR vs ov lf R out W) {o : Obj} {u : Value} {t x : Nat} (ht : t < vs.length) (hg : (W.alloc o).grownBy w4 vs[t].ownBlock) (ho : Nums w4 w.heap.size u (R t ++ [x])) (hat : u.ownBlock = vs[t].ownBlock ∨ u.ownBlock = some (W.alloc o).heap.size) :
    OrV w n bl bR (vs.set t u) ov lf (Po.upd R t (R t ++ [x])) out (w4.setCell ⟨bR, t, none⟩ u) := by
  have hat' : u.ownBlock = vs[t].ownBlock ∨ ∃ g, u.ownBlock = some g ∧ W.heap.size ≤ g := by
    rcases hat with e | e
    · exact Or.inl e
    · exact Or.inr ⟨_, e, by simp⟩
  have q1 : some bl ≠ u.ownBlock := own_apart (h.ro t ht) (h.a2 t ht).1 h.l.lt (Nat.le_refl _) hat'
  have q2 : some bR ≠ u.ownBlock := own_apart (h.ro t ht) (h.a2 t ht).2 h.rb.lt (Nat.le_refl _) hat'
  have hap : ∀ v : Value, (vs[t].ownBlock = none ∨ vs[t].ownBlock ≠ v.ownBlock) → (∀ g, v.ownBlock = some g → g < W.heap.size) → u.ownBlock = none ∨ u.ownBlock ≠ v.ownBlock := by
    intro v h1 h2
    rcases hat' with e | ⟨g, e, hg'⟩
    · rw [e]; exact h1
    · right
      rw [e]
      intro e2
      have := h2 g e2.symm
      omega
  have ho2 : u.ownBlock = none ∨ u.ownBlock ≠ ov.ownBlock := hap ov (h.a5 t ht) (fun g hg' => (h.o.lt g hg').2)
  refine ⟨((h.l.alloc o).other hg (h.a2 t ht).1).setOther h.lo.2.2 _ _, by simpa using h.vl, ?_, fun s hs => ?_, own_set (((h.o.alloc o).kept hg) (ne_turn (h.a5 t ht))) h.a3.2, ((h.b.alloc h.b.size _).grown hg (by have := h.b.size; simp; omega) (fun k hk => ((h.ro t ht).lt k hk).1)).setCell (p := ⟨bR, t, none⟩) h.lo.2.1 _, h.lo, fun s hs => ?_, h.a3, fun s v hs hv hne => ?_, fun s hs => ?_⟩
  · have h9 := ((h.rb.alloc o).other hg (h.a2 t ht).2).set t u
    have e : vs.toArray.setIfInBounds t u = (vs.set t u).toArray := by apply Array.toList_inj.1; simp
    rw [e] at h9
    exact h9
  · have hs' : s < vs.length := by simpa using hs
    rw [List.getElem_set]
    unfold Po.upd
    by_cases e : s = t
    · subst e
      rw [if_pos rfl, if_pos rfl]
      exact own_set ho q2
    · rw [if_neg (fun e' => e e'.symm), if_neg e]
      exact own_set (((h.ro s hs').alloc o).kept hg (h.a4 s t hs' ht e)) (h.a2 s hs').2
  · have hs' : s < vs.length := by simpa using hs
    rw [List.getElem_set]
    split
    · exact ⟨q1, q2⟩
    · exact h.a2 s hs'
  · have hs' : s < vs.length := by simpa using hs
    have hv' : v < vs.length := by simpa using hv
    rw [List.getElem_set, List.getElem_set]
    by_cases e1 : t = s
    · rw [if_pos e1, if_neg (by omega)]
      exact hap vs[v] (h.a4 t v ht hv' (by omega)) (fun g hg' => ((h.ro v hv').lt g hg').2)
    · rw [if_neg e1]
      by_cases e2 : t = v
      · rw [if_pos e2]
        exact ne_turn (hap vs[s] (h.a4 t s ht hs' e1) (fun g hg' => ((h.ro s hs').lt g hg').2))
      · rw [if_neg e2]; exact h.a4 s v hs' hv' hne
  · have hs' : s < vs.length := by simpa using hs
    rw [List.getElem_set]
    split
    · exact ho2
    · exact h.a5 s hs'
theorem OrV.pop (h : OrV w n bl bR vs ov lf R out W) {t m g c x : Nat} {r : List Nat} (ht : t < vs.length) (hv : vs[t] = .slice (some ⟨g, 0, none⟩) (m + 1) c) (hR : R t = r ++ [x]) (hm : r.length = m) :
    OrV w n bl bR (vs.set t (.slice (some ⟨g, 0, none⟩) m c)) ov lf (Po.upd R t r) out (W.setCell ⟨bR, t, none⟩ (.slice (some ⟨g, 0, none⟩) m c)) := by
  have hb : (Value.slice (some ⟨g, 0, none⟩) m c).ownBlock = vs[t].ownBlock := by rw [hv]; rfl
  have ho : Nums W w.heap.size (.slice (some ⟨g, 0, none⟩) m c) r := by
    have h9 := h.ro t ht
    rw [hv, hR] at h9
    have h8 : W.ownsRow w.heap.size 3 1 (.slice (some ⟨g, 0, none⟩) (m + 1) c) (m + 1) (ints r ++ [I (x : Int)]) := by
      have h7 : W.ownsRow w.heap.size 3 1 (.slice (some ⟨g, 0, none⟩) (m + 1) c) (r ++ [x]).length (ints (r ++ [x])) := h9
      rw [List.length_append, List.length_singleton, hm, show ints (r ++ [x]) = ints r ++ [I (x : Int)] by simp] at h7
      exact h7
    show W.ownsRow _ _ _ _ r.length _
    rw [hm]
    exact ownsRow_pop (by rw [List.length_map, hm, Nat.mul_one]) h8
  refine ⟨h.l.setOther h.lo.2.2 _ _, by simpa using h.vl, ?_, fun s hs => ?_, own_set h.o h.a3.2, h.b.setCell (p := ⟨bR, t, none⟩) h.lo.2.1 _, h.lo, fun s hs => ?_, h.a3, fun s v hs hv2 hne => ?_, fun s hs => ?_⟩
  · have h9 := h.rb.set t (.slice (some ⟨g, 0, none⟩) m c)
    have e : vs.toArray.setIfInBounds t (.slice (some ⟨g, 0, none⟩) m c) = (vs.set t (.slice (some ⟨g, 0, none⟩) m c)).toArray := by apply Array.toList_inj.1; simp
    rw [e] at h9
    exact h9
  · have hs' : s < vs.length := by simpa using hs
    rw [List.getElem_set]
    unfold Po.upd
    by_cases e : s = t
    · subst e
      rw [if_pos rfl, if_pos rfl]
      exact own_set ho (by rw [hb]; exact (h.a2 s ht).2)
    · rw [if_neg (fun e' => e e'.symm), if_neg e]
      exact own_set (h.ro s hs') (h.a2 s hs').2
  · have hs' : s < vs.length := by simpa using hs
    rw [List.getElem_set]
    split
    · rw [hb]; exact h.a2 t ht
    · exact h.a2 s hs'
  · have hs' : s < vs.length := by simpa using hs
    have hv' : v < vs.length := by simpa using hv2
    rw [List.getElem_set, List.getElem_set]
    by_cases e1 : t = s
    · rw [if_pos e1, if_neg (by omega), hb]
      exact h.a4 t v ht hv' (by omega)
    · rw [if_neg e1]
      by_cases e2 : t = v
      · rw [if_pos e2, hb]; exact h.a4 s t hs' ht (fun e => e1 e.symm)
      · rw [if_neg e2]; exact h.a4 s v hs' hv' hne
  · have hs' : s < vs.length := by simpa using hs
    rw [List.getElem_set]
    split
    · rw [hb]; exact h.a5 t ht
    · exact h.a5 s hs'
theorem OrV.put (h : OrV w n bl bR vs ov lf R out W) {o : Obj} {u : Value} {x : Nat} (hg : (W.alloc o).grownBy w4 ov.ownBlock) (ho : Nums w4 w.heap.size u (out ++ [x])) (hat : u.ownBlock = ov.ownBlock ∨ u.ownBlock = some (W.alloc o).heap.size) :
    OrV w n bl bR vs u lf R (out ++ [x]) w4 := by
  have hat' : u.ownBlock = ov.ownBlock ∨ ∃ g, u.ownBlock = some g ∧ W.heap.size ≤ g := by
    rcases hat with e | e
    · exact Or.inl e
    · exact Or.inr ⟨_, e, by simp⟩
  refine ⟨(h.l.alloc o).other hg h.a3.1, h.vl, (h.rb.alloc o).other hg h.a3.2, fun s hs => ((h.ro s hs).alloc o).kept hg (h.a5 s hs), ho, (h.b.alloc h.b.size _).grown hg (by have := h.b.size; simp; omega) (fun k hk => (h.o.lt k hk).1), h.lo, h.a2, ⟨own_apart h.o h.a3.1 h.l.lt (Nat.le_refl _) hat', own_apart h.o h.a3.2 h.rb.lt (Nat.le_refl _) hat'⟩, h.a4, fun s hs => ?_⟩
  rcases hat' with e | ⟨g, e, hg'⟩
  · rw [e]; exact h.a5 s hs
  · cases hv : vs[s].ownBlock with
    | none => exact Or.inl rfl
    | some k =>
      right
      rw [e]
      intro e2
      have := ((h.ro s hs).lt k hv).2
      cases e2
      omega
end

def OrdR (n : Nat) (w W : World) (e : Ending) : Prop := ∃ v out, e = .returned v ∧ Nums W w.heap.size v out ∧ out.Nodup ∧ (∀ x, x ∈ out ↔ x < n) ∧ Below w.heap.size w W
def Od1 (w : World) (n : Nat) (nr : Nat → List Nat) (bl bR : Nat) (iv : Value) (W : World) : Prop := ∃ (i : Nat) (vs : List Value) (lf : Nat → Int) (R : Nat → List Nat), i ≤ n ∧ iv = I (i : Int) ∧ OrV w n bl bR vs (.slice none 0 0) lf R [] W ∧ (∀ v, v < i → lf v = ((nr v).length : Int) ∧ v ∈ R (nr v).length) ∧ (∀ f, f < n → ∀ x ∈ R f, x < n) ∧ Po.tot R n ≤ i ∧ ∀ f, f < n → (R f).length ≤ i
def Od2 (w : World) (n : Nat) (nr : Nat → List Nat) (bl bR gk : Nat) (ov fv : Value) (W : World) : Prop := ∃ (vs : List Value) (lf : Nat → Int) (R : Nat → List Nat) (out : List Nat) (fw : Nat), fv = I (fw : Int) ∧ OrV w n bl bR vs ov lf R out W ∧ Po.Inv n nr lf R out fw ∧ Po.mu n R out fw < gk ∧ Po.mu n R out fw ≤ n * (n + 3) + 2 * n
def Od3 (w : World) (n : Nat) (nr : Nat → List Nat) (bl bR : Nat) (ov : Value) (lf0 : Nat → Int) (out : List Nat) (x B : Nat) (jv : Value) (W : World) : Prop := ∃ (j : Nat) (vs : List Value) (lf : Nat → Int) (R : Nat → List Nat), j ≤ (nr x).length ∧ jv = I (j : Int) ∧ OrV w n bl bR vs ov lf R (out ++ [x]) W ∧ Po.Mid n nr lf0 out x j B lf R

set_option maxRecDepth 100000 in
set_option maxHeartbeats 1600000 in
theorem reverse_nil (W : World) : Calls Try.prog 20 #[.slice none 0 0] W fun e w' => e = .returned (.tuple #[]) ∧ w' = W := by
  go_enter Try.func20, Try.ntmps20
  go_wp2_with (fail)
  go_loopw [2, 3] (fun iv jv wr => iv = I 0 ∧ jv = I (-1) ∧ wr = W) (fun iv _ _ => 0)
  case atStart => exact ⟨rfl, rfl, rfl⟩
  case round =>
    obtain ⟨rfl, rfl, rfl⟩ := hrel
    go_wp2_with fail
    go_end0
    exact ⟨rfl, rfl⟩
end Go.Proofs.Ytgblpfahgpneoaa
