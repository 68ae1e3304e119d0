/-
  The one with the least half way of those that go up: plainly, and what lies in memory.
-/
import Derived.Test.YtomfmkddfgpmkaaFClimb2
namespace Go.Proofs.Ytomfmkddfgpmkaa
open Go Go.RowKit Fl

namespace Fl
/-- The numbers from n up, as long as the next isn't below first; and where that ends. -/
def pathF (up : List Nat) (first : Nat) : Nat → Nat → List Nat × Nat
  | 0, n => ([], n)
  | F + 1, n => if first ≤ up.getD n 0 then (n :: (pathF up first F (up.getD n 0)).1, (pathF up first F (up.getD n 0)).2) else ([], n)
/-- The way made short: the numbers b from the farthest down. -/
def comp (half : List Nat) : List Nat → List Nat → List Nat → Nat → List Nat × List Nat × Nat
  | [], up, ls, n => (up, ls, n)
  | b :: r, up, ls, n => comp half r (up.set b (up.getD n 0)) (if half.getD (ls.getD n 0) 0 < half.getD (ls.getD b 0) 0 then ls.set b (ls.getD n 0) else ls) b
def lowF (up half ls : List Nat) (first n : Nat) : List Nat × List Nat × Nat := comp half (pathF up first (n + 1) n).1.reverse up ls (pathF up first (n + 1) n).2

/-- Every number goes up to a lesser one, 0 to itself. -/
def UpOk (m : Nat) (up : List Nat) : Prop := up.length = m ∧ (∀ i, 0 < i → i < m → up.getD i 0 < i) ∧ up.getD 0 0 = 0
def LsOk (m : Nat) (ls : List Nat) : Prop := ls.length = m ∧ ∀ i, i < m → ls.getD i 0 < m

/-- How far a path is gone. -/
def PathAt (up : List Nat) (first : Nat) (P : List Nat) (R : Nat) (acc : List Nat) (n : Nat) : Prop := ∃ F, n < F ∧ acc ++ (pathF up first F n).1 = P ∧ (pathF up first F n).2 = R
theorem path_start (up : List Nat) (first n : Nat) : PathAt up first (pathF up first (n + 1) n).1 (pathF up first (n + 1) n).2 [] n := ⟨n + 1, by omega, rfl, rfl⟩
theorem path_step {m : Nat} {up : List Nat} {first : Nat} {P : List Nat} {R : Nat} {acc : List Nat} {n : Nat} (hu : UpOk m up) (hn : n < m) (hf : 0 < first) (h : PathAt up first P R acc n) (hge : first ≤ up.getD n 0) : PathAt up first P R (acc ++ [n]) (up.getD n 0) ∧ up.getD n 0 < n := by
  have hpos : 0 < n := by
    rcases Nat.eq_zero_or_pos n with e | e
    · rw [e, hu.2.2] at hge; omega
    · exact e
  have hlt := hu.2.1 n hpos hn
  obtain ⟨F, h1, h2, h3⟩ := h
  obtain ⟨F', rfl⟩ : ∃ F', F = F' + 1 := ⟨F - 1, by omega⟩
  unfold pathF at h2 h3
  rw [if_pos hge] at h2 h3
  exact ⟨⟨F', by omega, by rw [← h2]; simp, h3⟩, hlt⟩
theorem path_end {up : List Nat} {first : Nat} {P : List Nat} {R : Nat} {acc : List Nat} {n : Nat} (h : PathAt up first P R acc n) (hlt : ¬ first ≤ up.getD n 0) : acc = P ∧ n = R := by
  obtain ⟨F, h1, h2, h3⟩ := h
  obtain ⟨F', rfl⟩ : ∃ F', F = F' + 1 := ⟨F - 1, by omega⟩
  unfold pathF at h2 h3
  rw [if_neg hlt] at h2 h3
  exact ⟨by simpa using h2, h3⟩
/-- How far a way is made short. -/
def CompAt (half P : List Nat) (Z : List Nat × List Nat × Nat) (k : Nat) (up ls : List Nat) (n : Nat) : Prop := comp half (P.take k).reverse up ls n = Z
theorem comp_start (half P up ls : List Nat) (R : Nat) : CompAt half P (comp half P.reverse up ls R) P.length up ls R := by
  unfold CompAt
  rw [List.take_length]
theorem comp_step {half P : List Nat} {Z : List Nat × List Nat × Nat} {k : Nat} {up ls : List Nat} {n b : Nat} (h : CompAt half P Z (k + 1) up ls n) (hk : k < P.length) (hb : P.getD k 0 = b) :
    CompAt half P Z k (up.set b (up.getD n 0)) (if half.getD (ls.getD n 0) 0 < half.getD (ls.getD b 0) 0 then ls.set b (ls.getD n 0) else ls) b := by
  unfold CompAt at h ⊢
  have e : P.take (k + 1) = P.take k ++ [b] := by
    rw [List.take_add_one, List.getElem?_eq_getElem hk, ← hb, getD_of P k 0 hk]
    rfl
  rw [e, List.reverse_append] at h
  exact h
theorem comp_end {half P : List Nat} {Z : List Nat × List Nat × Nat} {up ls : List Nat} {n : Nat} (h : CompAt half P Z 0 up ls n) : Z = (up, ls, n) := by
  unfold CompAt at h
  rw [← h]
  rfl
end Fl

/-- A value's block is none of five. -/
def Apart5 (v : Value) (a b c d e : Nat) : Prop := some a ≠ v.ownBlock ∧ some b ≠ v.ownBlock ∧ some c ≠ v.ownBlock ∧ some d ≠ v.ownBlock ∧ some e ≠ v.ownBlock
/-- What is as it was, but for a climb's own. -/
structure KeptC (bc b1 b3 : Nat) (pv0 pv : Value) (W0 W : World) : Prop where
  k : ∀ k, k < W0.heap.size → k ≠ bc → k ≠ b1 → k ≠ b3 → some k ≠ pv0.ownBlock → W.heap[k]? = W0.heap[k]?
  at' : pv.ownBlock = pv0.ownBlock ∨ ∃ g, pv.ownBlock = some g ∧ W0.heap.size ≤ g
  size : W0.heap.size ≤ W.heap.size
  misc : W.os = W0.os ∧ W.tape = W0.tape ∧ W.output = W0.output
/-- A climb with the path it has gone. -/
structure ClimbP (base bc b0 b1 b2 b3 m : Nat) (fr up hf ls : List Nat) (pv0 pv : Value) (l : List Nat) (W0 W : World) : Prop where
  g : ClimbG base bc b0 b1 b2 b3 m fr up hf ls pv W
  o : Nums W base pv l
  a : Apart5 pv bc b0 b1 b2 b3
  kp : KeptC bc b1 b3 pv0 pv W0 W

section
variable {base bc b0 b1 b2 b3 m : Nat} {fr up hf ls l : List Nat} {pv0 pv : Value} {W0 W : World}
theorem KeptC.set {b : Nat} (h : KeptC bc b1 b3 pv0 pv W0 W) (hb : b = bc ∨ b = b1 ∨ b = b3) (j : Nat) (u : Value) : KeptC bc b1 b3 pv0 pv W0 (W.setCell ⟨b, j, none⟩ u) :=
  ⟨fun k hk h1 h2 h3 h4 => (Below.heap_setCell _ _ _ _ (by show k ≠ b; rcases hb with e | e | e <;> (rw [e]; assumption))).trans (h.k k hk h1 h2 h3 h4), h.at', by have := h.size; simpa using this, h.misc⟩
theorem ClimbP.drew (h : ClimbP base bc b0 b1 b2 b3 m fr up hf ls pv0 pv l W0 W) : ClimbP base bc b0 b1 b2 b3 m fr up hf ls pv0 pv l W0 W.drew :=
  ⟨h.g.heap rfl, own_heap h.o rfl, h.a, h.kp.k, h.kp.at', h.kp.size, h.kp.misc⟩
theorem ClimbP.set1 (h : ClimbP base bc b0 b1 b2 b3 m fr up hf ls pv0 pv l W0 W) (j x : Nat) : ClimbP base bc b0 b1 b2 b3 m fr (up.set j x) hf ls pv0 pv l W0 (W.setCell ⟨b1, j, none⟩ (I (x : Int))) :=
  ⟨h.g.set1 j x, own_set h.o h.a.2.2.1, h.a, h.kp.set (Or.inr (Or.inl rfl)) _ _⟩
theorem ClimbP.set3 (h : ClimbP base bc b0 b1 b2 b3 m fr up hf ls pv0 pv l W0 W) (j x : Nat) : ClimbP base bc b0 b1 b2 b3 m fr up hf (ls.set j x) pv0 pv l W0 (W.setCell ⟨b3, j, none⟩ (I (x : Int))) :=
  ⟨h.g.set3 j x, own_set h.o h.a.2.2.2.2, h.a, h.kp.set (Or.inr (Or.inr rfl)) _ _⟩
theorem own_cut {w : World} {g n c : Nat} (h : Nums w base (.slice (some ⟨g, 0, none⟩) n c) l) : Nums w base (.slice (some ⟨g, 0, none⟩) 0 c) [] := by
  refine ⟨rfl, ?_⟩
  rcases h.2 with ⟨h, _⟩ | ⟨g', cap', cur, h, hb, hh, h1, h2, h3, h4⟩
  · simp at h
  · simp only [Value.slice.injEq, Option.some.injEq, Addr.mk.injEq, and_true, true_and] at h
    obtain ⟨rfl, _, rfl⟩ := h
    exact .inr ⟨g, c, cur, rfl, hb, hh, Nat.zero_le _, h2, h3, by simp⟩
theorem ClimbP.cut {g n c : Nat} (h : ClimbP base bc b0 b1 b2 b3 m fr up hf ls pv0 (.slice (some ⟨g, 0, none⟩) n c) l W0 W) : ClimbP base bc b0 b1 b2 b3 m fr up hf ls pv0 (.slice (some ⟨g, 0, none⟩) 0 c) [] W0 (W.setCell ⟨bc, 4, none⟩ (.slice (some ⟨g, 0, none⟩) 0 c)) :=
  ⟨h.g.setP _, own_set (own_cut h.o) h.a.1, h.a, (h.kp.set (b := bc) (Or.inl rfl) _ _).k, h.kp.at', (h.kp.set (b := bc) (Or.inl rfl) 4 (.slice (some ⟨g, 0, none⟩) 0 c)).size, h.kp.misc⟩
theorem ClimbP.cutNil (h : ClimbP base bc b0 b1 b2 b3 m fr up hf ls pv0 (.slice none 0 0) l W0 W) : ClimbP base bc b0 b1 b2 b3 m fr up hf ls pv0 (.slice none 0 0) [] W0 (W.setCell ⟨bc, 4, none⟩ (.slice none 0 0)) :=
  ⟨h.g.setP _, World.ownsRow_nil _ _ _ _, h.a, (h.kp.set (b := bc) (Or.inl rfl) _ _).k, h.kp.at', (h.kp.set (b := bc) (Or.inl rfl) 4 (.slice none 0 0)).size, h.kp.misc⟩
theorem ClimbP.app {o : Obj} {w4 : World} {u : Value} {a : Nat} (h : ClimbP base bc b0 b1 b2 b3 m fr up hf ls pv0 pv l W0 W) (hg : (W.alloc o).grownBy w4 pv.ownBlock) (ho : Nums w4 base u (l ++ [a])) (hat : u.ownBlock = pv.ownBlock ∨ u.ownBlock = some (W.alloc o).heap.size) :
    ClimbP base bc b0 b1 b2 b3 m fr up hf ls pv0 u (l ++ [a]) W0 (w4.setCell ⟨bc, 4, none⟩ u) := by
  have hat' : u.ownBlock = pv.ownBlock ∨ ∃ g, u.ownBlock = some g ∧ W.heap.size ≤ g := by
    rcases hat with e | e
    · exact Or.inl e
    · exact Or.inr ⟨_, e, by simp⟩
  have ap : ∀ b, some b ≠ pv.ownBlock → b < W.heap.size → some b ≠ u.ownBlock := fun b hb hl => own_apart h.o hb hl (Nat.le_refl _) hat'
  have q : Apart5 u bc b0 b1 b2 b3 := ⟨ap _ h.a.1 h.g.blk.lt, ap _ h.a.2.1 h.g.k0.lt, ap _ h.a.2.2.1 h.g.k1.lt, ap _ h.a.2.2.2.1 h.g.k2.lt, ap _ h.a.2.2.2.2 h.g.k3.lt⟩
  have hG : ClimbG base bc b0 b1 b2 b3 m fr up hf ls pv w4 := (h.g.grown (World.grownBy_alloc W o Option.none) (by simp) (by simp) (by simp) (by simp) (by simp)).grown hg h.a.1 h.a.2.1 h.a.2.2.1 h.a.2.2.2.1 h.a.2.2.2.2
  have hs : W.heap.size ≤ w4.heap.size := by have := hg.size; simp at this; omega
  refine ⟨hG.setP u, own_set ho q.1, q, fun k hk h1 h2 h3 h4 => ?_, ?_, ?_, ?_⟩
  · have hkW : k < W.heap.size := Nat.lt_of_lt_of_le hk h.kp.size
    have hne : some k ≠ pv.ownBlock := by
      rcases h.kp.at' with e | ⟨g, e, hge⟩
      · rw [e]; exact h4
      · rw [e]; simp; omega
    refine (Below.heap_setCell _ _ _ _ h1).trans ((hg.block k (by simp; omega) hne).trans ?_)
    exact ((World.grownBy_alloc W o Option.none).block k hkW (by simp)).trans (h.kp.k k hk h1 h2 h3 h4)
  · rcases hat' with e | ⟨g, e, hge⟩
    · rw [e]; exact h.kp.at'
    · exact Or.inr ⟨g, e, Nat.le_trans h.kp.size hge⟩
  · have := h.kp.size; simp; omega
  · exact ⟨hg.os.trans h.kp.misc.1, hg.tape.trans h.kp.misc.2.1, hg.output.trans h.kp.misc.2.2⟩
end
end Go.Proofs.Ytomfmkddfgpmkaa
