/-
  Joined: FHead, CMem.
-/
import Derived.Test.YtepnjhbolaebmaaDoorProg
import Derived.WalkKit
import Derived.WalkLawsBesides
import Derived.Handy
import Derived.OneCell
import Derived.Lib.Hide
import Derived.BigQuiet
import Derived.BigGuardPart
import Derived.Outline
import Derived.Deep.QuietTactic
import Derived.Below
import Derived.Laws.Rows
import Derived.Laws.NewBlocks
import Derived.StillTailTactics
import Derived.Deep.RegionWith
import Derived.RegionTactic
import Derived.BigRegion
import Derived.Deep.Cut
import Derived.Lib.BufferOwn
import Derived.KernelRfl
/-! What the texts of graphs and of code begin with. -/

namespace Go.Proofs.YtepnjhbolaebmaaDoor
open Go Go.RowKit

theorem ret_bool {a b : Bool} (h : a = b) : Ending.returned (.bool a) = .returned (.bool b) := by rw [h]
theorem ret_int {k : IntKind} {a b : Int} (h : a = b) : Ending.returned (.int k a) = .returned (.int k b) := by rw [h]

end Go.Proofs.YtepnjhbolaebmaaDoor

/-! How lists lie in memory, and that they stay where other blocks are written. -/

namespace Go.Proofs.YtepnjhbolaebmaaDoor
open Go Go.RowKit

theorem grown_of_below {w w' : World} (h : Below w.heap.size w w') : w.grownBy w' none := ⟨h.os, h.tape, h.output, h.size, fun k hk _ => h.block k hk⟩
theorem below_drewN {B : Nat} {w w' : World} (h : Below B w w') (n : Nat) : Below B w (w'.drewN n) := ⟨h.os, h.tape, h.output, h.size, h.block⟩
theorem lt_of_blk {w : World} {b : Nat} {o : Obj} (h : w.heap[b]? = some o) : b < w.heap.size := (Array.getElem?_eq_some_iff.1 h).1
theorem cell_below {w w' : World} (h : Below w.heap.size w w') {g i : Nat} (hg : g < w.heap.size) {v : Value} (hc : w.cell? ⟨g, i, none⟩ = some v) : w'.cell? ⟨g, i, none⟩ = some v := by
  unfold World.cell? at hc ⊢
  rw [h.block g hg]
  exact hc

section
variable {w w' : World} {base E size n : Nat} {v : Value} {xs : List Value}
theorem own_below (h : w.ownsRow base E size v n xs) (hb : Below w.heap.size w w') : w'.ownsRow base E size v n xs := by
  refine h.kept (grown_of_below hb) ?_
  cases hu : v.ownBlock with
  | none => exact Or.inl rfl
  | some g => exact Or.inr (by simp)
theorem own_slice (h : w.ownsRow base E size v n xs) : v = .slice none 0 0 ∧ n = 0 ∨ ∃ g cap, v = .slice (some ⟨g, 0, none⟩) n cap := by
  rcases h.2 with h | ⟨g, cap, cur, rfl, _⟩
  · exact Or.inl h
  · exact Or.inr ⟨g, cap, rfl⟩
theorem own_lower {base' : Nat} (hb : base' ≤ base) (h : w.ownsRow base E size v n xs) : w.ownsRow base' E size v n xs := by
  refine ⟨h.1, ?_⟩
  rcases h.2 with h2 | ⟨g, cap, cur, hv, hg, r⟩
  · exact Or.inl h2
  · exact Or.inr ⟨g, cap, cur, hv, Nat.le_trans hb hg, r⟩
end

/-- A row stays where another block is written. -/
theorem own_set {w : World} {base E size n : Nat} {v : Value} {xs : List Value} (h : w.ownsRow base E size v n xs) {a : Addr} (ha : some a.block ≠ v.ownBlock) {u : Value} : (w.setCell a u).ownsRow base E size v n xs := by
  refine h.kept (row := some a.block) ⟨rfl, rfl, rfl, by simp [World.setCell], fun k _ hne => Below.heap_setCell _ _ _ _ (fun e => hne (by rw [e]))⟩ ?_
  exact Or.inr (Ne.symm ha)

/-- A whole block, that may be written. -/
def Blk (b : Nat) (cs : Array Value) (T : TypeId) (w : World) : Prop := w.heap[b]? = some (.cells cs T (0, 0))
section
variable {b : Nat} {cs : Array Value} {T : TypeId} {w w' : World}
theorem Blk.get (h : Blk b cs T w) (j : Nat) (v : Value) (hj : cs[j]? = some v) : w.cell? ⟨b, j, none⟩ = some v := by unfold Blk at h; simp [World.cell?, h, hj]
theorem Blk.free (h : Blk b cs T w) (j : Nat) : w.frozen? ⟨b, j, none⟩ = false := by unfold Blk at h; simp [World.frozen?, h]
theorem Blk.lt (h : Blk b cs T w) : b < w.heap.size := lt_of_blk h
theorem Blk.other {row : Option Nat} (h : Blk b cs T w) (hg : w.grownBy w' row) (hne : some b ≠ row) : Blk b cs T w' := (hg.block b h.lt hne).trans h
theorem Blk.below (h : Blk b cs T w) {B : Nat} (hb : Below B w w') (hB : b < B) : Blk b cs T w' := (hb.block b hB).trans h
theorem Blk.set (h : Blk b cs T w) (j : Nat) (u : Value) : Blk b (cs.setIfInBounds j u) T (w.setCell ⟨b, j, none⟩ u) := by
  have hlt := h.lt
  unfold Blk at *
  have h' : w.heap[b] = .cells cs T (0, 0) := by simpa [Array.getElem?_eq_getElem hlt] using h
  show (w.heap.modify b _)[b]? = _
  rw [Array.getElem?_eq_getElem (by simpa using hlt), Array.getElem_modify_self, h']
  rfl
theorem Blk.new (w : World) (cs : Array Value) (T : TypeId) : Blk w.heap.size cs T (w.alloc (.cells cs T)) := heap_alloc_new w _
theorem Blk.new' (w : World) (cs : Array Value) (T : TypeId) {b : Nat} (hb : b = w.heap.size) : Blk b cs T (w.alloc (.cells cs T)) := by subst hb; exact heap_alloc_new w _
theorem Blk.setOther (h : Blk b cs T w) {a : Nat} (ha : b ≠ a) (j : Nat) (u : Value) : Blk b cs T (w.setCell ⟨a, j, none⟩ u) := (Below.heap_setCell _ _ _ _ ha).trans h
theorem Blk.drewN (h : Blk b cs T w) (n : Nat) : Blk b cs T (w.drewN n) := h
theorem Blk.alloc (h : Blk b cs T w) (o : Obj) : Blk b cs T (w.alloc o) := (heap_alloc_old w o h.lt).trans h
/-- A block that is a row of its own. -/
theorem Blk.owns (h : Blk b cs T w) {base size n : Nat} (hb : base ≤ b) (hn : n ≤ maxLen) (hs : cs.size = n * size) : w.ownsRow base T size (.slice (some ⟨b, 0, none⟩) n n) n cs.toList :=
  ⟨by rw [Array.length_toList, hs], .inr ⟨b, n, cs, rfl, hb, h, Nat.le_refl _, hn, hs, by rw [← hs, ← Array.length_toList, List.take_length]⟩⟩
end

abbrev I (n : Int) : Value := .int .i64 n
abbrev ints (l : List Nat) : List Value := List.map (fun n : Nat => I (n : Int)) l
/-- A slice of numbers in a block of its own, at or past base. -/
abbrev Nums (w : World) (base : Nat) (v : Value) (l : List Nat) : Prop := w.ownsRow base 3 1 v l.length (ints l)
end Go.Proofs.YtepnjhbolaebmaaDoor
