/-
  The loops of a graph, plainly and in memory.
-/
import Derived.Test.YtomfmkddfgpmkaaFBack
import Derived.Test.YtomfmkddfgpmkaaFOver
namespace Go.Proofs.Ytomfmkddfgpmkaa
open Go Go.RowKit Fl

namespace Fl
/-- Those that go on to a head from below it. -/
def endsF (F : List (List Nat)) (ov : Nat → Nat → Bool) (h : Nat) : List Nat := (row F h).filter (fun n => ov h n)
/-- The loop of a head, if there is one. -/
def loopAt (F : List (List Nat)) (N : Nat) (ov : Nat → Nat → Bool) (h : Nat) : Option (Nat × List Nat) :=
  if endsF F ov h = [] then none else (bkF F (muB N N (endsF F ov h) [h] + 1) (endsF F ov h) [h]).map (fun sn => (h, sortN sn))
/-- The loops of the first heads. -/
def loopL (F : List (List Nat)) (N : Nat) (ov : Nat → Nat → Bool) (j : Nat) : List (Nat × List Nat) := (List.range j).filterMap (loopAt F N ov)
theorem loopL_none {F : List (List Nat)} {N : Nat} {ov : Nat → Nat → Bool} {j : Nat} (h : endsF F ov j = []) : loopL F N ov (j + 1) = loopL F N ov j := by
  unfold loopL
  rw [List.range_succ, List.filterMap_append]
  simp [loopAt, h]
theorem loopL_some {F : List (List Nat)} {N : Nat} {ov : Nat → Nat → Bool} {j : Nat} {sn : List Nat} (h : endsF F ov j ≠ []) (hb : bkF F (muB N N (endsF F ov j) [j] + 1) (endsF F ov j) [j] = some sn) : loopL F N ov (j + 1) = loopL F N ov j ++ [(j, sortN sn)] := by
  unfold loopL
  rw [List.range_succ, List.filterMap_append]
  simp [loopAt, h, hb]
theorem loopL_len (F : List (List Nat)) (N : Nat) (ov : Nat → Nat → Bool) (j : Nat) : (loopL F N ov j).length ≤ j := by
  unfold loopL
  have := List.length_filterMap_le (loopAt F N ov) (List.range j)
  simpa using this
/-- How loops lie as cells. -/
def cellsL : List (Nat × List Nat) → List Value → List Value
  | p :: r, v :: vs => I (p.1 : Int) :: v :: cellsL r vs
  | _, _ => []
theorem cellsL_app : ∀ (ls : List (Nat × List Nat)) (vs : List Value) (p : Nat × List Nat) (v : Value), vs.length = ls.length → cellsL (ls ++ [p]) (vs ++ [v]) = cellsL ls vs ++ [I (p.1 : Int), v]
  | [], [], _, _, _ => rfl
  | [], _ :: _, _, _, h => by simp at h
  | _ :: _, [], _, _, h => by simp at h
  | q :: r, u :: us, p, v, h => by
    show I (q.1 : Int) :: u :: cellsL (r ++ [p]) (us ++ [v]) = _
    rw [cellsL_app r us p v (by simpa using h)]
    rfl
theorem cellsL_len : ∀ (ls : List (Nat × List Nat)) (vs : List Value), vs.length = ls.length → (cellsL ls vs).length = ls.length * 2
  | [], [], _ => rfl
  | [], _ :: _, h => by simp at h
  | _ :: _, [], h => by simp at h
  | q :: r, u :: us, h => by
    show (cellsL r us).length + 1 + 1 = (r.length + 1) * 2
    rw [cellsL_len r us (by simpa using h)]
    omega
theorem cellsL_get : ∀ (ls : List (Nat × List Nat)) (vs : List Value) (i : Nat), vs.length = ls.length → ∀ (h : i < ls.length) (h' : i < vs.length), (cellsL ls vs)[2 * i]? = some (I (ls[i].1 : Int)) ∧ (cellsL ls vs)[2 * i + 1]? = some vs[i]
  | [], _, _, _, h, _ => absurd h (by simp)
  | _ :: _, [], _, _, _, h' => absurd h' (by simp)
  | _ :: _, _ :: _, 0, _, _, _ => ⟨rfl, rfl⟩
  | q :: r, u :: us, i + 1, hl, h, h' => by
    have := cellsL_get r us i (by simpa using hl) (by simpa using h) (by simpa using h')
    refine ⟨?_, ?_⟩
    · rw [show 2 * (i + 1) = 2 * i + 1 + 1 by omega]
      exact this.1
    · rw [show 2 * (i + 1) + 1 = 2 * i + 1 + 1 + 1 by omega]
      exact this.2
end Fl

/-- Loops in memory. -/
def LoopsW (base : Nat) (ls : List (Nat × List Nat)) (v : Value) (W : World) : Prop :=
  ∃ vs : List Value, vs.length = ls.length ∧ W.ownsRow base 42 2 v ls.length (cellsL ls vs) ∧ ∀ i (h : i < ls.length) (h' : i < vs.length), Nums W base vs[i] ls[i].2 ∧ (vs[i].ownBlock = none ∨ vs[i].ownBlock ≠ v.ownBlock)
theorem LoopsW.below {base : Nat} {ls : List (Nat × List Nat)} {v : Value} {W W' : World} (h : LoopsW base ls v W) (hb : Below W.heap.size W W') : LoopsW base ls v W' := by
  obtain ⟨vs, h1, h2, h3⟩ := h
  exact ⟨vs, h1, own_below h2 hb, fun i hi hi' => ⟨own_below (h3 i hi hi').1 hb, (h3 i hi hi').2⟩⟩
theorem LoopsW.lower {base base' : Nat} {ls : List (Nat × List Nat)} {v : Value} {W : World} (h : LoopsW base ls v W) (hb : base' ≤ base) : LoopsW base' ls v W := by
  obtain ⟨vs, h1, h2, h3⟩ := h
  exact ⟨vs, h1, own_lower hb h2, fun i hi hi' => ⟨own_lower hb (h3 i hi hi').1, (h3 i hi hi').2⟩⟩
theorem LoopsW.start (base : Nat) (W : World) : LoopsW base [] (.slice none 0 0) W := ⟨[], rfl, World.ownsRow_nil _ _ _ _, fun i hi => absurd hi (by simp)⟩
/-- One more. -/
theorem LoopsW.app {base : Nat} {ls : List (Nat × List Nat)} {v u nv : Value} {W W4 : World} {o : Obj} {p : Nat × List Nat} (h : LoopsW base ls v W) (hn : Nums W base nv p.2) (hne : nv.ownBlock = none ∨ nv.ownBlock ≠ v.ownBlock) (hg : (W.alloc o).grownBy W4 v.ownBlock)
    (ho : ∀ vs : List Value, vs.length = ls.length → W.ownsRow base 42 2 v ls.length (cellsL ls vs) → W4.ownsRow base 42 2 u (ls.length + 1) (cellsL ls vs ++ [I (p.1 : Int), nv])) (hat : u.ownBlock = v.ownBlock ∨ u.ownBlock = some (W.alloc o).heap.size) : LoopsW base (ls ++ [p]) u W4 := by
  obtain ⟨vs, h1, h2, h3⟩ := h
  have hap : ∀ {x : Value} {l : List Nat}, Nums W base x l → (x.ownBlock = none ∨ x.ownBlock ≠ v.ownBlock) → Nums W4 base x l ∧ (x.ownBlock = none ∨ x.ownBlock ≠ u.ownBlock) := fun {x l} hx hxn => by
    refine ⟨World.ownsRow.kept (hx.alloc o) hg hxn, ?_⟩
    rcases hat with e | e
    · rw [e]; exact hxn
    · cases hxb : x.ownBlock with
      | none => exact Or.inl rfl
      | some g =>
        right
        rw [e]
        have := (hx.lt g hxb).2
        simp
        omega
  refine ⟨vs ++ [nv], by simp [h1], ?_, fun i hi hi' => ?_⟩
  · rw [List.length_append, cellsL_app ls vs p nv h1]
    exact ho vs h1 h2
  · by_cases hl : i < ls.length
    · rw [List.getElem_append_left (by omega), List.getElem_append_left hl]
      exact hap (h3 i hl (by omega)).1 (h3 i hl (by omega)).2
    · have e : i = ls.length := by simp at hi; omega
      subst e
      rw [List.getElem_append_right (by omega), List.getElem_append_right (by omega)]
      simp only [h1, Nat.sub_self, List.getElem_singleton]
      exact hap hn hne
end Go.Proofs.Ytomfmkddfgpmkaa
