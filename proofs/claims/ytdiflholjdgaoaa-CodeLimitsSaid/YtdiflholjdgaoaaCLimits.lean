/-
  CodeLimits: so much code and no more: the statement's own body says true.
-/
import Derived.Test.YtdiflholjdgaoaaCPlain
import Derived.Laws.MakeOwn
namespace Go.Proofs.Ytdiflholjdgaoaa
open Go Go.RowKit Go.Maps Cd

abbrev ksL : Nat → Nat := fun j => if j = 0 then 30 else 40
theorem noteL (k : Nat) : noteF ksL (k + 1) = fun u => if u = 0 then some ((0 : Int), (0 : Int)) else none := by
  induction k with
  | zero => rfl
  | succ k ih =>
    rw [noteF_print (show ksL (k + 1) = 40 by show (if _ then _ else _) = _; rw [if_neg (by omega)]), ih]
theorem noteL_ok (vals : Int) (k : Nat) (hv : 1 ≤ vals) : ∀ j, j < k → ksL j ≠ 40 → noteF ksL j (dstOf (ksL j)) = none ∧ 0 ≤ dstOf (ksL j) ∧ dstOf (ksL j) ≤ vals - 1 := by
  intro j hj hne
  obtain rfl : j = 0 := by
    rcases Nat.eq_zero_or_pos j with h | h
    · exact h
    · exact absurd (show ksL j = 40 by show (if _ then _ else _) = _; rw [if_neg (by omega)]) hne
  refine ⟨rfl, by decide, ?_⟩
  show (0 : Int) ≤ vals - 1
  omega
theorem noteL_zero (k : Nat) (x : Int) : ((noteF ksL (k + 1) x).getD (0, 0)).1 = 0 := by
  rw [noteL]
  show ((if x = 0 then some ((0 : Int), (0 : Int)) else none).getD (0, 0)).1 = 0
  split <;> rfl
theorem usesL (k : Nat) : usesB (noteF ksL (k + 1)) ksL (k + 1) = true := by
  rw [useB_end, noteL]
  · unfold madeB
    simp
  · intro j hj
    rw [noteL]
    unfold useB madeB
    rcases Nat.eq_zero_or_pos j with h | h
    · subst h; rfl
    · rw [show ksL j = 40 by show (if _ then _ else _) = _; rw [if_neg (by omega)]]
      simp [argOf]
      omega
theorem checkL (k : Nat) : checkI ksL (k + 1) 3 = if 40000 < k + 1 then 15 else 0 := by
  unfold checkI
  rw [usesL]
  rfl
theorem checkV (vals : Int) (hv : 1 ≤ vals) : checkI ks1 1 vals = if vals ≤ 60000 then 0 else 3 := by
  unfold checkI
  rw [if_neg (by decide), show usesB (noteF ks1 1) ks1 1 = true by decide]
  by_cases h : vals ≤ 60000
  · rw [if_pos h, decide_eq_true ⟨by omega, h⟩]; rfl
  · rw [if_neg h, decide_eq_false (fun hh => h hh.2)]; rfl

abbrev instZ : Array Value := #[.int .u8 0, I 0, .slice none 0 0, I 0, I 0, .slice none 0 0]
theorem mkInsts (k : Nat) (hk : k ≤ 50000) (u : World) : (Instr.makeSlice 66 (I (k : Int)) (I (k : Int))).run Try.prog u = .ok (.slice (some ⟨u.heap.size, 0, none⟩) k k) (u.alloc (.cells (madeCells instZ (k * 6)) 72)) := by
  obtain ⟨i0, hi, hz0, hz1, hz2⟩ := info_parts info_inst
  have h := run_makeSlice (P := Try.prog) (w := u) 66 72 i0 _ Try.underlying66 hi hz0 .i64 .i64 (k : Int) (k : Int) (by omega) (Int.le_refl _) (by rw [hz1]; simp; omega) (by rw [hz2]; simp; omega) (by omega)
  rw [hz1] at h
  simp at h
  exact h

/-- A print in its place. -/
def PrintAt (w : World) (bi i : Nat) : Prop := ∃ ba, ba ≠ bi ∧ Blk ba #[I 0] 3 w ∧ ∀ m, m < 6 → w.cell? ⟨bi, i * 6 + m, none⟩ = (instL 40 (.slice (some ⟨ba, 0, none⟩) 1 1))[m]?
def PRel (bi k : Nat) (w0 : World) (i : Value) (wr : World) : Prop := ∃ (j : Nat) (cur : Array Value), j ≤ k ∧ i = I (j : Int) ∧ Blk bi cur 72 wr ∧ cur.size = k * 6 ∧ (∀ i, i < j → PrintAt wr bi i) ∧ w0.grownBy wr (some bi)
def put6 (w : World) (b o : Nat) (v0 v1 v2 v3 v4 v5 : Value) : World := (((((w.setCell ⟨b, o, none⟩ v0).setCell ⟨b, o + 1, none⟩ v1).setCell ⟨b, o + 2, none⟩ v2).setCell ⟨b, o + 3, none⟩ v3).setCell ⟨b, o + 4, none⟩ v4).setCell ⟨b, o + 5, none⟩ v5

def set6A (cur : Array Value) (o : Nat) (v0 v1 v2 v3 v4 v5 : Value) : Array Value := (((((cur.setIfInBounds o v0).setIfInBounds (o + 1) v1).setIfInBounds (o + 2) v2).setIfInBounds (o + 3) v3).setIfInBounds (o + 4) v4).setIfInBounds (o + 5) v5
theorem set6A_size (cur : Array Value) (o : Nat) (v0 v1 v2 v3 v4 v5 : Value) : (set6A cur o v0 v1 v2 v3 v4 v5).size = cur.size := by unfold set6A; simp
theorem set6A_lt (cur : Array Value) (o : Nat) (v0 v1 v2 v3 v4 v5 : Value) (x : Nat) (h : x < o ∨ o + 6 ≤ x) : (set6A cur o v0 v1 v2 v3 v4 v5)[x]? = cur[x]? := by
  unfold set6A
  rw [Array.getElem?_setIfInBounds_ne (by omega), Array.getElem?_setIfInBounds_ne (by omega), Array.getElem?_setIfInBounds_ne (by omega), Array.getElem?_setIfInBounds_ne (by omega), Array.getElem?_setIfInBounds_ne (by omega), Array.getElem?_setIfInBounds_ne (by omega)]
theorem set6A_at (cur : Array Value) (o : Nat) (v0 v1 v2 v3 v4 v5 : Value) (ho : o + 6 ≤ cur.size) (m : Nat) (hm : m < 6) : (set6A cur o v0 v1 v2 v3 v4 v5)[o + m]? = [v0, v1, v2, v3, v4, v5][m]? := by
  have h0 : o < cur.size := by omega
  have h1 : o + 1 < cur.size := by omega
  have h2 : o + 2 < cur.size := by omega
  have h3 : o + 3 < cur.size := by omega
  have h4 : o + 4 < cur.size := by omega
  have h5 : o + 5 < cur.size := by omega
  unfold set6A
  match m, hm with
  | 0, _ => simp [Array.getElem?_setIfInBounds, h0, h1, h2, h3, h4, h5]
  | 1, _ => simp [Array.getElem?_setIfInBounds, h0, h1, h2, h3, h4, h5]
  | 2, _ => simp [Array.getElem?_setIfInBounds, h0, h1, h2, h3, h4, h5]
  | 3, _ => simp [Array.getElem?_setIfInBounds, h0, h1, h2, h3, h4, h5]
  | 4, _ => simp [Array.getElem?_setIfInBounds, h0, h1, h2, h3, h4, h5]
  | 5, _ => simp [Array.getElem?_setIfInBounds, h0, h1, h2, h3, h4, h5]
  | n + 6, h => exact absurd h (by omega)
theorem set6A_is (cur : Array Value) (o : Nat) (v0 v1 v2 v3 v4 v5 : Value) (vs : List Value) (hvs : [v0, v1, v2, v3, v4, v5] = vs) (ho : o + 6 ≤ cur.size) (m : Nat) (hm : m < 6) : (set6A cur o v0 v1 v2 v3 v4 v5)[o + m]? = vs[m]? := by
  rw [← hvs]; exact set6A_at cur o v0 v1 v2 v3 v4 v5 ho m hm
theorem inst40 (av : Value) : [.int .u8 40, I (-1), av, I 0, I 0, .slice none 0 0] = instL 40 av := rfl
theorem inst30 : [.int .u8 30, I 0, .slice none 0 0, I 7, I 0, .slice none 0 0] = instL 30 (.slice none 0 0) := rfl
theorem Blk.cellE {b : Nat} {cs : Array Value} {T : TypeId} {w : World} (h : Blk b cs T w) (x : Nat) : w.cell? ⟨b, x, none⟩ = cs[x]? := by unfold Blk at h; simp [World.cell?, h]
theorem Blk.put6 {b : Nat} {cs : Array Value} {T : TypeId} {w : World} (h : Blk b cs T w) (o : Nat) (v0 v1 v2 v3 v4 v5 : Value) : Blk b (set6A cs o v0 v1 v2 v3 v4 v5) T (Proofs.Ytdiflholjdgaoaa.put6 w b o v0 v1 v2 v3 v4 v5) :=
  (((((h.set o v0).set (o + 1) v1).set (o + 2) v2).set (o + 3) v3).set (o + 4) v4).set (o + 5) v5
theorem put6_other (w : World) (b o : Nat) (v0 v1 v2 v3 v4 v5 : Value) (x : Nat) (hx : x ≠ b) : (put6 w b o v0 v1 v2 v3 v4 v5).heap[x]? = w.heap[x]? :=
  (Below.heap_setCell _ _ _ _ hx).trans ((Below.heap_setCell _ _ _ _ hx).trans ((Below.heap_setCell _ _ _ _ hx).trans ((Below.heap_setCell _ _ _ _ hx).trans ((Below.heap_setCell _ _ _ _ hx).trans (Below.heap_setCell _ _ _ _ hx)))))
theorem put6_size (w : World) (b o : Nat) (v0 v1 v2 v3 v4 v5 : Value) : (put6 w b o v0 v1 v2 v3 v4 v5).heap.size = w.heap.size := by unfold put6; simp [World.setCell]

theorem grown_set (w : World) (b o : Nat) (v : Value) : w.grownBy (w.setCell ⟨b, o, none⟩ v) (some b) := ⟨rfl, rfl, rfl, by simp [World.setCell], fun k _ hne => Below.heap_setCell _ _ _ _ (fun e => hne (by rw [e]))⟩
theorem put6_grown (w : World) (b o : Nat) (v0 v1 v2 v3 v4 v5 : Value) : w.grownBy (put6 w b o v0 v1 v2 v3 v4 v5) (some b) :=
  grown_trans (grown_trans (grown_trans (grown_trans (grown_trans (grown_set _ _ _ _) (grown_set _ _ _ _)) (grown_set _ _ _ _)) (grown_set _ _ _ _)) (grown_set _ _ _ _)) (grown_set _ _ _ _)
theorem print_step {bi k j : Nat} {w0 wr : World} {cur : Array Value} (hlt : j < k) (hc : Blk bi cur 72 wr) (hcs : cur.size = k * 6) (hpr : ∀ i, i < j → PrintAt wr bi i) (hgr : w0.grownBy wr (some bi)) :
    PRel bi k w0 (I ((j : Int) + 1)) ((put6 wr bi (j * 6) (.int .u8 40) (I (-1)) (.slice (some ⟨wr.heap.size, 0, none⟩) 1 1) (I 0) (I 0) (.slice none 0 0)).alloc (.cells #[I 0] 3)) := by
  have hp := hc.put6 (j * 6) (.int .u8 40) (I (-1)) (.slice (some ⟨wr.heap.size, 0, none⟩) 1 1) (I 0) (I 0) (.slice none 0 0)
  have hsz := put6_size wr bi (j * 6) (.int .u8 40) (I (-1)) (.slice (some ⟨wr.heap.size, 0, none⟩) 1 1) (I 0) (I 0) (.slice none 0 0)
  have hp' := hp.alloc (.cells #[I 0] 3)
  have hl := hc.lt
  refine ⟨j + 1, _, hlt, rfl, hp', by rw [set6A_size]; exact hcs, fun i hi => ?_, ?_⟩
  · rcases Nat.lt_or_ge i j with h | h
    · obtain ⟨ba, h1, h2, h3⟩ := hpr i h
      refine ⟨ba, h1, Blk.alloc ((put6_other _ _ _ _ _ _ _ _ _ ba h1).trans h2) _, fun m hm => ?_⟩
      exact (hp'.cellE (i * 6 + m)).trans ((set6A_lt cur (j * 6) _ _ _ _ _ _ (i * 6 + m) (by omega)).trans ((hc.cellE (i * 6 + m)).symm.trans (h3 m hm)))
    · obtain rfl : i = j := by omega
      have hlt' : i * 6 + 6 ≤ cur.size := by omega
      refine ⟨wr.heap.size, by omega, Blk.new' _ _ _ hsz.symm, fun m hm => ?_⟩
      rw [hp'.cellE (i * 6 + m)]
      exact set6A_is cur (i * 6) _ _ _ _ _ _ _ (inst40 _) hlt' m hm
  · exact grown_trans hgr (grown_trans (put6_grown _ _ _ _ _ _ _ _ _) (World.grownBy_alloc _ _ _))

end Go.Proofs.Ytdiflholjdgaoaa
