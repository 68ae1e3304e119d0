/-
  A graph of numbers and the walk through it, plainly; graphs in memory, of few nodes.
-/
import Derived.Test.YtomfmkddfgpmkaaFGlue
import Derived.Test.YtomfmkddfgpmkaaFFacts
import Derived.Test.YtomfmkddfgpmkaaFLp2
namespace Go.Proofs.Ytomfmkddfgpmkaa
open Go Go.RowKit Fl

namespace Fl
def fuelG (G : List (List Nat)) : Nat := rest G (start G) + 1
def wlk (G : List (List Nat)) : Ws := (walkF G (fuelG G)).getD (start G)
theorem wlk_inv {G : List (List Nat)} (hG : GOk G) (hn : 0 < G.length) : walkF G (fuelG G) = some (wlk G) ∧ (∃ P, InvP G (wlk G) P) ∧ WsOk G (wlk G) ∧ (wlk G).cur = -1 := by
  obtain ⟨s, P, h1, h2, h3, h4⟩ := walk_inv hG hn (k := fuelG G) (Nat.lt_succ_self _)
  have e : wlk G = s := by unfold wlk; rw [h1]; rfl
  rw [e]
  exact ⟨h1, ⟨P, h2⟩, h3, h4⟩
theorem sum_le' (f : Nat → Nat) (R : Nat) (h : ∀ i, f i ≤ R) : ∀ n, ((List.range n).map f).sum ≤ n * R
  | 0 => by simp
  | n + 1 => by
    rw [List.range_succ, List.map_append, List.sum_append, Nat.succ_mul]
    have := sum_le' f R h n
    have := h n
    simp
    omega
theorem fuel_small {G : List (List Nat)} (hn : G.length ≤ 24) (hr : ∀ i, (row G i).length ≤ 1000) : fuelG G ≤ 5000000 := by
  unfold fuelG rest restE
  have h1 := sum_le' (fun i => (row G i).length - (start G).nxt.getD i 0) 1000 (fun i => Nat.le_trans (Nat.sub_le _ _) (hr i)) G.length
  have h2 : G.length * 1000 ≤ 24 * 1000 := Nat.mul_le_mul_right _ hn
  omega
theorem left_ne {G : List (List Nat)} {s : Ws} {P : List Nat} (h : InvP G s P) (hc : s.cur = -1) : s.left ≠ [] := by
  rcases h.cr with ⟨_, h1⟩ | ⟨c, _, h1, _⟩
  · intro e
    have := h1 0 h.ne
    rw [e] at this
    simp at this
  · omega
theorem left_le {G : List (List Nat)} {s : Ws} {P : List Nat} (h : InvP G s P) : s.left.length ≤ G.length := nodup_lt h.ld (fun x hx => h.lo x (h.ls x hx).1)
/-- The order of a graph; who is next above; its loops. -/
def orderL (G : List (List Nat)) : List Nat := if G.length = 0 then [] else (wlk G).left.reverse
def abvL (G : List (List Nat)) : List Int := if G.length = 0 then [] else aboveL (wlk G).ent (nearL G (wlk G)) G.length (wlk G).ent.length
def lpsL (G : List (List Nat)) : List (Nat × List Nat) := if G.length = 0 then [] else loopL (intoF G) G.length (overB (forP (abF (abvL G)) G.length (orderL G)) (forS (abF (abvL G)) G.length (orderL G))) G.length
theorem natG_len (Z : List (List Int)) : (natG Z).length = Z.length := by simp [natG]
theorem natG_row (Z : List (List Int)) {i : Nat} (h : i < Z.length) : row (natG Z) i = Z[i].map Int.toNat := by
  unfold row natG
  rw [List.getD_eq_getElem?_getD, List.getElem?_map, List.getElem?_eq_getElem h]
  rfl
theorem row_out (G : List (List Nat)) {i : Nat} (h : G.length ≤ i) : row G i = [] := by
  unfold row
  rw [List.getD_eq_getElem?_getD, List.getElem?_eq_none h]
  rfl
theorem errF_in {Z : List (List Int)} (he : errF Z = 0) {i : Nat} (hi : i < Z.length) {j : Nat} (hj : j < Z[i].length) : 0 ≤ Z[i][j] ∧ Z[i][j] < (Z.length : Int) := by
  unfold errF at he
  split at he
  · exact absurd he (by decide)
  · split at he
    · rename_i h
      have h1 := List.all_eq_true.1 (List.all_eq_true.1 h _ (List.getElem_mem hi)) _ (List.getElem_mem hj)
      unfold inB at h1
      simpa using h1
    · exact absurd he (by decide)
theorem errF_or (Z : List (List Int)) : errF Z = 0 ∨ errF Z = 2 ∨ errF Z = 3 := by
  unfold errF
  split
  · exact Or.inr (Or.inl rfl)
  · split
    · exact Or.inl rfl
    · exact Or.inr (Or.inr rfl)
theorem natG_ok {Z : List (List Int)} (he : errF Z = 0) : GOk (natG Z) := by
  intro i x hx
  rw [natG_len]
  by_cases hi : i < Z.length
  · rw [natG_row Z hi] at hx
    obtain ⟨y, hy, rfl⟩ := List.mem_map.1 hx
    obtain ⟨j, hj, rfl⟩ := List.getElem_of_mem hy
    have := errF_in he hi hj
    omega
  · rw [row_out _ (by rw [natG_len]; omega)] at hx
    simp at hx
end Fl

/-- Few nodes, few ways. -/
def TameZ (Z : List (List Int)) : Prop := Z.length ≤ 24 ∧ ∀ i (h : i < Z.length), Z[i].length ≤ 1000
theorem TameZ.row {Z : List (List Int)} (h : TameZ Z) (i : Nat) : (row (natG Z) i).length ≤ 1000 := by
  by_cases hi : i < Z.length
  · rw [natG_row Z hi, List.length_map]
    exact h.2 i hi
  · rw [row_out _ (by rw [natG_len]; omega)]
    simp
theorem gr_nat {w : World} {bg : Nat} {Z : List (List Int)} (h : GrZ w bg Z) (he : errF Z = 0) : Gr w bg (natG Z) := by
  refine ⟨h.lt, fun i hi => ?_⟩
  rw [natG_len] at hi
  obtain ⟨v, h1, a, c, e, h2⟩ := h.row i hi
  refine ⟨v, h1, a, c, by rw [natG_row Z hi, List.length_map, e], fun j hj => ?_⟩
  have hj' : j < Z[i].length := by rw [natG_row Z hi, List.length_map] at hj; exact hj
  obtain ⟨g, q1, q2, q3⟩ := h2 j hj'
  refine ⟨g, q1, q2, ?_⟩
  have e2 : ((row (natG Z) i)[j] : Int) = Z[i][j] := by
    have e3 : (row (natG Z) i)[j]? = (Z[i].map Int.toNat)[j]? := by rw [natG_row Z hi]
    rw [List.getElem?_eq_getElem hj, List.getElem?_map, List.getElem?_eq_getElem hj'] at e3
    have e4 : (row (natG Z) i)[j] = Z[i][j].toNat := by simpa using e3
    have := errF_in he hi hj'
    rw [e4]
    omega
  rw [q3, e2]
theorem GrZ.below {w w' : World} {bg : Nat} {Z : List (List Int)} (h : GrZ w bg Z) (hb : Below w.heap.size w w') : GrZ w' bg Z :=
  ⟨Nat.lt_of_lt_of_le h.lt hb.size, fun i hi => by
    obtain ⟨v, h1, a, c, e, h2⟩ := h.row i hi
    exact ⟨v, cell_below hb h.lt h1, a, c, e, fun j hj => by
      obtain ⟨g, q1, q2, q3⟩ := h2 j hj
      exact ⟨g, q1, Nat.lt_of_lt_of_le q2 hb.size, cell_below hb q2 q3⟩⟩⟩
end Go.Proofs.Ytomfmkddfgpmkaa
