/-
  A list turned round.
-/
import Derived.Test.YtgblpfahgpneoaaPtM
import Derived.Laws.OwnMore
namespace Go.Proofs.Ytgblpfahgpneoaa
open Go Go.RowKit

theorem getD_of {α : Type} (l : List α) (j : Nat) (d : α) (h : j < l.length) : l.getD j d = l[j] := by rw [List.getD_eq_getElem?_getD, List.getElem?_eq_getElem h]; rfl
theorem grown_trans' {w w1 w2 : World} {b : Nat} (h : w.grownBy w1 (some b)) (h' : w1.grownBy w2 (some b)) : w.grownBy w2 (some b) :=
  ⟨h'.os.trans h.os, h'.tape.trans h.tape, h'.output.trans h.output, Nat.le_trans h.size h'.size, fun i hi hne => (h'.block i (Nat.lt_of_lt_of_le hi h.size) hne).trans (h.block i hi hne)⟩
namespace Fl
def RevAt (l m : List Nat) (i : Nat) : Prop := m.length = l.length ∧ ∀ q, q < l.length → m.getD q 0 = if q < i ∨ l.length - 1 - q < i then l.getD (l.length - 1 - q) 0 else l.getD q 0
theorem rev_start (l : List Nat) : RevAt l l 0 := ⟨rfl, fun q _ => by rw [if_neg (by omega)]⟩
theorem getD_set (m : List Nat) (j x q : Nat) (hj : j < m.length) : (m.set j x).getD q 0 = if q = j then x else m.getD q 0 := by
  rw [List.getD_eq_getElem?_getD, List.getElem?_set]
  by_cases h : j = q
  · subst h; rw [if_pos rfl, if_pos hj, if_pos rfl]; rfl
  · rw [if_neg h, if_neg (fun e => h e.symm), List.getD_eq_getElem?_getD]
theorem rev_step {l m : List Nat} {i : Nat} (h : RevAt l m i) (hi : i < l.length - 1 - i) : RevAt l ((m.set i (m.getD (l.length - 1 - i) 0)).set (l.length - 1 - i) (m.getD i 0)) (i + 1) := by
  obtain ⟨h1, h2⟩ := h
  refine ⟨by simp [h1], fun q hq => ?_⟩
  rw [getD_set _ _ _ _ (by simp [h1]; omega), getD_set _ _ _ _ (by omega)]
  by_cases e1 : q = l.length - 1 - i
  · rw [if_pos e1, h2 i (by omega), if_neg (by omega), if_pos (by omega)]
    congr 1
    omega
  · rw [if_neg e1]
    by_cases e2 : q = i
    · rw [if_pos e2, h2 (l.length - 1 - i) (by omega), if_neg (by omega), if_pos (by omega), e2]
    · rw [if_neg e2, h2 q hq]
      by_cases e3 : q < i ∨ l.length - 1 - q < i
      · rw [if_pos e3, if_pos (by omega)]
      · rw [if_neg e3, if_neg (by omega)]
theorem rev_end {l m : List Nat} {i : Nat} (h : RevAt l m i) (hi : ¬ i < l.length - 1 - i) : m = l.reverse := by
  obtain ⟨h1, h2⟩ := h
  apply List.ext_getElem
  · simp [h1]
  · intro q ha hb
    have hq : q < l.length := by omega
    have h3 := h2 q hq
    rw [getD_of m q 0 ha] at h3
    rw [h3, List.getElem_reverse]
    by_cases e : q < i ∨ l.length - 1 - q < i
    · rw [if_pos e, getD_of l _ 0 (by omega)]
    · rw [if_neg e, getD_of l q 0 hq]
      congr 1
      omega
end Fl

theorem ints_set (l : List Nat) (j x : Nat) : (ints l).set j (I (x : Int)) = ints (l.set j x) := by simp [List.map_set]
def RevRel (base g cap n : Nat) (l : List Nat) (w0 : World) (iv jv : Value) (wr : World) : Prop :=
  ∃ (i : Nat) (m : List Nat), i ≤ n ∧ iv = I (i : Int) ∧ jv = I ((n : Int) - 1 - (i : Int)) ∧ Fl.RevAt l m i ∧ wr.ownsRow base 3 1 (.slice (some ⟨g, 0, none⟩) n cap) n (ints m) ∧ w0.grownBy wr (some g)

set_option maxRecDepth 100000 in
set_option maxHeartbeats 1600000 in
theorem reverse_any (base g cap : Nat) (l : List Nat) (n : Nat) (hn : n = l.length) (hl : n ≤ 10000000) (W : World) (h : W.ownsRow base 3 1 (.slice (some ⟨g, 0, none⟩) n cap) n (ints l)) :
    Calls Try.prog 20 #[.slice (some ⟨g, 0, none⟩) n cap] W fun e w' => e = .returned (.tuple #[]) ∧ w'.ownsRow base 3 1 (.slice (some ⟨g, 0, none⟩) n cap) n (ints l.reverse) ∧ W.grownBy w' (some g) := by
  have H := Lib.hid (And.intro h hn)
  clear h hn
  go_enter Try.func20, Try.ntmps20
  go_wp2_with (fail)
  go_loopw [2, 3] (fun iv jv wr => RevRel base g cap n l W iv jv wr) (fun iv _ _ => n - (intOf iv).toNat)
  case atStart => exact ⟨0, l, Nat.zero_le _, rfl, by simp, Fl.rev_start l, H.out.1, ⟨rfl, rfl, rfl, Nat.le_refl _, fun _ _ _ => rfl⟩⟩
  case round =>
    obtain ⟨i, m, hi, rfl, rfl, hrev, ho, hg⟩ := hrel
    have hnl := H.out.2
    have hml : m.length = n := by rw [hnl]; exact hrev.1
    by_cases hlt : i < n - 1 - i
    · have c0 := nums_get ho hml i (by omega)
      have c1 := nums_get ho hml (n - 1 - i) (by omega)
      obtain ⟨j, hj⟩ : ∃ j, j = n - 1 - i := ⟨_, rfl⟩
      have hjI : (n : Int) - 1 - (i : Int) = (j : Int) := by omega
      have hst : W.grownBy ((wr.setCell ⟨g, i, none⟩ (I ((m.getD j 0 : Nat) : Int))).setCell ⟨g, j, none⟩ (I ((m.getD i 0 : Nat) : Int))) (some g) ∧ ((wr.setCell ⟨g, i, none⟩ (I ((m.getD j 0 : Nat) : Int))).setCell ⟨g, j, none⟩ (I ((m.getD i 0 : Nat) : Int))).ownsRow base 3 1 (.slice (some ⟨g, 0, none⟩) n cap) n (ints ((m.set i (m.getD j 0)).set j (m.getD i 0))) := by
        obtain ⟨a1, a2⟩ := ho.stored i (I ((m.getD j 0 : Nat) : Int))
        obtain ⟨a3, a4⟩ := a1.stored j (I ((m.getD i 0 : Nat) : Int))
        rw [ints_set, ints_set] at a3
        exact ⟨grown_trans' hg (grown_trans' a2 a4), a3⟩
      have hrs := Fl.rev_step hrev (by rw [← hnl]; exact hlt)
      rw [← hnl, ← hj] at hrs
      rw [← hj] at c1
      have f0 := ho.frozenAt i
      have f1 := ho.frozenAt j
      have hij : i ≠ j := by omega
      have HN := Lib.hid (And.intro hst hrs)
      obtain ⟨y0, hy0⟩ : ∃ y, y = m.getD i 0 := ⟨_, rfl⟩
      obtain ⟨y1, hy1⟩ : ∃ y, y = m.getD j 0 := ⟨_, rfl⟩
      rw [← hy0] at c0
      rw [← hy1] at c1
      rw [← hy0, ← hy1] at HN
      have d0 : (0 : Int) ≤ (i : Int) := by omega
      have d1 : (i : Int) < (n : Int) := by omega
      have d2 : (0 : Int) ≤ (j : Int) := by omega
      have d3 : (j : Int) < (n : Int) := by omega
      have d4 : decide (i < j) = true := by simp; omega
      rw [hjI]
      have HJ := Lib.hid (And.intro hjI (And.intro hlt (And.intro hi hj)))
      clear hst hrs hrev ho hg hnl hml hjI hy0 hy1 hj hlt
      go_wp2_with (fail)
      go_region
      have FIN := Lib.hid (show RevRel base g cap n l W (I ((i : Int) + 1)) (I ((j : Int) - 1)) ((wr.setCell ⟨g, i, none⟩ (I (y1 : Int))).setCell ⟨g, j, none⟩ (I (y0 : Int))).drew from
        ⟨i + 1, _, by have := HJ.out.2.1; omega, rfl, by have := HJ.out.1; congr 1; omega, HN.out.2, HN.out.1.2, ⟨HN.out.1.1.os, HN.out.1.1.tape, HN.out.1.1.output, HN.out.1.1.size, HN.out.1.1.block⟩⟩)
      go_wp2_with (fail)
      exact ⟨FIN.out, by have := HJ.out.2.1; simp [intOf]; omega⟩
    · have d4 : decide ((i : Int) < (n : Int) - 1 - (i : Int)) = false := by simp; omega
      have he := Fl.rev_end hrev (by rw [← hnl]; exact hlt)
      rw [he] at ho
      have FIN := Lib.hid (And.intro ho hg)
      clear hrev ho hg hnl hml he hlt
      go_wp2_with (fail)
      go_end0
      exact ⟨rfl, FIN.out⟩

end Go.Proofs.Ytgblpfahgpneoaa
