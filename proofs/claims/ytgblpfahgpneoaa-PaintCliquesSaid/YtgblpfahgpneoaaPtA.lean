/-
  Whether all numbers of pairs are nodes: walked.
-/
import Derived.Test.YtgblpfahgpneoaaPtM
namespace Go.Proofs.Ytgblpfahgpneoaa
open Go Go.RowKit

/-- Numbers of two nodes. -/
def NodeP (n : Nat) (p : P2) : Prop := 0 ≤ p.1 ∧ p.1 < (n : Int) ∧ 0 ≤ p.2 ∧ p.2 < (n : Int)
def AreN (n : Nat) (l : List P2) : Prop := ∀ p ∈ l, NodeP n p
def AnT (w : World) (n : Nat) (l : List P2) (W : World) (e : Ending) : Prop := ∃ b, e = .returned (.bool b) ∧ (b = true ↔ AreN n l) ∧ Below w.heap.size w W
def AnR (w : World) (n : Nat) (l : List P2) (iv : Value) (W : World) : Prop := ∃ i : Nat, i ≤ l.length ∧ iv = I (i : Int) ∧ (∀ j, j < i → NodeP n (pr l j)) ∧ Below w.heap.size w W
theorem areN_of {n : Nat} {l : List P2} (h : ∀ j, j < l.length → NodeP n (pr l j)) : AreN n l := fun p hp => by
  obtain ⟨j, hj, rfl⟩ := List.getElem_of_mem hp
  rw [getD_pr hj]; exact h j hj

set_option maxRecDepth 100000 in
set_option maxHeartbeats 1600000 in
theorem areNodes_any (n : Nat) (_ : n ≤ 60000) (a : Option Addr) (m c : Nat) (l : List P2) (hm : m = l.length) (hl : m ≤ 4000) (hc : m ≤ c) (w : World) (h : PairZ w (.slice a m c) l) :
    Calls Try.prog 12 #[I (n : Int), .slice a m c] w fun e w' => AnT w n l w' e := by
  have hmb : (m : Int) ≤ 4000 := by omega
  have hmc : (m : Int) ≤ (c : Int) := by omega
  have HH := Lib.hid (And.intro h (And.intro hm hl))
  clear h hm hl hc
  go_enter Try.func12, Try.ntmps12
  go_wp2_with fail
  go_loopw [9] (fun iv W => AnR w n l iv W) (fun iv _ => m - (intOf iv).toNat)
  case atStart => exact ⟨0, Nat.zero_le _, rfl, fun j hj => absurd hj (by omega), Below.refl _ _⟩
  case round =>
    obtain ⟨i, hi, rfl, hno, hbe⟩ := hrel
    by_cases hin : i < m
    · have hil : i < l.length := by rw [← HH.out.2.1]; exact hin
      obtain ⟨b, _, rfl, hbl, c0, e0⟩ := (HH.out.1.below pairV_stays hbe).at i hil
      obtain rfl := e0
      rw [getD_pr hil] at c0
      obtain ⟨p, q, hx⟩ : ∃ a b, pr l i = (a, b) := ⟨_, _, rfl⟩
      rw [hx] at c0
      have x0 : wr.cell? (b.add (i * 2)) = some (I p) := c0.f0
      have x1 : wr.cell? ⟨(b.add (i * 2)).block, (b.add (i * 2)).off + 1, none⟩ = some (I q) := c0.f1
      have d0 : decide (i < m) = true := by simpa using hin
      have d1 : (0 : Int) ≤ (i : Int) := by omega
      have d2 : (i : Int) < (m : Int) := by omega
      have d3 : (i : Int) ≤ (c : Int) := by omega
      have hB1 : Below w.heap.size w (wr.alloc (.cells #[I p, I q] 29)) := hbe.alloc hbe.size _
      have hnd : NodeP n (pr l i) ↔ 0 ≤ p ∧ p < (n : Int) ∧ 0 ≤ q ∧ q < (n : Int) := by unfold NodeP; rw [hx]
      have HT := Lib.hid (And.intro hin hnd)
      have HN := Lib.hid (fun h0 : NodeP n (pr l i) => show AnR w n l (I ((i : Int) + 1)) (wr.alloc (.cells #[I p, I q] 29)) from ⟨i + 1, hil, rfl, fun j hj => by
        by_cases e : j = i
        · rw [e]; exact h0
        · exact hno j (by omega), hB1⟩)
      have FIN := Lib.hid (fun h0 : ¬ NodeP n (pr l i) => show AnT w n l (wr.alloc (.cells #[I p, I q] 29)) (.returned (.bool false)) from ⟨_, rfl, ⟨fun e => (by cases e), fun ha => absurd (ha _ (by rw [← getD_pr hil]; exact List.getElem_mem hil)) h0⟩, hB1⟩)
      clear hno hbe c0 hx hB1 hnd hil hi hin hbl
      go_upto_region 4 with (fail)
      clear x0 x1
      go_wp2_with fail
      all_goals first
        | (go_ret
           exact FIN.out (by rw [HT.out.2]; omega))
        | exact ⟨HN.out (by rw [HT.out.2]; omega), by have := HT.out.1; simp [intOf]; omega⟩
    · have d0 : decide (i < m) = false := by simpa using hin
      have FIN := Lib.hid (show AnT w n l wr (.returned (.bool true)) from ⟨_, rfl, ⟨fun _ => areN_of fun j hj => hno j (by have := HH.out.2.1; omega), fun _ => rfl⟩, hbe⟩)
      clear hno hbe hi hin
      go_wp2_with fail
      go_ret
      exact FIN.out
end Go.Proofs.Ytgblpfahgpneoaa
