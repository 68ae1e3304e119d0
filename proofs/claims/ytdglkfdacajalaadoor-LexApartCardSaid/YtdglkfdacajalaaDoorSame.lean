/-
  Two lists of tokens that hold the same tokens are alike, as the document tells it.
-/
import Derived.Test.YtdglkfdacajalaaDoorScan
namespace Go.Proofs.YtdglkfdacajalaaDoor
open Go Go.RowKit Lx Go.Maps Go.WideMaps Go.WideShapes

theorem toksCells_at : ∀ (ts : List Tok) (k : Nat) (h : k < ts.length) (j : Nat), j < 4 → (toksCells ts)[k * 4 + j]? = (tokCells (ts[k]'h))[j]? := by
  intro ts
  induction ts with
  | nil => intro k h; simp at h
  | cons t r ih =>
    intro k h j hj
    have e : toksCells (t :: r) = tokCells t ++ toksCells r := by simp [toksCells]
    have e4 : (tokCells t).length = 4 := rfl
    rw [e]
    match k with
    | 0 =>
      rw [List.getElem?_append_left (by omega)]
      simp
    | k + 1 =>
      rw [List.getElem?_append_right (by omega), e4, show (k + 1) * 4 + j - 4 = k * 4 + j by omega, ih k (by simpa using h) j hj]
      rfl

/-- The four cells of one token, as they lie. -/
theorem tok_at {w : World} {base g cap : Nat} {ts : List Tok} (h : w.ownsRow base 33 4 (.slice (some ⟨g, 0, none⟩) ts.length cap) ts.length (toksCells ts)) (k : Nat) (hk : k < ts.length) :
    w.cell? ⟨g, k * 4, none⟩ = some (.int .u8 ((ts[k]'hk).kind : Int)) ∧ w.cell? ⟨g, k * 4 + 1, none⟩ = some (.int .i64 ((ts[k]'hk).pos : Int)) ∧ w.cell? ⟨g, k * 4 + 2, none⟩ = some (.string ⟨(ts[k]'hk).text.toArray⟩) ∧ w.cell? ⟨g, k * 4 + 3, none⟩ = some (.int .i64 ((ts[k]'hk).num : Int)) := by
  have hadd : ∀ j, (⟨g, 0, none⟩ : Addr).add j = ⟨g, j, none⟩ := by intro j; unfold Addr.add; split <;> simp_all
  have hc : ∀ j u, j < 4 → (tokCells (ts[k]'hk))[j]? = some u → w.cell? ⟨g, k * 4 + j, none⟩ = some u := by
    intro j u hj hu
    rw [← hadd]
    exact h.cells (g := g) rfl (k * 4 + j) u (by rw [toksCells_at ts k hk j hj]; exact hu)
  exact ⟨hc 0 _ (by omega) rfl, hc 1 _ (by omega) rfl, hc 2 _ (by omega) rfl, hc 3 _ (by omega) rfl⟩

set_option maxRecDepth 100000 in
set_option maxHeartbeats 2000000 in
theorem same_any (ts : List Tok) (hts : ts.length ≤ 30000) (base1 base2 : Nat) (v1 v2 : Value) (w : World) (h1 : w.ownsRow base1 33 4 v1 ts.length (toksCells ts)) (h2 : w.ownsRow base2 33 4 v2 ts.length (toksCells ts)) :
    Calls Tryd.prog 12 #[v1, v2] w fun e w' => e = .returned (.bool true) ∧ Below w.heap.size w w' := by
  have HO := Lib.hid (And.intro h1 h2)
  have hv1 : ∃ ao cap, v1 = .slice ao ts.length cap := by
    rcases h1.2 with ⟨rfl, h⟩ | ⟨g, cap, cur, rfl, _⟩
    · exact ⟨_, _, by rw [h]⟩
    · exact ⟨_, _, rfl⟩
  have hv2 : ∃ ao cap, v2 = .slice ao ts.length cap := by
    rcases h2.2 with ⟨rfl, h⟩ | ⟨g, cap, cur, rfl, _⟩
    · exact ⟨_, _, by rw [h]⟩
    · exact ⟨_, _, rfl⟩
  obtain ⟨a1, c1, rfl⟩ := hv1
  obtain ⟨a2, c2, rfl⟩ := hv2
  clear h1 h2
  go_enter Tryd.func12, Tryd.ntmps12
  go_wp2
  go_loopw [13] (fun i wq => ∃ k : Nat, k ≤ ts.length ∧ i = .int .i64 k ∧ Below w.heap.size w wq ∧ wq.ownsRow base1 33 4 (.slice a1 ts.length c1) ts.length (toksCells ts) ∧ wq.ownsRow base2 33 4 (.slice a2 ts.length c2) ts.length (toksCells ts)) (fun i _ => ts.length - (intOf i).toNat)
  case atStart => exact ⟨0, Nat.zero_le _, rfl, Below.refl _ _, HO.out.1, HO.out.2⟩
  case round =>
    obtain ⟨k, hk, rfl, hb, ho1, ho2⟩ := hrel
    by_cases hlt : k < ts.length
    · have hw1 : ∃ g, a1 = some ⟨g, 0, none⟩ := by
        rcases ho1.2 with ⟨h, h'⟩ | ⟨g, cap, cur, h, _⟩
        · omega
        · cases h; exact ⟨g, rfl⟩
      have hw2 : ∃ g, a2 = some ⟨g, 0, none⟩ := by
        rcases ho2.2 with ⟨h, h'⟩ | ⟨g, cap, cur, h, _⟩
        · omega
        · cases h; exact ⟨g, rfl⟩
      obtain ⟨g1, rfl⟩ := hw1
      obtain ⟨g2, rfl⟩ := hw2
      obtain ⟨p0, p1, p2, p3⟩ := tok_at ho1 k hlt
      obtain ⟨q0, q1, q2, q3⟩ := tok_at ho2 k hlt
      have HR := Lib.hid (And.intro hb (And.intro ho1 ho2))
      clear hb ho1 ho2
      have hd : decide ((k : Int) < (ts.length : Int)) = true := by simp; omega
      go_wp2_with fail
      go_quiet (fail)
      have HQ : Hid (Below w.heap.size w (wr.drewN nq)) := ⟨HR.out.1.os, HR.out.1.tape, HR.out.1.output, HR.out.1.size, HR.out.1.block⟩
      go_wp2
      go_roundw
      case rel => exact ⟨k + 1, by omega, by go_num, HQ.out, HR.out.2.1, HR.out.2.2⟩
      case measure => simp [intOf]; omega
    · have hd : decide ((k : Int) < (ts.length : Int)) = false := by simp; omega
      have HR := Lib.hid hb
      clear hb ho1 ho2
      go_wp2
      go_ret
      exact ⟨rfl, HR.out⟩
end Go.Proofs.YtdglkfdacajalaaDoor
