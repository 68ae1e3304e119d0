/-
  Two blocks that are written: the parser's, and a statement's own box. What a statement that begins with a name leaves.
-/
import Derived.Test.YtoimhdejfeclpaaGreatDoorTStm
namespace Go.Proofs.YtoimhdejfeclpaaGreatDoor
open Go Go.RowKit Px
open Lx (Tok)

/-- Of what was there two blocks alone have turned. -/
structure Grown2 (b c : Nat) (w w' : World) : Prop where
  os : w'.os = w.os
  tape : w'.tape = w.tape
  output : w'.output = w.output
  size : w.heap.size ≤ w'.heap.size
  block : ∀ k, k < w.heap.size → k ≠ b → k ≠ c → w'.heap[k]? = w.heap[k]?
section
variable {b c : Nat} {w w1 w2 : World}
theorem Grown2.of1 (h : w.grownBy w1 (some b)) : Grown2 b c w w1 := ⟨h.os, h.tape, h.output, h.size, fun k hk h1 _ => h.block k hk (by simpa using h1)⟩
theorem Grown2.of2 (h : w.grownBy w1 (some c)) : Grown2 b c w w1 := ⟨h.os, h.tape, h.output, h.size, fun k hk _ h1 => h.block k hk (by simpa using h1)⟩
theorem Grown2.below (h : Below w.heap.size w w1) : Grown2 b c w w1 := .of1 (grown_of_below h)
theorem Grown2.refl (b c : Nat) (w : World) : Grown2 b c w w := ⟨rfl, rfl, rfl, Nat.le_refl _, fun _ _ _ _ => rfl⟩
theorem Grown2.trans (h : Grown2 b c w w1) (k : Grown2 b c w1 w2) : Grown2 b c w w2 :=
  ⟨k.os.trans h.os, k.tape.trans h.tape, k.output.trans h.output, Nat.le_trans h.size k.size, fun i hi h1 h2 => (k.block i (Nat.lt_of_lt_of_le hi h.size) h1 h2).trans (h.block i hi h1 h2)⟩
/-- A block that is new, or one of the two, is written. -/
theorem Grown2.own {row : Option Nat} (h : Grown2 b c w w1) (k : w1.grownBy w2 row) (hr : ∀ j, row = some j → w.heap.size ≤ j ∨ j = b ∨ j = c) : Grown2 b c w w2 :=
  ⟨k.os.trans h.os, k.tape.trans h.tape, k.output.trans h.output, Nat.le_trans h.size k.size, fun i hi h1 h2 => (k.block i (Nat.lt_of_lt_of_le hi h.size) (fun e => by rcases hr i e.symm with h | h | h <;> omega)).trans (h.block i hi h1 h2)⟩
theorem Grown2.stays {T : TypeId} {k : Nat} {cs : Array Value} (h : Grown2 b c w w1) (hk : Blk k cs T w) (h1 : k ≠ b) (h2 : k ≠ c) : Blk k cs T w1 := (h.block k hk.lt h1 h2).trans hk
end

/-- A statement in its box. -/
def smB (c B : Nat) (x : Sm) (w' : World) : Prop := ∃ (k id : Nat) (nm : Bytes) (t n pos : Nat) (a1 : Option Addr) (m1 c1 : Nat) (a2 : Option Addr) (m2 c2 : Nat) (a3 : Option Addr) (m3 c3 : Nat),
  Blk c (smCells k id nm t n pos (.slice a1 m1 c1) (.slice a2 m2 c2) (.slice a3 m3 c3)) 39 w' ∧ SmC w' (fun g => B ≤ g) x (smCells k id nm t n pos (.slice a1 m1 c1) (.slice a2 m2 c2) (.slice a3 m3 c3)).toList
/-- What a function leaves that fills a statement's box. -/
def NmPost (b g cap : Nat) (ts : List Tok) (c : Nat) (w : World) (r : R Sm) (e : Ending) (w' : World) : Prop :=
  Grown2 b c w w' ∧ match r with
    | .error pn => e = .panicked (faultP pn.1 pn.2)
    | .ok (x, s') => e = .returned (.tuple #[]) ∧ smB c w.heap.size x w' ∧ PW b g cap ts s' w'
section
variable {b g cap c : Nat} {ts : List Tok} {w w' : World} {r : R Sm} {e : Ending}
theorem NmPost.elim (h : NmPost b g cap ts c w r e w') : (∃ pn, r = .error pn ∧ Grown2 b c w w' ∧ e = .panicked (faultP pn.1 pn.2)) ∨ (∃ x s', r = .ok (x, s') ∧ Grown2 b c w w' ∧ e = .returned (.tuple #[]) ∧ smB c w.heap.size x w' ∧ PW b g cap ts s' w') := by
  rcases r with pn | ⟨x, s'⟩
  · exact Or.inl ⟨pn, rfl, h.1, h.2⟩
  · exact Or.inr ⟨x, s', rfl, h.1, h.2.1, h.2.2.1, h.2.2.2⟩
theorem NmPost.err {pn : Nat × Nat} (hr : r = .error pn) (hg : Grown2 b c w w') : NmPost b g cap ts c w r (.panicked (faultP pn.1 pn.2)) w' := by subst hr; exact ⟨hg, rfl⟩
theorem NmPost.ok {x : Sm} {s' : St} (hr : r = .ok (x, s')) (hg : Grown2 b c w w') (hx : smB c w.heap.size x w') (hp : PW b g cap ts s' w') : NmPost b g cap ts c w r (.returned (.tuple #[])) w' := by subst hr; exact ⟨hg, rfl, hx, hp⟩
end

abbrev tokCs (t : Tok) : Array Value := #[.int .u8 (t.kind : Int), .int .i64 (t.pos : Int), .string ⟨t.text.toArray⟩, .int .i64 (t.num : Int)]
/-- On the way: the parser, a token's box, the statement's. -/
structure NmW (b g cap : Nat) (ts : List Tok) (s : St) (c : Nat) (w : World) (M : Nat) (t : Tok) (cs : Array Value) (w' : World) : Prop where
  grown : Grown2 b c w w'
  tok : Blk M (tokCs t) 55 w'
  box : Blk c cs 39 w'
  pw : PW b g cap ts s w'
  lt : w.heap.size ≤ M
  lb : b < w.heap.size
  lg : g < w.heap.size
  lc : c < w.heap.size
  cb : c ≠ b
  cg : c ≠ g
section
variable {b g cap c M : Nat} {ts : List Tok} {s s' : St} {w w1 w2 : World} {t : Tok} {cs : Array Value}
theorem NmW.below (h : NmW b g cap ts s c w M t cs w1) (hb : Below w1.heap.size w1 w2) : NmW b g cap ts s c w M t cs w2 :=
  ⟨h.grown.trans (.below hb), h.tok.below hb h.tok.lt, h.box.below hb h.box.lt, h.pw.below hb, h.lt, h.lb, h.lg, h.lc, h.cb, h.cg⟩
theorem NmW.other (h : NmW b g cap ts s c w M t cs w1) (hg : w1.grownBy w2 (some b)) (hp : PW b g cap ts s' w2) : NmW b g cap ts s' c w M t cs w2 :=
  ⟨h.grown.trans (.of1 hg), h.tok.other hg (by have := h.lt; have := h.lb; simp; omega), h.box.other hg (by have := h.cb; simpa using this), hp, h.lt, h.lb, h.lg, h.lc, h.cb, h.cg⟩
theorem NmW.set (h : NmW b g cap ts s c w M t cs w1) (j : Nat) (u : Value) : NmW b g cap ts s c w M t (cs.setIfInBounds j u) (w1.setCell ⟨c, j, none⟩ u) := by
  have hg : w1.grownBy (w1.setCell ⟨c, j, none⟩ u) (some c) := Lib.grownBy_setCell _ _ _ _
  exact ⟨h.grown.trans (.of2 hg), h.tok.other hg (by have := h.lt; have := h.lc; simp; omega), h.box.set j u, h.pw.other hg (by have := h.cb; simp; omega) (by have := h.cg; simp; omega), h.lt, h.lb, h.lg, h.lc, h.cb, h.cg⟩
/-- A row that is new has grown. -/
theorem NmW.row {row : Option Nat} (h : NmW b g cap ts s c w M t cs w1) (hg : w1.grownBy w2 row) (hr : ∀ j, row = some j → w.heap.size ≤ j) (hM : row ≠ some M) : NmW b g cap ts s c w M t cs w2 := by
  have hb : some b ≠ row := fun e => by have := hr b e.symm; have := h.lb; omega
  have hgg : some g ≠ row := fun e => by have := hr g e.symm; have := h.lg; omega
  have hc : some c ≠ row := fun e => by have := hr c e.symm; have := h.lc; omega
  exact ⟨h.grown.own hg (fun j hj => Or.inl (hr j hj)), h.tok.other hg (Ne.symm hM), h.box.other hg hc, h.pw.other hg hb hgg, h.lt, h.lb, h.lg, h.lc, h.cb, h.cg⟩
end
theorem smB_of {c B : Nat} {x : Sm} {w' : World} {k id : Nat} {nm : Bytes} {t n pos : Nat} {a1 : Option Addr} {m1 c1 : Nat} {a2 : Option Addr} {m2 c2 : Nat} {a3 : Option Addr} {m3 c3 : Nat}
    (hb : Blk c (smCells k id nm t n pos (.slice a1 m1 c1) (.slice a2 m2 c2) (.slice a3 m3 c3)) 39 w') (hx : SmC w' (fun g => B ≤ g) x (smCells k id nm t n pos (.slice a1 m1 c1) (.slice a2 m2 c2) (.slice a3 m3 c3)).toList) : smB c B x w' :=
  ⟨k, id, nm, t, n, pos, a1, m1, c1, a2, m2, c2, a3, m3, c3, hb, hx⟩

/-! An expression more, in a list of one. -/

/-- The second element of a row of expressions, written. -/
def el6 (w : World) (g : Nat) (u0 u1 u2 u3 u4 u5 : Value) : World := (((((w.setCell ⟨g, 6, none⟩ u0).setCell ⟨g, 7, none⟩ u1).setCell ⟨g, 8, none⟩ u2).setCell ⟨g, 9, none⟩ u3).setCell ⟨g, 10, none⟩ u4).setCell ⟨g, 11, none⟩ u5
theorem el6_eq (w : World) (g : Nat) (u0 u1 u2 u3 u4 u5 : Value) : el6 w g u0 u1 u2 u3 u4 u5 = (((((w.setCell ⟨g, 6, none⟩ u0).setCell ⟨g, 7, none⟩ u1).setCell ⟨g, 8, none⟩ u2).setCell ⟨g, 9, none⟩ u3).setCell ⟨g, 10, none⟩ u4).setCell ⟨g, 11, none⟩ u5 := rfl
theorem grown_el6 (w : World) (g : Nat) (u0 u1 u2 u3 u4 u5 : Value) : w.grownBy (el6 w g u0 u1 u2 u3 u4 u5) (some g) := gtrans (gtrans (gtrans (gtrans (gtrans (Lib.grownBy_setCell _ _ _ _) (Lib.grownBy_setCell _ _ _ _)) (Lib.grownBy_setCell _ _ _ _)) (Lib.grownBy_setCell _ _ _ _)) (Lib.grownBy_setCell _ _ _ _)) (Lib.grownBy_setCell _ _ _ _)
theorem owns_el6 {w : World} {B g cap : Nat} {xs : List Value} (h : w.ownsRow B 36 6 (.slice (some ⟨g, 0, none⟩) 2 cap) 2 (xs ++ zEx.toList)) (u0 u1 u2 u3 u4 u5 : Value) : (el6 w g u0 u1 u2 u3 u4 u5).ownsRow B 36 6 (.slice (some ⟨g, 0, none⟩) 2 cap) 2 (xs ++ [u0, u1, u2, u3, u4, u5]) := by
  have hl : xs.length = 6 := by
    have := h.1
    rw [List.length_append] at this
    have e : zEx.toList.length = 6 := rfl
    omega
  have h6 := owns_set (owns_set (owns_set (owns_set (owns_set (owns_set h 6 u0) 7 u1) 8 u2) 9 u3) 10 u4) 11 u5
  match xs, hl with
  | [a, b, c, d, e, f], _ => exact h6

/-- What is known once a row of one expression has grown by an empty one; and once that is written and the row is kept, in whatever order. -/
theorem put_fin {b g cap c M : Nat} {ts : List Tok} {s : St} {w W8 w9 : World} {t : Tok} {v0 v1 v2 v3 v4 v5 v7 v8 : Value} {B gr gg cg : Nat} {x y : Ex} {xc : List Value} {yk yo : Nat} {ynm : Bytes} {yn yp : Nat} {ya : Option Addr} {ym yc : Nat}
    (hN : NmW b g cap ts s c w M t #[v0, v1, v2, v3, v4, v5, .slice (some ⟨gr, 0, none⟩) 1 1, v7, v8] W8) (hB : w.heap.size ≤ B) (hMB : M < B) (hgr : B ≤ gr) (hgs : gr < W8.heap.size)
    (hx : ExC W8 (fun h => B ≤ h ∧ h < gr) x xc) (hy : ExC W8 (fun h => gr < h) y (exCells yk yo ynm yn yp ya ym yc).toList)
    (hown : w9.ownsRow B 36 6 (.slice (some ⟨gg, 0, none⟩) 2 cg) 2 (xc ++ zEx.toList)) (hgrow : W8.grownBy w9 (some gr)) (hat : gr = gg ∨ gg = W8.heap.size) :
    NmW b g cap ts s c w M t #[v0, v1, v2, v3, v4, v5, .slice (some ⟨gr, 0, none⟩) 1 1, v7, v8] w9 ∧ (∀ j, j < 6 → ∃ u, zEx[j]? = some u ∧ w9.cell? ⟨gg, 6 + j, none⟩ = some u ∧ w9.frozen? ⟨gg, 6 + j, none⟩ = false) ∧ gg ≠ c ∧
    ∀ Z, (Z = (el6 w9 gg (.int .u8 (yk : Int)) (.int .u8 (yo : Int)) (.string ⟨ynm.toArray⟩) (.int .i64 (yn : Int)) (.int .i64 (yp : Int)) (.slice ya ym yc)).setCell ⟨c, 6, none⟩ (.slice (some ⟨gg, 0, none⟩) 2 cg) ∨
      Z = el6 (w9.setCell ⟨c, 6, none⟩ (.slice (some ⟨gg, 0, none⟩) 2 cg)) gg (.int .u8 (yk : Int)) (.int .u8 (yo : Int)) (.string ⟨ynm.toArray⟩) (.int .i64 (yn : Int)) (.int .i64 (yp : Int)) (.slice ya ym yc)) →
      NmW b g cap ts s c w M t #[v0, v1, v2, v3, v4, v5, .slice (some ⟨gg, 0, none⟩) 2 cg, v7, v8] Z ∧ ExRow Z (fun h => w.heap.size ≤ h) [x, y] (.slice (some ⟨gg, 0, none⟩) 2 cg) := by
  have hlc := hN.lc
  have hggB : B ≤ gg := by rcases hat with h | h <;> omega
  have hgc : gg ≠ c := by omega
  have hxl : xc.length = 6 := by
    have := hown.1
    rw [List.length_append] at this
    have e : zEx.toList.length = 6 := rfl
    omega
  have hN9 := hN.row hgrow (fun j hj => by cases hj; omega) (by simp; omega)
  have hx9 : ExC w9 (fun h => B ≤ h ∧ h < gr) x xc := hx.stays (stays_of_grown hgrow fun h hh => ⟨by omega, hh⟩)
  have hy9 : ExC w9 (fun h => gr < h ∧ h < W8.heap.size) y (exCells yk yo ynm yn yp ya ym yc).toList := hy.stays fun h hh hl => ⟨hgrow.block h hl (by simp; omega), hh, hl⟩
  refine ⟨hN9, fun j hj => ?_, hgc, ?_⟩
  · obtain ⟨u, hu⟩ : ∃ u, zEx[j]? = some u := ⟨zEx[j], by rw [Array.getElem?_eq_getElem]⟩
    have := owns_cell hown (6 + j) u (by rw [List.getElem?_append_right (by omega), hxl, show 6 + j - 6 = j by omega, Array.getElem?_toList]; exact hu)
    exact ⟨u, hu, this⟩
  · intro Z hZ
    have fin : ∀ (W : World), w9.heap.size ≤ W.heap.size → (∀ k, k < w9.heap.size → k ≠ gg → k ≠ c → W.heap[k]? = w9.heap[k]?) → W.ownsRow B 36 6 (.slice (some ⟨gg, 0, none⟩) 2 cg) 2 (xc ++ (exCells yk yo ynm yn yp ya ym yc).toList) → ExRow W (fun h => w.heap.size ≤ h) [x, y] (.slice (some ⟨gg, 0, none⟩) 2 cg) := by
      intro W hs hk ho
      refine Or.inr ⟨gg, cg, _, rfl, by omega, owns_down ho, ?_⟩
      simp only [ExsC]
      refine ⟨xc, (exCells yk yo ynm yn yp ya ym yc).toList, rfl, hx9.stays fun h hh hl => ⟨hk h hl (by rcases hat with e | e <;> omega) (by omega), by omega⟩, (exCells yk yo ynm yn yp ya ym yc).toList, [], by simp, hy9.stays fun h hh hl => ⟨hk h hl (by rcases hat with e | e <;> omega) (by omega), by omega⟩, rfl⟩
    have hrow : ∀ j, some gg = some j → w.heap.size ≤ j := fun j hj => by cases hj; omega
    have hMg : some gg ≠ some M := by simp; omega
    rcases hZ with hZ | hZ
    · have g1 := grown_el6 w9 gg (.int .u8 (yk : Int)) (.int .u8 (yo : Int)) (.string ⟨ynm.toArray⟩) (.int .i64 (yn : Int)) (.int .i64 (yp : Int)) (.slice ya ym yc)
      have o1 := owns_el6 hown (.int .u8 (yk : Int)) (.int .u8 (yo : Int)) (.string ⟨ynm.toArray⟩) (.int .i64 (yn : Int)) (.int .i64 (yp : Int)) (.slice ya ym yc)
      generalize el6 w9 gg (.int .u8 (yk : Int)) (.int .u8 (yo : Int)) (.string ⟨ynm.toArray⟩) (.int .i64 (yn : Int)) (.int .i64 (yp : Int)) (.slice ya ym yc) = X at *
      have g2 : X.grownBy Z (some c) := by rw [hZ]; exact Lib.grownBy_setCell _ _ _ _
      refine ⟨by rw [hZ]; exact (hN9.row g1 hrow hMg).set 6 _, fin Z (Nat.le_trans g1.size g2.size) (fun k hk h1 h2 => (g2.block k (Nat.lt_of_lt_of_le hk g1.size) (by simpa using h2)).trans (g1.block k hk (by simpa using h1))) (owns_other o1 g2 (by simpa using hgc))⟩
    · have g1 : w9.grownBy (w9.setCell ⟨c, 6, none⟩ (.slice (some ⟨gg, 0, none⟩) 2 cg)) (some c) := Lib.grownBy_setCell _ _ _ _
      have hN10 := hN9.set 6 (.slice (some ⟨gg, 0, none⟩) 2 cg)
      have o1 := owns_other hown g1 (by simpa using hgc)
      generalize w9.setCell ⟨c, 6, none⟩ (.slice (some ⟨gg, 0, none⟩) 2 cg) = X at *
      have g2 : X.grownBy Z (some gg) := by rw [hZ]; exact grown_el6 _ _ _ _ _ _ _ _
      refine ⟨hN10.row g2 hrow hMg, fin Z (Nat.le_trans g1.size g2.size) (fun k hk h1 h2 => (g2.block k (Nat.lt_of_lt_of_le hk g1.size) (by simpa using h1)).trans (g1.block k hk (by simpa using h2))) (by rw [hZ]; exact owns_el6 o1 _ _ _ _ _ _)⟩
end Go.Proofs.YtoimhdejfeclpaaGreatDoor
