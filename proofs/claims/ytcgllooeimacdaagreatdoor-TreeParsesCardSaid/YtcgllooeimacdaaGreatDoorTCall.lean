/-
  Joined: TRow, TCall.
-/
import Derived.Test.YtcgllooeimacdaaGreatDoorTOne
import Derived.Test.YtcgllooeimacdaaGreatDoorTLst
import Derived.Test.YtcgllooeimacdaaGreatDoorDrawn
import Derived.Maps.AppendAt
import Derived.Deep.AppendLies
/-! Rows of a list in memory: a cell of them, a cell set, an element that is written behind the others. -/

namespace Go.Proofs.YtcgllooeimacdaaGreatDoor
open Go Go.RowKit Px
open Lx (Tok)

theorem own_slice {w : World} {B E size n : Nat} {v : Value} {xs : List Value} (h : w.ownsRow B E size v n xs) : v = .slice none 0 0 ∧ n = 0 ∨ ∃ g cap, v = .slice (some ⟨g, 0, none⟩) n cap := by
  rcases h.2 with h | ⟨g, cap, cur, rfl, _⟩
  · exact Or.inl h
  · exact Or.inr ⟨g, cap, rfl⟩

theorem owns_up {w : World} {E size n g cap m B : Nat} {xs : List Value} (h : w.ownsRow 0 E size (.slice (some ⟨g, 0, none⟩) m cap) n xs) (hB : B ≤ g) : w.ownsRow B E size (.slice (some ⟨g, 0, none⟩) m cap) n xs := by
  obtain ⟨h1, h2⟩ := h
  refine ⟨h1, ?_⟩
  rcases h2 with ⟨h2, _⟩ | ⟨g', cap', cur, hv, _, r⟩
  · cases h2
  · cases hv
    exact Or.inr ⟨_, _, cur, rfl, hB, r⟩
theorem owns_down {w : World} {B E size n : Nat} {v : Value} {xs : List Value} (h : w.ownsRow B E size v n xs) : w.ownsRow 0 E size v n xs := by
  obtain ⟨h1, h2⟩ := h
  refine ⟨h1, ?_⟩
  rcases h2 with h2 | ⟨g, cap, cur, hv, _, r⟩
  · exact Or.inl h2
  · exact Or.inr ⟨g, cap, cur, hv, Nat.zero_le _, r⟩
theorem owns_cell {w : World} {B E size n g cap m : Nat} {xs : List Value} (h : w.ownsRow B E size (.slice (some ⟨g, 0, none⟩) m cap) n xs) (j : Nat) (u : Value) (hu : xs[j]? = some u) : w.cell? ⟨g, j, none⟩ = some u ∧ w.frozen? ⟨g, j, none⟩ = false := by
  obtain ⟨h1, h2⟩ := h
  rcases h2 with ⟨h2, _⟩ | ⟨g', cap', cur, hv, _, hc, _, _, _, ht⟩
  · cases h2
  · cases hv
    have hb : Blk g cur E w := hc
    refine ⟨hb.get j u ?_, hb.free j⟩
    rw [← ht, List.getElem?_take] at hu
    split at hu
    · rw [← Array.getElem?_toList]; exact hu
    · cases hu
theorem owns_set {w : World} {B E size n g cap m : Nat} {xs : List Value} (h : w.ownsRow B E size (.slice (some ⟨g, 0, none⟩) m cap) n xs) (j : Nat) (u : Value) : (w.setCell ⟨g, j, none⟩ u).ownsRow B E size (.slice (some ⟨g, 0, none⟩) m cap) n (xs.set j u) := by
  obtain ⟨h1, h2⟩ := h
  refine ⟨by rw [List.length_set]; exact h1, ?_⟩
  rcases h2 with ⟨h2, _⟩ | ⟨g', cap', cur, hv, hB, hc, h3, h4, h5, ht⟩
  · cases h2
  · cases hv
    have hb : Blk g cur E w := hc
    refine Or.inr ⟨_, _, cur.setIfInBounds j u, rfl, hB, hb.set j u, h3, h4, by rw [Array.size_setIfInBounds]; exact h5, ?_⟩
    rw [← ht, Array.toList_setIfInBounds, List.take_set]
theorem owns_other {w w' : World} {B E size n g cap m : Nat} {xs : List Value} {row : Option Nat} (h : w.ownsRow B E size (.slice (some ⟨g, 0, none⟩) m cap) n xs) (hg : w.grownBy w' row) (hne : some g ≠ row) : w'.ownsRow B E size (.slice (some ⟨g, 0, none⟩) m cap) n xs := by
  have hB := (h.lt g rfl).1
  exact owns_up (owns_stays (owns_down h) (hg.block g (h.lt g rfl).2 hne)) hB


/-- An element of six cells, written at a place of a row. -/
def elN (w : World) (g o : Nat) (u0 u1 u2 u3 u4 u5 : Value) : World := (((((w.setCell ⟨g, o, none⟩ u0).setCell ⟨g, o + 1, none⟩ u1).setCell ⟨g, o + 2, none⟩ u2).setCell ⟨g, o + 3, none⟩ u3).setCell ⟨g, o + 4, none⟩ u4).setCell ⟨g, o + 5, none⟩ u5
theorem elN_eq (w : World) (g o : Nat) (u0 u1 u2 u3 u4 u5 : Value) : elN w g o u0 u1 u2 u3 u4 u5 = (((((w.setCell ⟨g, o, none⟩ u0).setCell ⟨g, o + 1, none⟩ u1).setCell ⟨g, o + 2, none⟩ u2).setCell ⟨g, o + 3, none⟩ u3).setCell ⟨g, o + 4, none⟩ u4).setCell ⟨g, o + 5, none⟩ u5 := rfl
theorem grown_elN (w : World) (g o : Nat) (u0 u1 u2 u3 u4 u5 : Value) : w.grownBy (elN w g o u0 u1 u2 u3 u4 u5) (some g) := gtrans (gtrans (gtrans (gtrans (gtrans (Lib.grownBy_setCell _ _ _ _) (Lib.grownBy_setCell _ _ _ _)) (Lib.grownBy_setCell _ _ _ _)) (Lib.grownBy_setCell _ _ _ _)) (Lib.grownBy_setCell _ _ _ _)) (Lib.grownBy_setCell _ _ _ _)
theorem set_app {α : Type} (xs ys : List α) (o j : Nat) (a : α) (h : xs.length = o) : (xs ++ ys).set (o + j) a = xs ++ ys.set j a := by
  subst h
  rw [List.set_append_right _ _ (by omega), show xs.length + j - xs.length = j by omega]
theorem owns_elN {w : World} {B g m cap o : Nat} {xs : List Value} (h : w.ownsRow B 36 6 (.slice (some ⟨g, 0, none⟩) m cap) m (xs ++ zEx.toList)) (hl : xs.length = o) (u0 u1 u2 u3 u4 u5 : Value) : (elN w g o u0 u1 u2 u3 u4 u5).ownsRow B 36 6 (.slice (some ⟨g, 0, none⟩) m cap) m (xs ++ [u0, u1, u2, u3, u4, u5]) := by
  have h6 := owns_set (owns_set (owns_set (owns_set (owns_set (owns_set h (o + 0) u0) (o + 1) u1) (o + 2) u2) (o + 3) u3) (o + 4) u4) (o + 5) u5
  rw [set_app _ _ _ _ _ hl, set_app _ _ _ _ _ hl, set_app _ _ _ _ _ hl, set_app _ _ _ _ _ hl, set_app _ _ _ _ _ hl, set_app _ _ _ _ _ hl] at h6
  exact h6
theorem Tryz.infoEx : (Tryz.prog.info? 36).map (fun i => (i.zero, i.size, i.bytes)) = some (some (.agg zEx), 6, 64) := by kernel_rfl
theorem ex_one : ∀ u ∈ zEx.toList, u.oneCell' = true := by
  intro u hu
  simp only [List.mem_cons, List.not_mem_nil, or_false] at hu
  rcases hu with rfl | rfl | rfl | rfl | rfl | rfl <;> rfl

/-- Arguments that were read: the parser's box, the box of the call's expression, the row. -/
structure ArgF (b g : Nat) (w0 : World) (B cb pb : Nat) (nm : Bytes) (pos : Nat) (l : List Ex) (a : Option Addr) (c : Nat) (xs : List Value) (w' : World) : Prop where
  grown : w0.grownBy w' (some b)
  pbx : Blk pb #[.pointer (some ⟨b, 0, none⟩)] 102 w'
  box : Blk cb #[.int .u8 5, .int .u8 0, .string ⟨nm.toArray⟩, .int .i64 0, .int .i64 (pos : Int), .slice a l.length c] 36 w'
  own : w'.ownsRow B 36 6 (.slice a l.length c) l.length xs
  exs : ExsC w' (fun h => B ≤ h ∧ h < w'.heap.size ∧ some h ≠ (Value.slice a l.length c).ownBlock) l xs
  top : B ≤ w'.heap.size
  lc : w0.heap.size ≤ cb
  lp : pb ≠ b
  cB : cb < B
  pB : pb < B
  cp : cb ≠ pb
  lb : b < w0.heap.size
  lg : g < w0.heap.size
def ArgI (b g : Nat) (w0 : World) (B cb pb : Nat) (nm : Bytes) (pos : Nat) (l : List Ex) (w' : World) : Prop := ∃ a c xs, ArgF b g w0 B cb pb nm pos l a c xs w'
section
variable {b g B cb pb pos : Nat} {w0 w w' : World} {nm : Bytes} {l : List Ex} {a : Option Addr} {c : Nat} {xs : List Value}
theorem ArgF.stays (h : ArgF b g w0 B cb pb nm pos l a c xs w) (hg : w.grownBy w' (some b)) : ArgF b g w0 B cb pb nm pos l a c xs w' := by
  have e1 := h.lc
  have e2 := h.lp
  have e3 := h.cB
  have e4 := h.lb
  have e5 := hg.size
  refine ⟨gtrans h.grown hg, h.pbx.other hg (by simp; omega), h.box.other hg (by simp; omega), ?_, h.exs.stays (fun j hj hl => ⟨hg.block j hl (by simp; omega), hj.1, by omega, hj.2.2⟩), Nat.le_trans h.top e5, e1, e2, e3, h.pB, h.cp, e4, h.lg⟩
  refine h.own.kept hg ?_
  cases hu : (Value.slice a l.length c).ownBlock with
  | none => exact Or.inl rfl
  | some j =>
    have := (h.own.lt j hu).1
    exact Or.inr (by simp; omega)
theorem ArgI.stays (h : ArgI b g w0 B cb pb nm pos l w) (hg : w.grownBy w' (some b)) : ArgI b g w0 B cb pb nm pos l w' := by
  obtain ⟨a, c, xs, h⟩ := h
  exact ⟨a, c, xs, h.stays hg⟩
theorem ArgI.grown (h : ArgI b g w0 B cb pb nm pos l w) : w0.grownBy w (some b) := by
  obtain ⟨a, c, xs, h⟩ := h
  exact h.grown
theorem six_N {w : World} {E B g m cap o : Nat} {xs : List Value} (h : w.ownsRow B E 6 (.slice (some ⟨g, 0, none⟩) m cap) m (xs ++ zEx.toList)) (hl : xs.length = o) :
    (w.cell? ⟨g, o, none⟩ = some (.int .u8 0) ∧ w.frozen? ⟨g, o, none⟩ = false) ∧ (w.cell? ⟨g, o + 1, none⟩ = some (.int .u8 0) ∧ w.frozen? ⟨g, o + 1, none⟩ = false) ∧ (w.cell? ⟨g, o + 2, none⟩ = some (.string ⟨#[]⟩) ∧ w.frozen? ⟨g, o + 2, none⟩ = false) ∧
    (w.cell? ⟨g, o + 3, none⟩ = some (.int .i64 0) ∧ w.frozen? ⟨g, o + 3, none⟩ = false) ∧ (w.cell? ⟨g, o + 4, none⟩ = some (.int .i64 0) ∧ w.frozen? ⟨g, o + 4, none⟩ = false) ∧ (w.cell? ⟨g, o + 5, none⟩ = some (.slice none 0 0) ∧ w.frozen? ⟨g, o + 5, none⟩ = false) := by
  have e : ∀ j u, zEx.toList[j]? = some u → (xs ++ zEx.toList)[o + j]? = some u := fun j u hu => by
    rw [List.getElem?_append_right (by omega), show o + j - xs.length = j by omega]; exact hu
  exact ⟨owns_cell h (o + 0) _ (e 0 _ rfl), owns_cell h (o + 1) _ (e 1 _ rfl), owns_cell h (o + 2) _ (e 2 _ rfl), owns_cell h (o + 3) _ (e 3 _ rfl), owns_cell h (o + 4) _ (e 4 _ rfl), owns_cell h (o + 5) _ (e 5 _ rfl)⟩
end
/-- Once the row has grown by an empty element; and once that is written and the row is kept, in whatever order. -/
theorem arg_fin {b g cap B cb pb pos : Nat} {ts : List Tok} {w0 W8 w9 : World} {nm : Bytes} {l : List Ex} {a : Option Addr} {c gg cg : Nat} {xs : List Value} {y : Ex} {yk yo : Nat} {ynm : Bytes} {yn yp : Nat} {ya : Option Addr} {ym yc : Nat} {D : Nat}
    (h8 : ArgF b g w0 B cb pb nm pos l a c xs W8) (hy8 : ExC W8 (fun h => D ≤ h ∧ h < W8.heap.size) y (exCells yk yo ynm yn yp ya ym yc).toList) (hD : B ≤ D) (hvD : ∀ j, (Value.slice a l.length c).ownBlock = some j → j < D)
    (hown : w9.ownsRow B 36 6 (.slice (some ⟨gg, 0, none⟩) (l.length + 1) cg) (l.length + 1) (xs ++ zEx.toList)) (hgrow : W8.grownBy w9 (Value.slice a l.length c).ownBlock) (hat : (Value.slice a l.length c).ownBlock = some gg ∨ gg = W8.heap.size) :
    xs.length = l.length * 6 ∧ Blk cb #[.int .u8 5, .int .u8 0, .string ⟨nm.toArray⟩, .int .i64 0, .int .i64 (pos : Int), .slice a l.length c] 36 w9 ∧ gg ≠ cb ∧ w0.grownBy w9 (some b) ∧
    ∀ Z, (Z = (elN w9 gg (l.length * 6) (.int .u8 (yk : Int)) (.int .u8 (yo : Int)) (.string ⟨ynm.toArray⟩) (.int .i64 (yn : Int)) (.int .i64 (yp : Int)) (.slice ya ym yc)).setCell ⟨cb, 5, none⟩ (.slice (some ⟨gg, 0, none⟩) (l.length + 1) cg) ∨
      Z = elN (w9.setCell ⟨cb, 5, none⟩ (.slice (some ⟨gg, 0, none⟩) (l.length + 1) cg)) gg (l.length * 6) (.int .u8 (yk : Int)) (.int .u8 (yo : Int)) (.string ⟨ynm.toArray⟩) (.int .i64 (yn : Int)) (.int .i64 (yp : Int)) (.slice ya ym yc)) →
      ArgI b g w0 B cb pb nm pos (l ++ [y]) Z ∧ ∀ s', PW b g cap ts s' W8 → PW b g cap ts s' Z := by
  obtain ⟨hg8, hp8, hc8, ho8, hx8, hBW, lc, lp, cB, pB, cp, lb, lg⟩ := h8
  have hj : ∀ j, (Value.slice a l.length c).ownBlock = some j → B ≤ j := fun j h => (ho8.lt j h).1
  have hgg : B ≤ gg := by
    rcases hat with h | h
    · exact hj gg h
    · omega
  have hcb : some cb ≠ (Value.slice a l.length c).ownBlock := fun e => by have := hj cb e.symm; omega
  have hpb : some pb ≠ (Value.slice a l.length c).ownBlock := fun e => by have := hj pb e.symm; omega
  have hb : some b ≠ (Value.slice a l.length c).ownBlock := fun e => by have := hj b e.symm; omega
  have hg : some g ≠ (Value.slice a l.length c).ownBlock := fun e => by have := hj g e.symm; omega
  have hxl : xs.length = l.length * 6 := ho8.1
  have hc9 := hc8.other hgrow hcb
  have hp9 := hp8.other hgrow hpb
  have hg9 : w0.grownBy w9 (some b) := ⟨hgrow.os.trans hg8.os, hgrow.tape.trans hg8.tape, hgrow.output.trans hg8.output, Nat.le_trans hg8.size hgrow.size, fun i hi hne => (hgrow.block i (Nat.lt_of_lt_of_le hi hg8.size) (fun e => by have := hj i e.symm; omega)).trans (hg8.block i hi hne)⟩
  have hx9 : ExsC w9 (fun h => B ≤ h ∧ h < W8.heap.size ∧ h ≠ gg) l xs := hx8.stays fun h hh hl => ⟨hgrow.block h hl hh.2.2, hh.1, hh.2.1, fun e => by
    rcases hat with e1 | e1
    · exact hh.2.2 (by rw [e1, e])
    · omega⟩
  have hy9 : ExC w9 (fun h => B ≤ h ∧ h < W8.heap.size ∧ h ≠ gg) y (exCells yk yo ynm yn yp ya ym yc).toList := hy8.stays fun h hh hl => ⟨hgrow.block h hl (fun e => by have := hvD h e.symm; omega), by omega, hh.2, fun e => by
    rcases hat with e1 | e1
    · have := hvD gg e1; omega
    · omega⟩
  refine ⟨hxl, hc9, by omega, hg9, ?_⟩
  have fin : ∀ (W : World), w9.heap.size ≤ W.heap.size → W.os = w9.os → W.tape = w9.tape → W.output = w9.output → (∀ k, k < w9.heap.size → k ≠ gg → k ≠ cb → W.heap[k]? = w9.heap[k]?) → W.ownsRow B 36 6 (.slice (some ⟨gg, 0, none⟩) (l.length + 1) cg) (l.length + 1) (xs ++ (exCells yk yo ynm yn yp ya ym yc).toList) →
      Blk cb #[.int .u8 5, .int .u8 0, .string ⟨nm.toArray⟩, .int .i64 0, .int .i64 (pos : Int), .slice (some ⟨gg, 0, none⟩) (l.length + 1) cg] 36 W → ArgI b g w0 B cb pb nm pos (l ++ [y]) W ∧ ∀ s', PW b g cap ts s' W8 → PW b g cap ts s' W := by
    intro W hs ho ht hq hk hrow hbx
    have hpl := hp9.lt
    refine ⟨⟨some ⟨gg, 0, none⟩, cg, _, ⟨ho.trans hg9.os, ht.trans hg9.tape, hq.trans hg9.output, Nat.le_trans hg9.size hs, fun i hi hne => (hk i (Nat.lt_of_lt_of_le hi hg9.size) (by omega) (by omega)).trans (hg9.block i hi hne)⟩, (hk pb hpl (by omega) (Ne.symm cp)).trans hp9, by rw [List.length_append]; exact hbx, by rw [List.length_append]; exact hrow, ?_, Nat.le_trans hBW (Nat.le_trans hgrow.size hs), lc, lp, cB, pB, cp, lb, lg⟩, ?_⟩
    · refine ExsC_snoc ?_ l xs ?_
      · exact hy9.stays fun h hh hl => ⟨hk h hl hh.2.2 (by omega), hh.1, by omega, by simp [Value.ownBlock]; exact hh.2.2⟩
      · exact hx9.stays fun h hh hl => ⟨hk h hl hh.2.2 (by omega), hh.1, by omega, by simp [Value.ownBlock]; exact hh.2.2⟩
    · intro s' hp
      have h9 := hp.other hgrow hb hg
      have hlb := h9.blk.lt
      have hlg := h9.toks.lt
      exact ⟨(hk b hlb (by omega) (by omega)).trans h9.blk, h9.toks.stays (Nat.lt_of_lt_of_le hlg hs) (hk g hlg (by omega) (by omega)), h9.ne, h9.lt, h9.len, h9.olo, h9.ohi, h9.num, h9.fin⟩
  have hgc : gg ≠ cb := by omega
  intro Z hZ
  rcases hZ with hZ | hZ
  · have g1 := grown_elN w9 gg (l.length * 6) (.int .u8 (yk : Int)) (.int .u8 (yo : Int)) (.string ⟨ynm.toArray⟩) (.int .i64 (yn : Int)) (.int .i64 (yp : Int)) (.slice ya ym yc)
    have o1 := owns_elN hown hxl (.int .u8 (yk : Int)) (.int .u8 (yo : Int)) (.string ⟨ynm.toArray⟩) (.int .i64 (yn : Int)) (.int .i64 (yp : Int)) (.slice ya ym yc)
    have b1 := hc9.other g1 (by simpa using Ne.symm hgc)
    generalize elN w9 gg (l.length * 6) (.int .u8 (yk : Int)) (.int .u8 (yo : Int)) (.string ⟨ynm.toArray⟩) (.int .i64 (yn : Int)) (.int .i64 (yp : Int)) (.slice ya ym yc) = X at *
    have g2 : X.grownBy Z (some cb) := by rw [hZ]; exact Lib.grownBy_setCell _ _ _ _
    exact fin Z (Nat.le_trans g1.size g2.size) (g2.os.trans g1.os) (g2.tape.trans g1.tape) (g2.output.trans g1.output) (fun k hk h1 h2 => (g2.block k (Nat.lt_of_lt_of_le hk g1.size) (by simpa using h2)).trans (g1.block k hk (by simpa using h1))) (owns_other o1 g2 (by simpa using hgc)) (by rw [hZ]; exact b1.set 5 _)
  · have g1 : w9.grownBy (w9.setCell ⟨cb, 5, none⟩ (.slice (some ⟨gg, 0, none⟩) (l.length + 1) cg)) (some cb) := Lib.grownBy_setCell _ _ _ _
    have o1 := owns_other hown g1 (by simpa using hgc)
    have b1 := hc9.set 5 (.slice (some ⟨gg, 0, none⟩) (l.length + 1) cg)
    generalize w9.setCell ⟨cb, 5, none⟩ (.slice (some ⟨gg, 0, none⟩) (l.length + 1) cg) = X at *
    have g2 : X.grownBy Z (some gg) := by rw [hZ]; exact grown_elN _ _ _ _ _ _ _ _ _
    exact fin Z (Nat.le_trans g1.size g2.size) (g2.os.trans g1.os) (g2.tape.trans g1.tape) (g2.output.trans g1.output) (fun k hk h1 h2 => (g2.block k (Nat.lt_of_lt_of_le hk g1.size) (by simpa using h1)).trans (g1.block k hk (by simpa using h2))) (by rw [hZ]; exact owns_elN o1 hxl _ _ _ _ _ _) (b1.other g2 (by simpa using Ne.symm hgc))
end Go.Proofs.YtcgllooeimacdaaGreatDoor

/-! A call of a name, in an expression: its arguments, one by one. -/

namespace Go.Proofs.YtcgllooeimacdaaGreatDoor
open Go Go.RowKit Px
open Lx (Tok)

set_option maxRecDepth 100000 in
set_option maxHeartbeats 2000000 in
theorem arg_item {F : Nat} (hB : BinC F) (b g cap : Nat) (ts : List Tok) (w0 : World) (B cb pb : Nat) (nm : Bytes) (pos : Nat) (l : List Ex) (s : St) (w : World) (hl : l.length < s.i) (hI : ArgI b g w0 B cb pb nm pos l w) (hw : PW b g cap ts s w) (hne : binF ts F 1 s ≠ gone) :
    Calls Tryz.prog 121 #[.pointer (some ⟨cb, 0, none⟩), .pointer (some ⟨pb, 0, none⟩)] w (ItPost b g cap ts (ArgI b g w0 B cb pb nm pos) (fun w' => w0.grownBy w' (some b)) l (binF ts F 1 s)) := by
  obtain ⟨a, c, xs, hF⟩ := hI
  have hlen := hw.len
  have hlt := hw.lt
  have HBD := Lib.hid (And.intro (show l.length + 1 ≤ maxLen by unfold maxLen; omega) (show (l.length + 1) * 64 ≤ 140737488355328 by omega))
  have HD := Lib.hid (And.intro hF.top fun j hj => (hF.own.lt j hj).2)
  have HEx := Lib.hid fun w1 (h1 : PW b g cap ts s w1) => expr_any hB b g cap ts s w1 h1 hne
  have HF0 := Lib.hid hF
  have HW := Lib.hid hw
  obtain ⟨i0, hi, hz0, hz1, hz2⟩ := info_parts Tryz.infoEx
  have p0 := hF.pbx.get 0 (.pointer (some ⟨b, 0, none⟩)) rfl
  have c5 := hF.box.get 5 (.slice a l.length c) rfl
  have hi1 : (0 : Int) ≤ (l.length : Int) := by omega
  have hi2 : (l.length : Int) < (l.length : Int) + 1 := by omega
  clear hB hF hw hne hl hlen hlt
  go_enter Tryz.func121, Tryz.ntmps121
  have hS : (fun w' : World => w'.cell? ⟨cb, 5, none⟩ = some (.slice a l.length c) ∧ w'.cell? ⟨pb, 0, none⟩ = some (.pointer (some ⟨b, 0, none⟩))) w.drew := ⟨c5, p0⟩
  refine wp_region_dep (S := fun w' => w'.cell? ⟨cb, 5, none⟩ = some (.slice a l.length c) ∧ w'.cell? ⟨pb, 0, none⟩ = some (.pointer (some ⟨b, 0, none⟩))) (dep := [7, 8, 9, 10]) (by kernel_rfl) ?_
  change wpAnyD _ _ _ _ _ _ _ _ _ (World.drew _)
  refine wpAnyD_take (i := 0) (v := ?_) rfl (by kernel_rfl) (by kernel_rfl) (by kernel_rfl) (by kernel_rfl) (by kernel_rfl) (fun _ _ _ h => h) hS (Or.inl ⟨by rfl, ?_⟩) ?_
  rotate_left
  · intro w hSw; obtain ⟨hSw, hSw2⟩ := hSw; go_simp
    try with_reducible rfl
  try simp only [Act.put, List.setIfInBounds_toArray, List.set_cons_zero, List.set_cons_succ]
  refine wpAnyD_take (i := 1) (v := ?_) rfl (by kernel_rfl) (by kernel_rfl) (by kernel_rfl) (by kernel_rfl) (by kernel_rfl) (fun _ _ _ h => h) hS (Or.inl ⟨by rfl, ?_⟩) ?_
  rotate_left
  · intro w hSw; obtain ⟨hSw, hSw2⟩ := hSw; go_simp
    try with_reducible rfl
  try simp only [Act.put, List.setIfInBounds_toArray, List.set_cons_zero, List.set_cons_succ]
  refine wpAnyD_take (i := 2) (v := ?_) rfl (by kernel_rfl) (by kernel_rfl) (by kernel_rfl) (by kernel_rfl) (by kernel_rfl) (fun _ _ _ h => h) hS (Or.inl ⟨by rfl, ?_⟩) ?_
  rotate_left
  · intro w hSw; obtain ⟨hSw, hSw2⟩ := hSw; go_simp
    try with_reducible rfl
  try simp only [Act.put, List.setIfInBounds_toArray, List.set_cons_zero, List.set_cons_succ]
  refine wpAnyD_take (i := 4) (v := ?_) rfl (by kernel_rfl) (by kernel_rfl) (by kernel_rfl) (by kernel_rfl) (by kernel_rfl) (fun _ _ _ h => h) hS (Or.inl ⟨by rfl, ?_⟩) ?_
  rotate_left
  · intro w hSw; obtain ⟨hSw, hSw2⟩ := hSw; go_simp
    try with_reducible rfl
  try simp only [Act.put, List.setIfInBounds_toArray, List.set_cons_zero, List.set_cons_succ]
  clear hS c5 p0
  refine wpAnyD_two (i := 3) (j := 5) rfl rfl (by kernel_rfl) rfl rfl (fun K hK => ?_) (fun K hK => ?_)
  · have HC := Lib.hid (HEx.out w.drew (HW.out.below (Below.refl _ _).drew))
    go_simp
    refine HC.out.mono ?_
    rintro e w7 h7
    rcases h7.elim with ⟨pn, hr, hg, rfl⟩ | ⟨y, s4, hr, hg, ⟨yk, yo, ynm, yn, yp, ya, ym, yc, rfl, hy⟩, hp⟩
    · exact ⟨rfl, ItPost.err hr (gtrans HF0.out.grown (gtrans (grown_of_below (Below.refl _ _).drew) hg))⟩
    · have hF7 := (HF0.out.stays (grown_of_below (Below.refl _ _).drew)).stays hg
      have HR7 := Lib.hid hr
      have hbZ : Below w7.heap.size w7 (w7.alloc (.cells zEx 36)) := (Below.refl _ _).alloc (Nat.le_refl _) _
      have F8 := Lib.hid (hF7.stays (grown_of_below hbZ))
      have HP8 := Lib.hid (hp.below hbZ)
      have Y8 := Lib.hid (show ExC (w7.alloc (.cells zEx 36)) (fun h => w.heap.size ≤ h ∧ h < (w7.alloc (.cells zEx 36)).heap.size) y _ from hy.stays fun j hj hl => ⟨hbZ.block j hl, hj, by simp; omega⟩)
      have c5 := hF7.box.get 5 (.slice a l.length c) rfl
      have p0 := hF7.pbx.get 0 (.pointer (some ⟨b, 0, none⟩)) rfl
      have c5' := F8.out.box.get 5 (.slice a l.length c) rfl
      have p0' := F8.out.pbx.get 0 (.pointer (some ⟨b, 0, none⟩)) rfl
      clear hr hg h7 hp hF7 hbZ hy HC
      refine hK _ _ (Or.inr ⟨c5, p0⟩) ?_
      clear hK K
      try simp only [Act.put, List.setIfInBounds_toArray, List.set_cons_zero, List.set_cons_succ]
      refine wpAnyD_one (i := 5) rfl (by kernel_rfl) rfl (fun K hK => ?_)
      go_simp
      refine hK _ _ (Or.inr ⟨c5', p0'⟩) ?_
      clear hK K c5 c5' p0 p0'
      try simp only [Act.put, List.setIfInBounds_toArray, List.set_cons_zero, List.set_cons_succ]
      refine wpAnyD_one (i := 6) rfl (by kernel_rfl) rfl (fun K hK => ?_)
      refine wp_append_lies _ (.tmp 3) (.tmp 7) 34 rfl B 36 i0 _ 6 64 Tryz.underlying34 hi hz0 hz1 hz2 rfl (by omega) (.slice a l.length c) l.length xs rfl F8.out.own ⟨w7.heap.size, 0, none⟩ 1 1 zEx.toList rfl rfl (World.news_of_block (heap_alloc_new w7 _)) ex_one (by omega) HBD.out.1 HBD.out.2 F8.out.top _ rfl ?_
      intro gg cg w9 hown hgrow hat hlt9
      have hfin := arg_fin (cap := cap) (ts := ts) F8.out Y8.out HD.out.1 HD.out.2 hown hgrow hat
      have h6 := six_N hown hfin.1
      have hpk : w9.cell? ⟨pb, 0, none⟩ = some (.pointer (some ⟨b, 0, none⟩)) := (F8.out.pbx.other hgrow (fun e => by have := (F8.out.own.lt pb e.symm).1; have := F8.out.pB; omega)).get 0 _ rfl
      have HF := Lib.hid (And.intro hfin h6)
      clear hown hgrow hat hfin h6
      refine hK _ _ (Or.inr ⟨HF.out.1.2.1.get 5 (.slice a l.length c) rfl, hpk⟩) ?_
      clear hK K hpk
      try simp only [Act.put, List.setIfInBounds_toArray, List.set_cons_zero, List.set_cons_succ]
      refine wpAnyD_free (i := 7) (v := ?_) rfl (by kernel_rfl) (by kernel_rfl) (by kernel_rfl) (by kernel_rfl) (fun _ _ _ h => h) (Or.inl ⟨by rfl, ?_⟩) ?_
      rotate_left
      · intro w hSw; clear hSw; go_simp
        try with_reducible rfl
      try simp only [Act.put, List.setIfInBounds_toArray, List.set_cons_zero, List.set_cons_succ]
      refine wpAnyD_free (i := 9) (v := ?_) rfl (by kernel_rfl) (by kernel_rfl) (by kernel_rfl) (by kernel_rfl) (fun _ _ _ h => h) (Or.inl ⟨by rfl, ?_⟩) ?_
      rotate_left
      · intro w hSw; clear hSw; go_simp
        try with_reducible rfl
      try simp only [Act.put, List.setIfInBounds_toArray, List.set_cons_zero, List.set_cons_succ]
      have c5 := HF.out.1.2.1.get 5 (.slice a l.length c) rfl
      have k5 := HF.out.1.2.1.free 5
      obtain ⟨d0, d1, d2, d3, d4, d5⟩ := HF.out.2
      have hgc := HF.out.1.2.2.1
      refine wpAnyD_two (i := 8) (j := 10) rfl rfl (by kernel_rfl) rfl rfl (fun K hK => ?_) (fun K hK => ?_)
      · go_simp
        rw [← elN_eq]
        refine hK _ _ (Or.inl rfl) ?_
        clear hK K
        try simp only [Act.put, List.setIfInBounds_toArray, List.set_cons_zero, List.set_cons_succ]
        have hbx := HF.out.1.2.1.other (grown_elN w9 gg (l.length * 6) (.int .u8 (yk : Int)) (.int .u8 (yo : Int)) (.string ⟨ynm.toArray⟩) (.int .i64 (yn : Int)) (.int .i64 (yp : Int)) (.slice ya ym yc)) (by simpa using Ne.symm hgc)
        have hFZ := HF.out.1.2.2.2.2 _ (Or.inl rfl)
        have c5 := hbx.get 5 (.slice a l.length c) rfl
        have k5 := hbx.free 5
        generalize elN w9 gg (l.length * 6) (.int .u8 (yk : Int)) (.int .u8 (yo : Int)) (.string ⟨ynm.toArray⟩) (.int .i64 (yn : Int)) (.int .i64 (yp : Int)) (.slice ya ym yc) = E9 at *
        clear hbx
        refine wpAnyD_one (i := 10) rfl (by kernel_rfl) rfl (fun K hK => ?_)
        go_simp
        refine hK _ _ (Or.inl rfl) ?_
        clear hK K
        try simp only [Act.put, List.setIfInBounds_toArray, List.set_cons_zero, List.set_cons_succ]
        refine wpAnyD_done (by kernel_rfl) ?_ _
        have FIN := Lib.hid (ItPost.ok (E := fun w' => w0.grownBy w' (some b)) HR7.out hFZ.1 (hFZ.2 _ HP8.out))
        clear hFZ d0 d1 d2 d3 d4 d5 c5 k5
        go_end0
        exact FIN.out
      · go_simp
        refine hK _ _ (Or.inl rfl) ?_
        clear hK K
        try simp only [Act.put, List.setIfInBounds_toArray, List.set_cons_zero, List.set_cons_succ]
        have hFZ := HF.out.1.2.2.2.2 _ (Or.inr rfl)
        have hoc : ∀ j u, w9.cell? ⟨gg, j, none⟩ = some u ∧ w9.frozen? ⟨gg, j, none⟩ = false → (w9.setCell ⟨cb, 5, none⟩ (.slice (some ⟨gg, 0, none⟩) (l.length + 1) cg)).cell? ⟨gg, j, none⟩ = some u ∧ (w9.setCell ⟨cb, 5, none⟩ (.slice (some ⟨gg, 0, none⟩) (l.length + 1) cg)).frozen? ⟨gg, j, none⟩ = false := fun j u h => ⟨(World.cell?_of_block (w := w9) (a := ⟨gg, j, none⟩) (Below.heap_setCell _ _ _ _ hgc)).trans h.1, (World.frozen?_of_block (w := w9) (a := ⟨gg, j, none⟩) (Below.heap_setCell _ _ _ _ hgc)).trans h.2⟩
        replace d0 := hoc _ _ d0
        replace d1 := hoc _ _ d1
        replace d2 := hoc _ _ d2
        replace d3 := hoc _ _ d3
        replace d4 := hoc _ _ d4
        replace d5 := hoc _ _ d5
        clear hoc
        generalize w9.setCell ⟨cb, 5, none⟩ (.slice (some ⟨gg, 0, none⟩) (l.length + 1) cg) = E9 at *
        refine wpAnyD_one (i := 8) rfl (by kernel_rfl) rfl (fun K hK => ?_)
        go_simp
        rw [← elN_eq]
        refine hK _ _ (Or.inl rfl) ?_
        clear hK K
        try simp only [Act.put, List.setIfInBounds_toArray, List.set_cons_zero, List.set_cons_succ]
        refine wpAnyD_done (by kernel_rfl) ?_ _
        have FIN := Lib.hid (ItPost.ok (E := fun w' => w0.grownBy w' (some b)) HR7.out hFZ.1 (hFZ.2 _ HP8.out))
        clear hFZ d0 d1 d2 d3 d4 d5 c5 k5
        go_end0
        exact FIN.out
  · go_simp
    have hbZ6 : Below w.heap.size w (w.drew.alloc (.cells zEx 36)) := ((Below.refl w.heap.size w).drew).alloc (Nat.le_refl _) _
    have hF6 := HF0.out.stays (grown_of_below hbZ6)
    have c5 := hF6.box.get 5 (.slice a l.length c) rfl
    have p0 := hF6.pbx.get 0 (.pointer (some ⟨b, 0, none⟩)) rfl
    have hzb : Blk w.heap.size zEx 36 (w.drew.alloc (.cells zEx 36)) := Blk.new w.drew _ _
    have hs6 : (w.drew.alloc (.cells zEx 36)).heap.size = w.heap.size + 1 := by show (w.heap.push _).size = _; exact Array.size_push _
    have hpW := HW.out.below hbZ6
    have lb := HW.out.blk.lt
    refine hK _ _ (Or.inr ⟨c5, p0⟩) ?_
    clear hK K c5 p0
    try simp only [Act.put, List.setIfInBounds_toArray, List.set_cons_zero, List.set_cons_succ]
    change wpAnyD _ _ _ _ _ _ _ _ _ (w.drew.alloc (.cells zEx 36))
    generalize w.drew.alloc (.cells zEx 36) = W6 at *
    have HC := Lib.hid (HEx.out W6 hpW)
    refine wpAnyD_one (i := 3) rfl (by kernel_rfl) rfl (fun K hK => ?_)
    go_simp
    refine HC.out.mono ?_
    rintro e w7 h7
    rcases h7.elim with ⟨pn, hr, hg, rfl⟩ | ⟨y, s4, hr, hg, ⟨yk, yo, ynm, yn, yp, ya, ym, yc, rfl, hy⟩, hp⟩
    · exact ⟨rfl, ItPost.err hr (gtrans hF6.grown hg)⟩
    · have hF7 := hF6.stays hg
      have HR7 := Lib.hid hr
      have F8 := Lib.hid hF7
      have HP8 := Lib.hid hp
      have Y8 := Lib.hid (show ExC w7 (fun h => w.heap.size ≤ h ∧ h < w7.heap.size) y _ from hy.stays fun j hj hl => ⟨rfl, by omega, hl⟩)
      have c5 := hF7.box.get 5 (.slice a l.length c) rfl
      have p0 := hF7.pbx.get 0 (.pointer (some ⟨b, 0, none⟩)) rfl
      have hzb7 := hzb.other hg (by simp; omega)
      clear hr hg h7 hp hF7 hbZ6 hy hzb hF6 hpW HC
      refine hK _ _ (Or.inr ⟨c5, p0⟩) ?_
      clear hK K c5 p0
      try simp only [Act.put, List.setIfInBounds_toArray, List.set_cons_zero, List.set_cons_succ]
      refine wpAnyD_one (i := 6) rfl (by kernel_rfl) rfl (fun K hK => ?_)
      refine wp_append_lies _ (.tmp 3) (.tmp 7) 34 rfl B 36 i0 _ 6 64 Tryz.underlying34 hi hz0 hz1 hz2 rfl (by omega) (.slice a l.length c) l.length xs rfl F8.out.own ⟨w.heap.size, 0, none⟩ 1 1 zEx.toList rfl rfl (World.news_of_block hzb7) ex_one (by omega) HBD.out.1 HBD.out.2 F8.out.top _ rfl ?_
      intro gg cg w9 hown hgrow hat hlt9
      have hfin := arg_fin (cap := cap) (ts := ts) F8.out Y8.out HD.out.1 HD.out.2 hown hgrow hat
      have h6 := six_N hown hfin.1
      have hpk : w9.cell? ⟨pb, 0, none⟩ = some (.pointer (some ⟨b, 0, none⟩)) := (F8.out.pbx.other hgrow (fun e => by have := (F8.out.own.lt pb e.symm).1; have := F8.out.pB; omega)).get 0 _ rfl
      have HF := Lib.hid (And.intro hfin h6)
      clear hown hgrow hat hfin h6
      refine hK _ _ (Or.inr ⟨HF.out.1.2.1.get 5 (.slice a l.length c) rfl, hpk⟩) ?_
      clear hK K hpk
      try simp only [Act.put, List.setIfInBounds_toArray, List.set_cons_zero, List.set_cons_succ]
      refine wpAnyD_free (i := 7) (v := ?_) rfl (by kernel_rfl) (by kernel_rfl) (by kernel_rfl) (by kernel_rfl) (fun _ _ _ h => h) (Or.inl ⟨by rfl, ?_⟩) ?_
      rotate_left
      · intro w hSw; clear hSw; go_simp
        try with_reducible rfl
      try simp only [Act.put, List.setIfInBounds_toArray, List.set_cons_zero, List.set_cons_succ]
      refine wpAnyD_free (i := 9) (v := ?_) rfl (by kernel_rfl) (by kernel_rfl) (by kernel_rfl) (by kernel_rfl) (fun _ _ _ h => h) (Or.inl ⟨by rfl, ?_⟩) ?_
      rotate_left
      · intro w hSw; clear hSw; go_simp
        try with_reducible rfl
      try simp only [Act.put, List.setIfInBounds_toArray, List.set_cons_zero, List.set_cons_succ]
      have c5 := HF.out.1.2.1.get 5 (.slice a l.length c) rfl
      have k5 := HF.out.1.2.1.free 5
      obtain ⟨d0, d1, d2, d3, d4, d5⟩ := HF.out.2
      have hgc := HF.out.1.2.2.1
      refine wpAnyD_two (i := 8) (j := 10) rfl rfl (by kernel_rfl) rfl rfl (fun K hK => ?_) (fun K hK => ?_)
      · go_simp
        rw [← elN_eq]
        refine hK _ _ (Or.inl rfl) ?_
        clear hK K
        try simp only [Act.put, List.setIfInBounds_toArray, List.set_cons_zero, List.set_cons_succ]
        have hbx := HF.out.1.2.1.other (grown_elN w9 gg (l.length * 6) (.int .u8 (yk : Int)) (.int .u8 (yo : Int)) (.string ⟨ynm.toArray⟩) (.int .i64 (yn : Int)) (.int .i64 (yp : Int)) (.slice ya ym yc)) (by simpa using Ne.symm hgc)
        have hFZ := HF.out.1.2.2.2.2 _ (Or.inl rfl)
        have c5 := hbx.get 5 (.slice a l.length c) rfl
        have k5 := hbx.free 5
        generalize elN w9 gg (l.length * 6) (.int .u8 (yk : Int)) (.int .u8 (yo : Int)) (.string ⟨ynm.toArray⟩) (.int .i64 (yn : Int)) (.int .i64 (yp : Int)) (.slice ya ym yc) = E9 at *
        clear hbx
        refine wpAnyD_one (i := 10) rfl (by kernel_rfl) rfl (fun K hK => ?_)
        go_simp
        refine hK _ _ (Or.inl rfl) ?_
        clear hK K
        try simp only [Act.put, List.setIfInBounds_toArray, List.set_cons_zero, List.set_cons_succ]
        refine wpAnyD_done (by kernel_rfl) ?_ _
        have FIN := Lib.hid (ItPost.ok (E := fun w' => w0.grownBy w' (some b)) HR7.out hFZ.1 (hFZ.2 _ HP8.out))
        clear hFZ d0 d1 d2 d3 d4 d5 c5 k5
        go_end0
        exact FIN.out
      · go_simp
        refine hK _ _ (Or.inl rfl) ?_
        clear hK K
        try simp only [Act.put, List.setIfInBounds_toArray, List.set_cons_zero, List.set_cons_succ]
        have hFZ := HF.out.1.2.2.2.2 _ (Or.inr rfl)
        have hoc : ∀ j u, w9.cell? ⟨gg, j, none⟩ = some u ∧ w9.frozen? ⟨gg, j, none⟩ = false → (w9.setCell ⟨cb, 5, none⟩ (.slice (some ⟨gg, 0, none⟩) (l.length + 1) cg)).cell? ⟨gg, j, none⟩ = some u ∧ (w9.setCell ⟨cb, 5, none⟩ (.slice (some ⟨gg, 0, none⟩) (l.length + 1) cg)).frozen? ⟨gg, j, none⟩ = false := fun j u h => ⟨(World.cell?_of_block (w := w9) (a := ⟨gg, j, none⟩) (Below.heap_setCell _ _ _ _ hgc)).trans h.1, (World.frozen?_of_block (w := w9) (a := ⟨gg, j, none⟩) (Below.heap_setCell _ _ _ _ hgc)).trans h.2⟩
        replace d0 := hoc _ _ d0
        replace d1 := hoc _ _ d1
        replace d2 := hoc _ _ d2
        replace d3 := hoc _ _ d3
        replace d4 := hoc _ _ d4
        replace d5 := hoc _ _ d5
        clear hoc
        generalize w9.setCell ⟨cb, 5, none⟩ (.slice (some ⟨gg, 0, none⟩) (l.length + 1) cg) = E9 at *
        refine wpAnyD_one (i := 8) rfl (by kernel_rfl) rfl (fun K hK => ?_)
        go_simp
        rw [← elN_eq]
        refine hK _ _ (Or.inl rfl) ?_
        clear hK K
        try simp only [Act.put, List.setIfInBounds_toArray, List.set_cons_zero, List.set_cons_succ]
        refine wpAnyD_done (by kernel_rfl) ?_ _
        have FIN := Lib.hid (ItPost.ok (E := fun w' => w0.grownBy w' (some b)) HR7.out hFZ.1 (hFZ.2 _ HP8.out))
        clear hFZ d0 d1 d2 d3 d4 d5 c5 k5
        go_end0
        exact FIN.out

set_option maxRecDepth 100000 in
set_option maxHeartbeats 2000000 in
theorem call_any {F : Nat} (hB : BinC F) (b g cap : Nat) (ts : List Tok) (u : Tok) (s : St) (w : World) (hw : PW b g cap ts s w) (hne : callF ts F u s ≠ gone) :
    Calls Tryz.prog 101 #[.pointer (some ⟨b, 0, none⟩), .agg #[.int .u8 (u.kind : Int), .int .i64 (u.pos : Int), .string ⟨u.text.toArray⟩, .int .i64 (u.num : Int)]] w (RPost b g cap ts w (exE w.heap.size) (callF ts F u s)) := by
  obtain ⟨t0, t1, t2, t3⟩ := u
  have hlt := hw.blk.lt
  have hgl := hw.toks.lt
  obtain ⟨W, hW⟩ : ∃ W, W = ((w.alloc (.cells #[.pointer (some ⟨b, 0, none⟩)] 102)).alloc (.cells #[.int .u8 (t0 : Int), .int .i64 (t1 : Int), .string ⟨t2.toArray⟩, .int .i64 (t3 : Int)] 55)).alloc ex0 := ⟨_, rfl⟩
  have hbW : Below w.heap.size w W := by rw [hW]; go_grown
  have hsW : W.heap.size = w.heap.size + 3 := by rw [hW]; simp
  have q0 : Blk w.heap.size #[.pointer (some ⟨b, 0, none⟩)] 102 W := by rw [hW]; exact ((Blk.new w _ _).below ((Below.refl _ _).alloc (Nat.le_refl _) _) (by simp)).below ((Below.refl _ _).alloc (Nat.le_refl _) _) (by simp; omega)
  have q1 : Blk (w.heap.size + 1) #[.int .u8 (t0 : Int), .int .i64 (t1 : Int), .string ⟨t2.toArray⟩, .int .i64 (t3 : Int)] 55 W := by rw [hW]; exact (Blk.new' _ _ _ (by simp)).below ((Below.refl _ _).alloc (Nat.le_refl _) _) (by simp)
  have q2 : Blk (w.heap.size + 2) zEx 36 W := by rw [hW]; exact Blk.new' _ _ _ (by simp)
  obtain ⟨V, hV⟩ : ∃ V, V = W.alloc (.cells #[.int .u8 5, .int .u8 0, .string ⟨t2.toArray⟩, .int .i64 0, .int .i64 (t1 : Int), .slice none 0 0] 36) := ⟨_, rfl⟩
  have hbV : Below W.heap.size W V := by rw [hV]; exact (Below.refl _ _).alloc (Nat.le_refl _) _
  have hbw : Below w.heap.size w V := hbW.trans (hbV.mono hbW.size)
  have hsV : V.heap.size = w.heap.size + 4 := by rw [hV]; simp; omega
  have hI : ArgI b g W (w.heap.size + 4) (w.heap.size + 3) w.heap.size t2 t1 [] V := by
    refine ⟨none, 0, [], grown_of_below hbV, q0.below hbV (by omega), ?_, World.ownsRow_nil _ _ _ _, by simp [ExsC], by omega, by omega, by omega, by omega, by omega, by omega, by omega, by omega⟩
    rw [hV]
    exact Blk.new' _ _ _ (by omega)
  have hL := list_args (binF ts F 1) (ArgI b g W (w.heap.size + 4) (w.heap.size + 3) w.heap.size t2 t1) (fun w' => W.grownBy w' (some b)) b g cap ts #[.pointer (some ⟨w.heap.size + 3, 0, none⟩), .pointer (some ⟨w.heap.size, 0, none⟩)]
    (fun l w w' h hg => h.stays hg) (fun l w h => h.grown) (fun s x s' h => ((exprs_adv ts F).1 _ _ _ _ h).2) (fun l s v hl h hv hn => arg_item hB b g cap ts W _ _ _ _ _ l s v hl h hv hn) F s V hI (hw.below hbw) (bindR_gone hne)
  have HL := Lib.hid hL
  have HRB := Lib.hid (show callF ts F ⟨t0, t1, t2, t3⟩ s = bindR (listB ts (binF ts F 1) F s) fun l s => .ok (.mk 5 0 t2 0 t1 l, s) from rfl)
  have HH := Lib.hid (And.intro hbW (And.intro (q0.below hbV (by omega)) (And.intro q2 hsV)))
  have HWW := Lib.hid hW
  have HVV := Lib.hid hV
  have HQ := Lib.hid (And.intro q1 hsW)
  have HW := Lib.hid hw
  have hmf : ∀ (fn : Fn) (first cap : Array Value) (w : World), (Instr.makeFunc fn first cap).run Tryz.prog w = .ok (.func fn first cap) w := fun _ _ _ _ => rfl
  clear hw hne hW hbW hsW q0 q1 q2 hV hbV hbw hsV hI hL hB
  go_enter Tryz.func101, Tryz.ntmps101
  go_upto_region 1 with (fail)
  rw [← HWW.out]
  obtain ⟨c0, c1, c2, c3⟩ := HQ.out.1.get4
  go_upto_region 2 with (fail)
  rw [← HVV.out, HQ.out.2, show w.heap.size + 1 + 1 = w.heap.size + 2 from rfl]
  clear c0 c1 c2 c3 HVV HWW HQ
  have p0 := HH.out.2.1.get 0 (.pointer (some ⟨b, 0, none⟩)) rfl
  go_wp2_with fail
  refine HL.out.mono ?_
  rintro e w4 h4
  rcases h4.elim with ⟨pn, hr, hg, rfl⟩ | ⟨l, s', hr, rfl, hI, hp⟩
  · have FIN := Lib.hid (RPost.err (α := Ex) (g := g) (cap := cap) (ts := ts) (V := exE w.heap.size) (HRB.out.trans (by rw [hr]; rfl)) (gtrans (row := some b) (grown_of_below HH.out.1) hg))
    clear hr hg h4 p0
    go_wp2
    exact ⟨rfl, FIN.out⟩
  · obtain ⟨a, c, xs, hF⟩ := hI
    have hz4 : Blk (w.heap.size + 2) zEx 36 w4 := HH.out.2.2.1.other hF.grown (by simp; omega)
    obtain ⟨z0, z1, z2, z3, z4, z5⟩ := hz4.get6
    obtain ⟨f0, f1, f2, f3, f4, f5⟩ := hz4.free6
    obtain ⟨c0, c1, c2, c3, c4, c5⟩ := hF.box.get6
    have hgU := grown_set6 w4 (w.heap.size + 2) (.int .u8 5) (.int .u8 0) (.string ⟨t2.toArray⟩) (.int .i64 0) (.int .i64 (t1 : Int)) (.slice a l.length c)
    have hbU := hz4.set6 (.int .u8 5) (.int .u8 0) (.string ⟨t2.toArray⟩) (.int .i64 0) (.int .i64 (t1 : Int)) (.slice a l.length c)
    obtain ⟨U, hU⟩ : ∃ U, U = set6 w4 (w.heap.size + 2) (.int .u8 5) (.int .u8 0) (.string ⟨t2.toArray⟩) (.int .i64 0) (.int .i64 (t1 : Int)) (.slice a l.length c) := ⟨_, rfl⟩
    rw [← hU] at hgU hbU
    have FIN := Lib.hid (And.intro hbU (RPost.ok (α := Ex) (g := g) (cap := cap) (ts := ts) (V := exE w.heap.size) (e := .returned (.agg #[.int .u8 5, .int .u8 0, .string ⟨t2.toArray⟩, .int .i64 0, .int .i64 (t1 : Int), .slice a l.length c])) (HRB.out.trans (by rw [hr, bindR_ok])) (gnew (gtrans (row := some b) (grown_of_below HH.out.1) hF.grown) (by omega) hgU)
      ⟨5, 0, t2, 0, t1, a, l.length, c, rfl, by
        simp only [ExC]
        refine ⟨_, rfl, ?_⟩
        rcases own_slice hF.own with ⟨e, hl⟩ | ⟨gg, cc, e⟩
        · exact Or.inl ⟨List.length_eq_zero_iff.1 hl, e⟩
        · have ho := hF.own
          have hx := hF.exs
          rw [e] at ho hx ⊢
          have hB := (ho.lt gg rfl).1
          exact Or.inr ⟨gg, cc, xs, rfl, by omega, owns_stays (owns_down ho) (hgU.block gg (ho.lt gg rfl).2 (by simp; omega)), hx.stays fun h hh hl => ⟨hgU.block h hl (by simp; omega), by omega⟩⟩⟩ (hp.other hgU (by simp; omega) (by simp; omega))))
    have HUU := Lib.hid hU
    clear hr hp h4 hF hz4 hgU hbU hU p0
    go_wp2
    rw [← set6_eq, ← HUU.out]
    obtain ⟨y0, y1, y2, y3, y4, y5⟩ := FIN.out.1.get6
    clear z0 z1 z2 z3 z4 z5 f0 f1 f2 f3 f4 f5 c0 c1 c2 c3 c4 c5
    exact bodyPost_ret (v := .agg #[.int .u8 5, .int .u8 0, .string ⟨t2.toArray⟩, .int .i64 0, .int .i64 (t1 : Int), .slice a l.length c]) (by simp [results, Tryz.results101, go_sem, y0, y1, y2, y3, y4, y5]) rfl FIN.out.2
end Go.Proofs.YtcgllooeimacdaaGreatDoor
