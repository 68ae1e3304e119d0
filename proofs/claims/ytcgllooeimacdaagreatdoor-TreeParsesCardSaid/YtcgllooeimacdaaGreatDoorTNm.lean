/-
  Joined: TStm, TNm.
-/
import Derived.Test.YtcgllooeimacdaaGreatDoorTOp
/-! A statement: a return with its value. -/

namespace Go.Proofs.YtcgllooeimacdaaGreatDoor
open Go Go.RowKit Px
open Lx (Tok)

theorem binC_zero : BinC 0 := fun b g cap ts s least w _ _ h => absurd (by rw [binF]) h
theorem unC_zero : UnC 0 := fun b g cap ts s w _ h => absurd (by rw [unF]) h
theorem opC_zero : OpC 0 := fun b g cap ts s w _ h => absurd (by rw [opF]) h
theorem useC_zero : UseC 0 := fun b g cap ts s w _ t0 t1 t2 t3 h => absurd (by rw [useF]) h
theorem all_C : ∀ f, BinC f ∧ UnC f ∧ OpC f ∧ UseC f ∧ ∀ k, k < f → BinC k
  | 0 => ⟨binC_zero, unC_zero, opC_zero, useC_zero, fun k h => by omega⟩
  | f + 1 => by
    obtain ⟨h1, h2, h3, h4, h5⟩ := all_C f
    have hle : ∀ k, k ≤ f → BinC k := fun k hk => by
      rcases Nat.lt_or_ge k f with h | h
      · exact h5 k h
      · obtain rfl : k = f := by omega
        exact h1
    exact ⟨binary_step h2 hle, unary_step h3 h2, operand_step h1 h4, use_step h1, fun k hk => hle k (by omega)⟩
theorem binC (f : Nat) : BinC f := (all_C f).1

theorem one_any (f : Nat) (b g cap : Nat) (ts : List Tok) (s : St) (w : World) (hw : PW b g cap ts s w) (hne : binF ts f 1 s ≠ gone) :
    Calls Tryz.prog 88 #[.pointer (some ⟨b, 0, none⟩)] w (RPost b g cap ts w (oneE w.heap.size) (binF ts f 1 s)) := one_C (binC f) b g cap ts s w hw hne
theorem place_any (f : Nat) (b g cap : Nat) (ts : List Tok) (s : St) (w : World) (hw : PW b g cap ts s w) (hne : placeF ts f s ≠ gone) :
    Calls Tryz.prog 99 #[.pointer (some ⟨b, 0, none⟩)] w (RPost b g cap ts w (oneE w.heap.size) (placeF ts f s)) := place_C (binC f) b g cap ts s w hw hne

abbrev smCells (k id : Nat) (nm : Bytes) (t n pos : Nat) (v1 v2 v3 : Value) : Array Value := #[.int .u8 (k : Int), .int .i64 (id : Int), .string ⟨nm.toArray⟩, .int .u8 (t : Int), .int .i64 (n : Int), .int .i64 (pos : Int), v1, v2, v3]
/-- A statement that is answered. -/
def smE (B : Nat) (x : Sm) (e : Ending) (w' : World) : Prop := ∃ (k id : Nat) (nm : Bytes) (t n pos : Nat) (a1 : Option Addr) (m1 c1 : Nat) (a2 : Option Addr) (m2 c2 : Nat) (a3 : Option Addr) (m3 c3 : Nat),
  e = .returned (.agg (smCells k id nm t n pos (.slice a1 m1 c1) (.slice a2 m2 c2) (.slice a3 m3 c3))) ∧ SmC w' (fun g => B ≤ g) x (smCells k id nm t n pos (.slice a1 m1 c1) (.slice a2 m2 c2) (.slice a3 m3 c3)).toList

abbrev zSm : Array Value := #[.int .u8 0, .int .i64 0, .string ⟨#[]⟩, .int .u8 0, .int .i64 0, .int .i64 0, .slice none 0 0, .slice none 0 0, .slice none 0 0]
abbrev sm0 : Obj := .cells zSm 39

section
variable {b : Nat} {T : TypeId} {w : World}
theorem Blk.get9 {v0 v1 v2 v3 v4 v5 v6 v7 v8 : Value} (h : Blk b #[v0, v1, v2, v3, v4, v5, v6, v7, v8] T w) : w.cell? ⟨b, 0, none⟩ = some v0 ∧ w.cell? ⟨b, 1, none⟩ = some v1 ∧ w.cell? ⟨b, 2, none⟩ = some v2 ∧ w.cell? ⟨b, 3, none⟩ = some v3 ∧ w.cell? ⟨b, 4, none⟩ = some v4 ∧ w.cell? ⟨b, 5, none⟩ = some v5 ∧ w.cell? ⟨b, 6, none⟩ = some v6 ∧ w.cell? ⟨b, 7, none⟩ = some v7 ∧ w.cell? ⟨b, 8, none⟩ = some v8 :=
  ⟨h.get 0 v0 rfl, h.get 1 v1 rfl, h.get 2 v2 rfl, h.get 3 v3 rfl, h.get 4 v4 rfl, h.get 5 v5 rfl, h.get 6 v6 rfl, h.get 7 v7 rfl, h.get 8 v8 rfl⟩
theorem Blk.free9 {cs : Array Value} (h : Blk b cs T w) : w.frozen? ⟨b, 0, none⟩ = false ∧ w.frozen? ⟨b, 1, none⟩ = false ∧ w.frozen? ⟨b, 2, none⟩ = false ∧ w.frozen? ⟨b, 3, none⟩ = false ∧ w.frozen? ⟨b, 4, none⟩ = false ∧ w.frozen? ⟨b, 5, none⟩ = false ∧ w.frozen? ⟨b, 6, none⟩ = false ∧ w.frozen? ⟨b, 7, none⟩ = false ∧ w.frozen? ⟨b, 8, none⟩ = false :=
  ⟨h.free 0, h.free 1, h.free 2, h.free 3, h.free 4, h.free 5, h.free 6, h.free 7, h.free 8⟩
def set9 (w : World) (b : Nat) (u0 u1 u2 u3 u4 u5 u6 u7 u8 : Value) : World := ((((((((w.setCell ⟨b, 0, none⟩ u0).setCell ⟨b, 1, none⟩ u1).setCell ⟨b, 2, none⟩ u2).setCell ⟨b, 3, none⟩ u3).setCell ⟨b, 4, none⟩ u4).setCell ⟨b, 5, none⟩ u5).setCell ⟨b, 6, none⟩ u6).setCell ⟨b, 7, none⟩ u7).setCell ⟨b, 8, none⟩ u8
theorem set9_eq (w : World) (b : Nat) (u0 u1 u2 u3 u4 u5 u6 u7 u8 : Value) : set9 w b u0 u1 u2 u3 u4 u5 u6 u7 u8 = ((((((((w.setCell ⟨b, 0, none⟩ u0).setCell ⟨b, 1, none⟩ u1).setCell ⟨b, 2, none⟩ u2).setCell ⟨b, 3, none⟩ u3).setCell ⟨b, 4, none⟩ u4).setCell ⟨b, 5, none⟩ u5).setCell ⟨b, 6, none⟩ u6).setCell ⟨b, 7, none⟩ u7).setCell ⟨b, 8, none⟩ u8 := rfl
theorem Blk.set9 {v0 v1 v2 v3 v4 v5 v6 v7 v8 : Value} (h : Blk b #[v0, v1, v2, v3, v4, v5, v6, v7, v8] T w) (u0 u1 u2 u3 u4 u5 u6 u7 u8 : Value) : Blk b #[u0, u1, u2, u3, u4, u5, u6, u7, u8] T (set9 w b u0 u1 u2 u3 u4 u5 u6 u7 u8) := by
  have h0 : Blk b #[u0, v1, v2, v3, v4, v5, v6, v7, v8] T ((w).setCell ⟨b, 0, none⟩ u0) := h.set 0 u0
  have h1 : Blk b #[u0, u1, v2, v3, v4, v5, v6, v7, v8] T (((w).setCell ⟨b, 0, none⟩ u0).setCell ⟨b, 1, none⟩ u1) := h0.set 1 u1
  have h2 : Blk b #[u0, u1, u2, v3, v4, v5, v6, v7, v8] T ((((w).setCell ⟨b, 0, none⟩ u0).setCell ⟨b, 1, none⟩ u1).setCell ⟨b, 2, none⟩ u2) := h1.set 2 u2
  have h3 : Blk b #[u0, u1, u2, u3, v4, v5, v6, v7, v8] T (((((w).setCell ⟨b, 0, none⟩ u0).setCell ⟨b, 1, none⟩ u1).setCell ⟨b, 2, none⟩ u2).setCell ⟨b, 3, none⟩ u3) := h2.set 3 u3
  have h4 : Blk b #[u0, u1, u2, u3, u4, v5, v6, v7, v8] T ((((((w).setCell ⟨b, 0, none⟩ u0).setCell ⟨b, 1, none⟩ u1).setCell ⟨b, 2, none⟩ u2).setCell ⟨b, 3, none⟩ u3).setCell ⟨b, 4, none⟩ u4) := h3.set 4 u4
  have h5 : Blk b #[u0, u1, u2, u3, u4, u5, v6, v7, v8] T (((((((w).setCell ⟨b, 0, none⟩ u0).setCell ⟨b, 1, none⟩ u1).setCell ⟨b, 2, none⟩ u2).setCell ⟨b, 3, none⟩ u3).setCell ⟨b, 4, none⟩ u4).setCell ⟨b, 5, none⟩ u5) := h4.set 5 u5
  have h6 : Blk b #[u0, u1, u2, u3, u4, u5, u6, v7, v8] T ((((((((w).setCell ⟨b, 0, none⟩ u0).setCell ⟨b, 1, none⟩ u1).setCell ⟨b, 2, none⟩ u2).setCell ⟨b, 3, none⟩ u3).setCell ⟨b, 4, none⟩ u4).setCell ⟨b, 5, none⟩ u5).setCell ⟨b, 6, none⟩ u6) := h5.set 6 u6
  have h7 : Blk b #[u0, u1, u2, u3, u4, u5, u6, u7, v8] T (((((((((w).setCell ⟨b, 0, none⟩ u0).setCell ⟨b, 1, none⟩ u1).setCell ⟨b, 2, none⟩ u2).setCell ⟨b, 3, none⟩ u3).setCell ⟨b, 4, none⟩ u4).setCell ⟨b, 5, none⟩ u5).setCell ⟨b, 6, none⟩ u6).setCell ⟨b, 7, none⟩ u7) := h6.set 7 u7
  have h8 : Blk b #[u0, u1, u2, u3, u4, u5, u6, u7, u8] T ((((((((((w).setCell ⟨b, 0, none⟩ u0).setCell ⟨b, 1, none⟩ u1).setCell ⟨b, 2, none⟩ u2).setCell ⟨b, 3, none⟩ u3).setCell ⟨b, 4, none⟩ u4).setCell ⟨b, 5, none⟩ u5).setCell ⟨b, 6, none⟩ u6).setCell ⟨b, 7, none⟩ u7).setCell ⟨b, 8, none⟩ u8) := h7.set 8 u8
  exact h8
theorem grown_set9 (w : World) (b : Nat) (u0 u1 u2 u3 u4 u5 u6 u7 u8 : Value) : w.grownBy (Proofs.YtcgllooeimacdaaGreatDoor.set9 w b u0 u1 u2 u3 u4 u5 u6 u7 u8) (some b) :=
  gtrans (gtrans (gtrans (gtrans (gtrans (gtrans (gtrans (gtrans (Lib.grownBy_setCell _ _ _ _) (Lib.grownBy_setCell _ _ _ _)) (Lib.grownBy_setCell _ _ _ _)) (Lib.grownBy_setCell _ _ _ _)) (Lib.grownBy_setCell _ _ _ _)) (Lib.grownBy_setCell _ _ _ _)) (Lib.grownBy_setCell _ _ _ _)) (Lib.grownBy_setCell _ _ _ _)) (Lib.grownBy_setCell _ _ _ _)
end

/-- The boxes of a statement: the result's, the token's, the statement's that is being made. -/
structure SmW (b g cap : Nat) (ts : List Tok) (s : St) (w : World) (M : Nat) (t : Tok) (cs : Array Value) (w' : World) : Prop where
  grown : w.grownBy w' (some b)
  res : Blk w.heap.size zSm 39 w'
  tok : Blk M #[.int .u8 (t.kind : Int), .int .i64 (t.pos : Int), .string ⟨t.text.toArray⟩, .int .i64 (t.num : Int)] 55 w'
  box : Blk (M + 1) cs 39 w'
  pw : PW b g cap ts s w'
  lt : w.heap.size < M
theorem SmW.below {b g cap : Nat} {ts : List Tok} {s : St} {w w1 w2 : World} {M : Nat} {t : Tok} {cs : Array Value} (h : SmW b g cap ts s w M t cs w1) (hb : Below w1.heap.size w1 w2) : SmW b g cap ts s w M t cs w2 :=
  ⟨gtrans h.grown (grown_of_below hb), h.res.below hb h.res.lt, h.tok.below hb h.tok.lt, h.box.below hb h.box.lt, h.pw.below hb, h.lt⟩
theorem SmW.other {b g cap : Nat} {ts : List Tok} {s s' : St} {w w1 w2 : World} {M : Nat} {t : Tok} {cs : Array Value} (hlt : b < w.heap.size) (h : SmW b g cap ts s w M t cs w1) (hg : w1.grownBy w2 (some b)) (hp : PW b g cap ts s' w2) : SmW b g cap ts s' w M t cs w2 :=
  ⟨gtrans h.grown hg, h.res.other hg (by simp; omega), h.tok.other hg (by have := h.lt; simp; omega), h.box.other hg (by have := h.lt; simp; omega), hp, h.lt⟩
theorem SmW.set {b g cap : Nat} {ts : List Tok} {s : St} {w w1 : World} {M : Nat} {t : Tok} {cs : Array Value} (hlt : b < w.heap.size) (hgl : g < w.heap.size) (h : SmW b g cap ts s w M t cs w1) (j : Nat) (u : Value) : SmW b g cap ts s w M t (cs.setIfInBounds j u) (w1.setCell ⟨M + 1, j, none⟩ u) := by
  have hg : w1.grownBy (w1.setCell ⟨M + 1, j, none⟩ u) (some (M + 1)) := Lib.grownBy_setCell _ _ _ _
  have := h.lt
  exact ⟨gnew h.grown (by omega) hg, h.res.other hg (by simp; omega), h.tok.other hg (by simp), h.box.set j u, h.pw.other hg (by simp; omega) (by simp; omega), h.lt⟩
theorem SmW.fin {b g cap : Nat} {ts : List Tok} {s s0 : St} {w w1 : World} {M : Nat} {tt : Tok} {cs : Array Value} (hw : PW b g cap ts s0 w) (h : SmW b g cap ts s w M tt cs w1) {x : Sm} {k id : Nat} {nm : Bytes} {t n pos : Nat} {a1 : Option Addr} {m1 c1 : Nat} {a2 : Option Addr} {m2 c2 : Nat} {a3 : Option Addr} {m3 c3 : Nat}
    (hx : SmC w1 (fun h => w.heap.size < h) x (smCells k id nm t n pos (.slice a1 m1 c1) (.slice a2 m2 c2) (.slice a3 m3 c3)).toList) :
    ∀ U, U = set9 w1 w.heap.size (.int .u8 (k : Int)) (.int .i64 (id : Int)) (.string ⟨nm.toArray⟩) (.int .u8 (t : Int)) (.int .i64 (n : Int)) (.int .i64 (pos : Int)) (.slice a1 m1 c1) (.slice a2 m2 c2) (.slice a3 m3 c3) →
    Blk w.heap.size (smCells k id nm t n pos (.slice a1 m1 c1) (.slice a2 m2 c2) (.slice a3 m3 c3)) 39 U ∧ w.grownBy U (some b) ∧ PW b g cap ts s U ∧
      smE w.heap.size x (.returned (.agg (smCells k id nm t n pos (.slice a1 m1 c1) (.slice a2 m2 c2) (.slice a3 m3 c3)))) U := by
  rintro U rfl
  have hlt := hw.blk.lt
  have hgl := hw.toks.lt
  have hs := grown_set9 w1 w.heap.size (.int .u8 (k : Int)) (.int .i64 (id : Int)) (.string ⟨nm.toArray⟩) (.int .u8 (t : Int)) (.int .i64 (n : Int)) (.int .i64 (pos : Int)) (.slice a1 m1 c1) (.slice a2 m2 c2) (.slice a3 m3 c3)
  exact ⟨h.res.set9 _ _ _ _ _ _ _ _ _, gnew h.grown (Nat.le_refl _) hs, h.pw.other hs (by simp; omega) (by simp; omega), k, id, nm, t, n, pos, a1, m1, c1, a2, m2, c2, a3, m3, c3, rfl, hx.stays (stays_of_grown hs fun g hg => ⟨by omega, by omega⟩)⟩
end Go.Proofs.YtcgllooeimacdaaGreatDoor

/-! Two blocks that are written: the parser's, and a statement's own box. What a statement that begins with a name leaves. -/

namespace Go.Proofs.YtcgllooeimacdaaGreatDoor
open Go Go.RowKit Px
open Lx (Tok)

/-- Of what was there two blocks alone have turned. -/
structure Grown2 (b c : Nat) (w w' : World) : Prop where
  os : w'.os = w.os
  tape : w'.tape = w.tape
  output : w'.output = w.output
  size : w.heap.size ≤ w'.heap.size
  block : ∀ k, k < w.heap.size → k ≠ b → k ≠ c → w'.heap[k]? = w.heap[k]?
section
variable {b c : Nat} {w w1 w2 : World}
theorem Grown2.of1 (h : w.grownBy w1 (some b)) : Grown2 b c w w1 := ⟨h.os, h.tape, h.output, h.size, fun k hk h1 _ => h.block k hk (by simpa using h1)⟩
theorem Grown2.of2 (h : w.grownBy w1 (some c)) : Grown2 b c w w1 := ⟨h.os, h.tape, h.output, h.size, fun k hk _ h1 => h.block k hk (by simpa using h1)⟩
theorem Grown2.below (h : Below w.heap.size w w1) : Grown2 b c w w1 := .of1 (grown_of_below h)
theorem Grown2.refl (b c : Nat) (w : World) : Grown2 b c w w := ⟨rfl, rfl, rfl, Nat.le_refl _, fun _ _ _ _ => rfl⟩
theorem Grown2.trans (h : Grown2 b c w w1) (k : Grown2 b c w1 w2) : Grown2 b c w w2 :=
  ⟨k.os.trans h.os, k.tape.trans h.tape, k.output.trans h.output, Nat.le_trans h.size k.size, fun i hi h1 h2 => (k.block i (Nat.lt_of_lt_of_le hi h.size) h1 h2).trans (h.block i hi h1 h2)⟩
/-- A block that is new, or one of the two, is written. -/
theorem Grown2.own {row : Option Nat} (h : Grown2 b c w w1) (k : w1.grownBy w2 row) (hr : ∀ j, row = some j → w.heap.size ≤ j ∨ j = b ∨ j = c) : Grown2 b c w w2 :=
  ⟨k.os.trans h.os, k.tape.trans h.tape, k.output.trans h.output, Nat.le_trans h.size k.size, fun i hi h1 h2 => (k.block i (Nat.lt_of_lt_of_le hi h.size) (fun e => by rcases hr i e.symm with h | h | h <;> omega)).trans (h.block i hi h1 h2)⟩
theorem Grown2.stays {T : TypeId} {k : Nat} {cs : Array Value} (h : Grown2 b c w w1) (hk : Blk k cs T w) (h1 : k ≠ b) (h2 : k ≠ c) : Blk k cs T w1 := (h.block k hk.lt h1 h2).trans hk
end

/-- A statement in its box. -/
def smB (c B : Nat) (x : Sm) (w' : World) : Prop := ∃ (k id : Nat) (nm : Bytes) (t n pos : Nat) (a1 : Option Addr) (m1 c1 : Nat) (a2 : Option Addr) (m2 c2 : Nat) (a3 : Option Addr) (m3 c3 : Nat),
  Blk c (smCells k id nm t n pos (.slice a1 m1 c1) (.slice a2 m2 c2) (.slice a3 m3 c3)) 39 w' ∧ SmC w' (fun g => B ≤ g) x (smCells k id nm t n pos (.slice a1 m1 c1) (.slice a2 m2 c2) (.slice a3 m3 c3)).toList
/-- What a function leaves that fills a statement's box. -/
def NmPost (b g cap : Nat) (ts : List Tok) (c : Nat) (w : World) (r : R Sm) (e : Ending) (w' : World) : Prop :=
  Grown2 b c w w' ∧ match r with
    | .error pn => e = .panicked (faultP pn.1 pn.2)
    | .ok (x, s') => e = .returned (.tuple #[]) ∧ smB c w.heap.size x w' ∧ PW b g cap ts s' w'
section
variable {b g cap c : Nat} {ts : List Tok} {w w' : World} {r : R Sm} {e : Ending}
theorem NmPost.elim (h : NmPost b g cap ts c w r e w') : (∃ pn, r = .error pn ∧ Grown2 b c w w' ∧ e = .panicked (faultP pn.1 pn.2)) ∨ (∃ x s', r = .ok (x, s') ∧ Grown2 b c w w' ∧ e = .returned (.tuple #[]) ∧ smB c w.heap.size x w' ∧ PW b g cap ts s' w') := by
  rcases r with pn | ⟨x, s'⟩
  · exact Or.inl ⟨pn, rfl, h.1, h.2⟩
  · exact Or.inr ⟨x, s', rfl, h.1, h.2.1, h.2.2.1, h.2.2.2⟩
theorem NmPost.err {pn : Nat × Nat} (hr : r = .error pn) (hg : Grown2 b c w w') : NmPost b g cap ts c w r (.panicked (faultP pn.1 pn.2)) w' := by subst hr; exact ⟨hg, rfl⟩
theorem NmPost.ok {x : Sm} {s' : St} (hr : r = .ok (x, s')) (hg : Grown2 b c w w') (hx : smB c w.heap.size x w') (hp : PW b g cap ts s' w') : NmPost b g cap ts c w r (.returned (.tuple #[])) w' := by subst hr; exact ⟨hg, rfl, hx, hp⟩
end

abbrev tokCs (t : Tok) : Array Value := #[.int .u8 (t.kind : Int), .int .i64 (t.pos : Int), .string ⟨t.text.toArray⟩, .int .i64 (t.num : Int)]
/-- On the way: the parser, a token's box, the statement's. -/
structure NmW (b g cap : Nat) (ts : List Tok) (s : St) (c : Nat) (w : World) (M : Nat) (t : Tok) (cs : Array Value) (w' : World) : Prop where
  grown : Grown2 b c w w'
  tok : Blk M (tokCs t) 55 w'
  box : Blk c cs 39 w'
  pw : PW b g cap ts s w'
  lt : w.heap.size ≤ M
  lb : b < w.heap.size
  lg : g < w.heap.size
  lc : c < w.heap.size
  cb : c ≠ b
  cg : c ≠ g
section
variable {b g cap c M : Nat} {ts : List Tok} {s s' : St} {w w1 w2 : World} {t : Tok} {cs : Array Value}
theorem NmW.below (h : NmW b g cap ts s c w M t cs w1) (hb : Below w1.heap.size w1 w2) : NmW b g cap ts s c w M t cs w2 :=
  ⟨h.grown.trans (.below hb), h.tok.below hb h.tok.lt, h.box.below hb h.box.lt, h.pw.below hb, h.lt, h.lb, h.lg, h.lc, h.cb, h.cg⟩
theorem NmW.other (h : NmW b g cap ts s c w M t cs w1) (hg : w1.grownBy w2 (some b)) (hp : PW b g cap ts s' w2) : NmW b g cap ts s' c w M t cs w2 :=
  ⟨h.grown.trans (.of1 hg), h.tok.other hg (by have := h.lt; have := h.lb; simp; omega), h.box.other hg (by have := h.cb; simpa using this), hp, h.lt, h.lb, h.lg, h.lc, h.cb, h.cg⟩
theorem NmW.set (h : NmW b g cap ts s c w M t cs w1) (j : Nat) (u : Value) : NmW b g cap ts s c w M t (cs.setIfInBounds j u) (w1.setCell ⟨c, j, none⟩ u) := by
  have hg : w1.grownBy (w1.setCell ⟨c, j, none⟩ u) (some c) := Lib.grownBy_setCell _ _ _ _
  exact ⟨h.grown.trans (.of2 hg), h.tok.other hg (by have := h.lt; have := h.lc; simp; omega), h.box.set j u, h.pw.other hg (by have := h.cb; simp; omega) (by have := h.cg; simp; omega), h.lt, h.lb, h.lg, h.lc, h.cb, h.cg⟩
/-- A row that is new has grown. -/
theorem NmW.row {row : Option Nat} (h : NmW b g cap ts s c w M t cs w1) (hg : w1.grownBy w2 row) (hr : ∀ j, row = some j → w.heap.size ≤ j) (hM : row ≠ some M) : NmW b g cap ts s c w M t cs w2 := by
  have hb : some b ≠ row := fun e => by have := hr b e.symm; have := h.lb; omega
  have hgg : some g ≠ row := fun e => by have := hr g e.symm; have := h.lg; omega
  have hc : some c ≠ row := fun e => by have := hr c e.symm; have := h.lc; omega
  exact ⟨h.grown.own hg (fun j hj => Or.inl (hr j hj)), h.tok.other hg (Ne.symm hM), h.box.other hg hc, h.pw.other hg hb hgg, h.lt, h.lb, h.lg, h.lc, h.cb, h.cg⟩
end
theorem smB_of {c B : Nat} {x : Sm} {w' : World} {k id : Nat} {nm : Bytes} {t n pos : Nat} {a1 : Option Addr} {m1 c1 : Nat} {a2 : Option Addr} {m2 c2 : Nat} {a3 : Option Addr} {m3 c3 : Nat}
    (hb : Blk c (smCells k id nm t n pos (.slice a1 m1 c1) (.slice a2 m2 c2) (.slice a3 m3 c3)) 39 w') (hx : SmC w' (fun g => B ≤ g) x (smCells k id nm t n pos (.slice a1 m1 c1) (.slice a2 m2 c2) (.slice a3 m3 c3)).toList) : smB c B x w' :=
  ⟨k, id, nm, t, n, pos, a1, m1, c1, a2, m2, c2, a3, m3, c3, hb, hx⟩

/-! An expression more, in a list of one. -/

/-- The second element of a row of expressions, written. -/
def el6 (w : World) (g : Nat) (u0 u1 u2 u3 u4 u5 : Value) : World := (((((w.setCell ⟨g, 6, none⟩ u0).setCell ⟨g, 7, none⟩ u1).setCell ⟨g, 8, none⟩ u2).setCell ⟨g, 9, none⟩ u3).setCell ⟨g, 10, none⟩ u4).setCell ⟨g, 11, none⟩ u5
theorem el6_eq (w : World) (g : Nat) (u0 u1 u2 u3 u4 u5 : Value) : el6 w g u0 u1 u2 u3 u4 u5 = (((((w.setCell ⟨g, 6, none⟩ u0).setCell ⟨g, 7, none⟩ u1).setCell ⟨g, 8, none⟩ u2).setCell ⟨g, 9, none⟩ u3).setCell ⟨g, 10, none⟩ u4).setCell ⟨g, 11, none⟩ u5 := rfl
theorem grown_el6 (w : World) (g : Nat) (u0 u1 u2 u3 u4 u5 : Value) : w.grownBy (el6 w g u0 u1 u2 u3 u4 u5) (some g) := gtrans (gtrans (gtrans (gtrans (gtrans (Lib.grownBy_setCell _ _ _ _) (Lib.grownBy_setCell _ _ _ _)) (Lib.grownBy_setCell _ _ _ _)) (Lib.grownBy_setCell _ _ _ _)) (Lib.grownBy_setCell _ _ _ _)) (Lib.grownBy_setCell _ _ _ _)
theorem owns_el6 {w : World} {B g cap : Nat} {xs : List Value} (h : w.ownsRow B 36 6 (.slice (some ⟨g, 0, none⟩) 2 cap) 2 (xs ++ zEx.toList)) (u0 u1 u2 u3 u4 u5 : Value) : (el6 w g u0 u1 u2 u3 u4 u5).ownsRow B 36 6 (.slice (some ⟨g, 0, none⟩) 2 cap) 2 (xs ++ [u0, u1, u2, u3, u4, u5]) := by
  have hl : xs.length = 6 := by
    have := h.1
    rw [List.length_append] at this
    have e : zEx.toList.length = 6 := rfl
    omega
  have h6 := owns_set (owns_set (owns_set (owns_set (owns_set (owns_set h 6 u0) 7 u1) 8 u2) 9 u3) 10 u4) 11 u5
  match xs, hl with
  | [a, b, c, d, e, f], _ => exact h6

/-- What is known once a row of one expression has grown by an empty one; and once that is written and the row is kept, in whatever order. -/
theorem put_fin {b g cap c M : Nat} {ts : List Tok} {s : St} {w W8 w9 : World} {t : Tok} {v0 v1 v2 v3 v4 v5 v7 v8 : Value} {B gr gg cg : Nat} {x y : Ex} {xc : List Value} {yk yo : Nat} {ynm : Bytes} {yn yp : Nat} {ya : Option Addr} {ym yc : Nat}
    (hN : NmW b g cap ts s c w M t #[v0, v1, v2, v3, v4, v5, .slice (some ⟨gr, 0, none⟩) 1 1, v7, v8] W8) (hB : w.heap.size ≤ B) (hMB : M < B) (hgr : B ≤ gr) (hgs : gr < W8.heap.size)
    (hx : ExC W8 (fun h => B ≤ h ∧ h < gr) x xc) (hy : ExC W8 (fun h => gr < h) y (exCells yk yo ynm yn yp ya ym yc).toList)
    (hown : w9.ownsRow B 36 6 (.slice (some ⟨gg, 0, none⟩) 2 cg) 2 (xc ++ zEx.toList)) (hgrow : W8.grownBy w9 (some gr)) (hat : gr = gg ∨ gg = W8.heap.size) :
    NmW b g cap ts s c w M t #[v0, v1, v2, v3, v4, v5, .slice (some ⟨gr, 0, none⟩) 1 1, v7, v8] w9 ∧ (∀ j, j < 6 → ∃ u, zEx[j]? = some u ∧ w9.cell? ⟨gg, 6 + j, none⟩ = some u ∧ w9.frozen? ⟨gg, 6 + j, none⟩ = false) ∧ gg ≠ c ∧
    ∀ Z, (Z = (el6 w9 gg (.int .u8 (yk : Int)) (.int .u8 (yo : Int)) (.string ⟨ynm.toArray⟩) (.int .i64 (yn : Int)) (.int .i64 (yp : Int)) (.slice ya ym yc)).setCell ⟨c, 6, none⟩ (.slice (some ⟨gg, 0, none⟩) 2 cg) ∨
      Z = el6 (w9.setCell ⟨c, 6, none⟩ (.slice (some ⟨gg, 0, none⟩) 2 cg)) gg (.int .u8 (yk : Int)) (.int .u8 (yo : Int)) (.string ⟨ynm.toArray⟩) (.int .i64 (yn : Int)) (.int .i64 (yp : Int)) (.slice ya ym yc)) →
      NmW b g cap ts s c w M t #[v0, v1, v2, v3, v4, v5, .slice (some ⟨gg, 0, none⟩) 2 cg, v7, v8] Z ∧ ExRow Z (fun h => w.heap.size ≤ h) [x, y] (.slice (some ⟨gg, 0, none⟩) 2 cg) := by
  have hlc := hN.lc
  have hggB : B ≤ gg := by rcases hat with h | h <;> omega
  have hgc : gg ≠ c := by omega
  have hxl : xc.length = 6 := by
    have := hown.1
    rw [List.length_append] at this
    have e : zEx.toList.length = 6 := rfl
    omega
  have hN9 := hN.row hgrow (fun j hj => by cases hj; omega) (by simp; omega)
  have hx9 : ExC w9 (fun h => B ≤ h ∧ h < gr) x xc := hx.stays (stays_of_grown hgrow fun h hh => ⟨by omega, hh⟩)
  have hy9 : ExC w9 (fun h => gr < h ∧ h < W8.heap.size) y (exCells yk yo ynm yn yp ya ym yc).toList := hy.stays fun h hh hl => ⟨hgrow.block h hl (by simp; omega), hh, hl⟩
  refine ⟨hN9, fun j hj => ?_, hgc, ?_⟩
  · obtain ⟨u, hu⟩ : ∃ u, zEx[j]? = some u := ⟨zEx[j], by rw [Array.getElem?_eq_getElem]⟩
    have := owns_cell hown (6 + j) u (by rw [List.getElem?_append_right (by omega), hxl, show 6 + j - 6 = j by omega, Array.getElem?_toList]; exact hu)
    exact ⟨u, hu, this⟩
  · intro Z hZ
    have fin : ∀ (W : World), w9.heap.size ≤ W.heap.size → (∀ k, k < w9.heap.size → k ≠ gg → k ≠ c → W.heap[k]? = w9.heap[k]?) → W.ownsRow B 36 6 (.slice (some ⟨gg, 0, none⟩) 2 cg) 2 (xc ++ (exCells yk yo ynm yn yp ya ym yc).toList) → ExRow W (fun h => w.heap.size ≤ h) [x, y] (.slice (some ⟨gg, 0, none⟩) 2 cg) := by
      intro W hs hk ho
      refine Or.inr ⟨gg, cg, _, rfl, by omega, owns_down ho, ?_⟩
      simp only [ExsC]
      refine ⟨xc, (exCells yk yo ynm yn yp ya ym yc).toList, rfl, hx9.stays fun h hh hl => ⟨hk h hl (by rcases hat with e | e <;> omega) (by omega), by omega⟩, (exCells yk yo ynm yn yp ya ym yc).toList, [], by simp, hy9.stays fun h hh hl => ⟨hk h hl (by rcases hat with e | e <;> omega) (by omega), by omega⟩, rfl⟩
    have hrow : ∀ j, some gg = some j → w.heap.size ≤ j := fun j hj => by cases hj; omega
    have hMg : some gg ≠ some M := by simp; omega
    rcases hZ with hZ | hZ
    · have g1 := grown_el6 w9 gg (.int .u8 (yk : Int)) (.int .u8 (yo : Int)) (.string ⟨ynm.toArray⟩) (.int .i64 (yn : Int)) (.int .i64 (yp : Int)) (.slice ya ym yc)
      have o1 := owns_el6 hown (.int .u8 (yk : Int)) (.int .u8 (yo : Int)) (.string ⟨ynm.toArray⟩) (.int .i64 (yn : Int)) (.int .i64 (yp : Int)) (.slice ya ym yc)
      generalize el6 w9 gg (.int .u8 (yk : Int)) (.int .u8 (yo : Int)) (.string ⟨ynm.toArray⟩) (.int .i64 (yn : Int)) (.int .i64 (yp : Int)) (.slice ya ym yc) = X at *
      have g2 : X.grownBy Z (some c) := by rw [hZ]; exact Lib.grownBy_setCell _ _ _ _
      refine ⟨by rw [hZ]; exact (hN9.row g1 hrow hMg).set 6 _, fin Z (Nat.le_trans g1.size g2.size) (fun k hk h1 h2 => (g2.block k (Nat.lt_of_lt_of_le hk g1.size) (by simpa using h2)).trans (g1.block k hk (by simpa using h1))) (owns_other o1 g2 (by simpa using hgc))⟩
    · have g1 : w9.grownBy (w9.setCell ⟨c, 6, none⟩ (.slice (some ⟨gg, 0, none⟩) 2 cg)) (some c) := Lib.grownBy_setCell _ _ _ _
      have hN10 := hN9.set 6 (.slice (some ⟨gg, 0, none⟩) 2 cg)
      have o1 := owns_other hown g1 (by simpa using hgc)
      generalize w9.setCell ⟨c, 6, none⟩ (.slice (some ⟨gg, 0, none⟩) 2 cg) = X at *
      have g2 : X.grownBy Z (some gg) := by rw [hZ]; exact grown_el6 _ _ _ _ _ _ _ _
      refine ⟨hN10.row g2 hrow hMg, fin Z (Nat.le_trans g1.size g2.size) (fun k hk h1 h2 => (g2.block k (Nat.lt_of_lt_of_le hk g1.size) (by simpa using h1)).trans (g1.block k hk (by simpa using h2))) (by rw [hZ]; exact owns_el6 o1 _ _ _ _ _ _)⟩
end Go.Proofs.YtcgllooeimacdaaGreatDoor
