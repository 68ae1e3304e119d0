/-
  A statement: a return with its value.
-/
import Derived.Test.YtoimhdejfeclpaaGreatDoorTOp
namespace Go.Proofs.YtoimhdejfeclpaaGreatDoor
open Go Go.RowKit Px
open Lx (Tok)

theorem binC_zero : BinC 0 := fun b g cap ts s least w _ _ h => absurd (by rw [binF]) h
theorem unC_zero : UnC 0 := fun b g cap ts s w _ h => absurd (by rw [unF]) h
theorem opC_zero : OpC 0 := fun b g cap ts s w _ h => absurd (by rw [opF]) h
theorem useC_zero : UseC 0 := fun b g cap ts s w _ t0 t1 t2 t3 h => absurd (by rw [useF]) h
theorem all_C : ∀ f, BinC f ∧ UnC f ∧ OpC f ∧ UseC f ∧ ∀ k, k < f → BinC k
  | 0 => ⟨binC_zero, unC_zero, opC_zero, useC_zero, fun k h => by omega⟩
  | f + 1 => by
    obtain ⟨h1, h2, h3, h4, h5⟩ := all_C f
    have hle : ∀ k, k ≤ f → BinC k := fun k hk => by
      rcases Nat.lt_or_ge k f with h | h
      · exact h5 k h
      · obtain rfl : k = f := by omega
        exact h1
    exact ⟨binary_step h2 hle, unary_step h3 h2, operand_step h1 h4, use_step h1, fun k hk => hle k (by omega)⟩
theorem binC (f : Nat) : BinC f := (all_C f).1

theorem one_any (f : Nat) (b g cap : Nat) (ts : List Tok) (s : St) (w : World) (hw : PW b g cap ts s w) (hne : binF ts f 1 s ≠ gone) :
    Calls Tryz.prog 88 #[.pointer (some ⟨b, 0, none⟩)] w (RPost b g cap ts w (oneE w.heap.size) (binF ts f 1 s)) := one_C (binC f) b g cap ts s w hw hne
theorem place_any (f : Nat) (b g cap : Nat) (ts : List Tok) (s : St) (w : World) (hw : PW b g cap ts s w) (hne : placeF ts f s ≠ gone) :
    Calls Tryz.prog 99 #[.pointer (some ⟨b, 0, none⟩)] w (RPost b g cap ts w (oneE w.heap.size) (placeF ts f s)) := place_C (binC f) b g cap ts s w hw hne

abbrev smCells (k id : Nat) (nm : Bytes) (t n pos : Nat) (v1 v2 v3 : Value) : Array Value := #[.int .u8 (k : Int), .int .i64 (id : Int), .string ⟨nm.toArray⟩, .int .u8 (t : Int), .int .i64 (n : Int), .int .i64 (pos : Int), v1, v2, v3]
/-- A statement that is answered. -/
def smE (B : Nat) (x : Sm) (e : Ending) (w' : World) : Prop := ∃ (k id : Nat) (nm : Bytes) (t n pos : Nat) (a1 : Option Addr) (m1 c1 : Nat) (a2 : Option Addr) (m2 c2 : Nat) (a3 : Option Addr) (m3 c3 : Nat),
  e = .returned (.agg (smCells k id nm t n pos (.slice a1 m1 c1) (.slice a2 m2 c2) (.slice a3 m3 c3))) ∧ SmC w' (fun g => B ≤ g) x (smCells k id nm t n pos (.slice a1 m1 c1) (.slice a2 m2 c2) (.slice a3 m3 c3)).toList

abbrev zSm : Array Value := #[.int .u8 0, .int .i64 0, .string ⟨#[]⟩, .int .u8 0, .int .i64 0, .int .i64 0, .slice none 0 0, .slice none 0 0, .slice none 0 0]
abbrev sm0 : Obj := .cells zSm 39

section
variable {b : Nat} {T : TypeId} {w : World}
theorem Blk.get9 {v0 v1 v2 v3 v4 v5 v6 v7 v8 : Value} (h : Blk b #[v0, v1, v2, v3, v4, v5, v6, v7, v8] T w) : w.cell? ⟨b, 0, none⟩ = some v0 ∧ w.cell? ⟨b, 1, none⟩ = some v1 ∧ w.cell? ⟨b, 2, none⟩ = some v2 ∧ w.cell? ⟨b, 3, none⟩ = some v3 ∧ w.cell? ⟨b, 4, none⟩ = some v4 ∧ w.cell? ⟨b, 5, none⟩ = some v5 ∧ w.cell? ⟨b, 6, none⟩ = some v6 ∧ w.cell? ⟨b, 7, none⟩ = some v7 ∧ w.cell? ⟨b, 8, none⟩ = some v8 :=
  ⟨h.get 0 v0 rfl, h.get 1 v1 rfl, h.get 2 v2 rfl, h.get 3 v3 rfl, h.get 4 v4 rfl, h.get 5 v5 rfl, h.get 6 v6 rfl, h.get 7 v7 rfl, h.get 8 v8 rfl⟩
theorem Blk.free9 {cs : Array Value} (h : Blk b cs T w) : w.frozen? ⟨b, 0, none⟩ = false ∧ w.frozen? ⟨b, 1, none⟩ = false ∧ w.frozen? ⟨b, 2, none⟩ = false ∧ w.frozen? ⟨b, 3, none⟩ = false ∧ w.frozen? ⟨b, 4, none⟩ = false ∧ w.frozen? ⟨b, 5, none⟩ = false ∧ w.frozen? ⟨b, 6, none⟩ = false ∧ w.frozen? ⟨b, 7, none⟩ = false ∧ w.frozen? ⟨b, 8, none⟩ = false :=
  ⟨h.free 0, h.free 1, h.free 2, h.free 3, h.free 4, h.free 5, h.free 6, h.free 7, h.free 8⟩
def set9 (w : World) (b : Nat) (u0 u1 u2 u3 u4 u5 u6 u7 u8 : Value) : World := ((((((((w.setCell ⟨b, 0, none⟩ u0).setCell ⟨b, 1, none⟩ u1).setCell ⟨b, 2, none⟩ u2).setCell ⟨b, 3, none⟩ u3).setCell ⟨b, 4, none⟩ u4).setCell ⟨b, 5, none⟩ u5).setCell ⟨b, 6, none⟩ u6).setCell ⟨b, 7, none⟩ u7).setCell ⟨b, 8, none⟩ u8
theorem set9_eq (w : World) (b : Nat) (u0 u1 u2 u3 u4 u5 u6 u7 u8 : Value) : set9 w b u0 u1 u2 u3 u4 u5 u6 u7 u8 = ((((((((w.setCell ⟨b, 0, none⟩ u0).setCell ⟨b, 1, none⟩ u1).setCell ⟨b, 2, none⟩ u2).setCell ⟨b, 3, none⟩ u3).setCell ⟨b, 4, none⟩ u4).setCell ⟨b, 5, none⟩ u5).setCell ⟨b, 6, none⟩ u6).setCell ⟨b, 7, none⟩ u7).setCell ⟨b, 8, none⟩ u8 := rfl
theorem Blk.set9 {v0 v1 v2 v3 v4 v5 v6 v7 v8 : Value} (h : Blk b #[v0, v1, v2, v3, v4, v5, v6, v7, v8] T w) (u0 u1 u2 u3 u4 u5 u6 u7 u8 : Value) : Blk b #[u0, u1, u2, u3, u4, u5, u6, u7, u8] T (set9 w b u0 u1 u2 u3 u4 u5 u6 u7 u8) := by
  have h0 : Blk b #[u0, v1, v2, v3, v4, v5, v6, v7, v8] T ((w).setCell ⟨b, 0, none⟩ u0) := h.set 0 u0
  have h1 : Blk b #[u0, u1, v2, v3, v4, v5, v6, v7, v8] T (((w).setCell ⟨b, 0, none⟩ u0).setCell ⟨b, 1, none⟩ u1) := h0.set 1 u1
  have h2 : Blk b #[u0, u1, u2, v3, v4, v5, v6, v7, v8] T ((((w).setCell ⟨b, 0, none⟩ u0).setCell ⟨b, 1, none⟩ u1).setCell ⟨b, 2, none⟩ u2) := h1.set 2 u2
  have h3 : Blk b #[u0, u1, u2, u3, v4, v5, v6, v7, v8] T (((((w).setCell ⟨b, 0, none⟩ u0).setCell ⟨b, 1, none⟩ u1).setCell ⟨b, 2, none⟩ u2).setCell ⟨b, 3, none⟩ u3) := h2.set 3 u3
  have h4 : Blk b #[u0, u1, u2, u3, u4, v5, v6, v7, v8] T ((((((w).setCell ⟨b, 0, none⟩ u0).setCell ⟨b, 1, none⟩ u1).setCell ⟨b, 2, none⟩ u2).setCell ⟨b, 3, none⟩ u3).setCell ⟨b, 4, none⟩ u4) := h3.set 4 u4
  have h5 : Blk b #[u0, u1, u2, u3, u4, u5, v6, v7, v8] T (((((((w).setCell ⟨b, 0, none⟩ u0).setCell ⟨b, 1, none⟩ u1).setCell ⟨b, 2, none⟩ u2).setCell ⟨b, 3, none⟩ u3).setCell ⟨b, 4, none⟩ u4).setCell ⟨b, 5, none⟩ u5) := h4.set 5 u5
  have h6 : Blk b #[u0, u1, u2, u3, u4, u5, u6, v7, v8] T ((((((((w).setCell ⟨b, 0, none⟩ u0).setCell ⟨b, 1, none⟩ u1).setCell ⟨b, 2, none⟩ u2).setCell ⟨b, 3, none⟩ u3).setCell ⟨b, 4, none⟩ u4).setCell ⟨b, 5, none⟩ u5).setCell ⟨b, 6, none⟩ u6) := h5.set 6 u6
  have h7 : Blk b #[u0, u1, u2, u3, u4, u5, u6, u7, v8] T (((((((((w).setCell ⟨b, 0, none⟩ u0).setCell ⟨b, 1, none⟩ u1).setCell ⟨b, 2, none⟩ u2).setCell ⟨b, 3, none⟩ u3).setCell ⟨b, 4, none⟩ u4).setCell ⟨b, 5, none⟩ u5).setCell ⟨b, 6, none⟩ u6).setCell ⟨b, 7, none⟩ u7) := h6.set 7 u7
  have h8 : Blk b #[u0, u1, u2, u3, u4, u5, u6, u7, u8] T ((((((((((w).setCell ⟨b, 0, none⟩ u0).setCell ⟨b, 1, none⟩ u1).setCell ⟨b, 2, none⟩ u2).setCell ⟨b, 3, none⟩ u3).setCell ⟨b, 4, none⟩ u4).setCell ⟨b, 5, none⟩ u5).setCell ⟨b, 6, none⟩ u6).setCell ⟨b, 7, none⟩ u7).setCell ⟨b, 8, none⟩ u8) := h7.set 8 u8
  exact h8
theorem grown_set9 (w : World) (b : Nat) (u0 u1 u2 u3 u4 u5 u6 u7 u8 : Value) : w.grownBy (Proofs.YtoimhdejfeclpaaGreatDoor.set9 w b u0 u1 u2 u3 u4 u5 u6 u7 u8) (some b) :=
  gtrans (gtrans (gtrans (gtrans (gtrans (gtrans (gtrans (gtrans (Lib.grownBy_setCell _ _ _ _) (Lib.grownBy_setCell _ _ _ _)) (Lib.grownBy_setCell _ _ _ _)) (Lib.grownBy_setCell _ _ _ _)) (Lib.grownBy_setCell _ _ _ _)) (Lib.grownBy_setCell _ _ _ _)) (Lib.grownBy_setCell _ _ _ _)) (Lib.grownBy_setCell _ _ _ _)) (Lib.grownBy_setCell _ _ _ _)
end

/-- The boxes of a statement: the result's, the token's, the statement's that is being made. -/
structure SmW (b g cap : Nat) (ts : List Tok) (s : St) (w : World) (M : Nat) (t : Tok) (cs : Array Value) (w' : World) : Prop where
  grown : w.grownBy w' (some b)
  res : Blk w.heap.size zSm 39 w'
  tok : Blk M #[.int .u8 (t.kind : Int), .int .i64 (t.pos : Int), .string ⟨t.text.toArray⟩, .int .i64 (t.num : Int)] 55 w'
  box : Blk (M + 1) cs 39 w'
  pw : PW b g cap ts s w'
  lt : w.heap.size < M
theorem SmW.below {b g cap : Nat} {ts : List Tok} {s : St} {w w1 w2 : World} {M : Nat} {t : Tok} {cs : Array Value} (h : SmW b g cap ts s w M t cs w1) (hb : Below w1.heap.size w1 w2) : SmW b g cap ts s w M t cs w2 :=
  ⟨gtrans h.grown (grown_of_below hb), h.res.below hb h.res.lt, h.tok.below hb h.tok.lt, h.box.below hb h.box.lt, h.pw.below hb, h.lt⟩
theorem SmW.other {b g cap : Nat} {ts : List Tok} {s s' : St} {w w1 w2 : World} {M : Nat} {t : Tok} {cs : Array Value} (hlt : b < w.heap.size) (h : SmW b g cap ts s w M t cs w1) (hg : w1.grownBy w2 (some b)) (hp : PW b g cap ts s' w2) : SmW b g cap ts s' w M t cs w2 :=
  ⟨gtrans h.grown hg, h.res.other hg (by simp; omega), h.tok.other hg (by have := h.lt; simp; omega), h.box.other hg (by have := h.lt; simp; omega), hp, h.lt⟩
theorem SmW.set {b g cap : Nat} {ts : List Tok} {s : St} {w w1 : World} {M : Nat} {t : Tok} {cs : Array Value} (hlt : b < w.heap.size) (hgl : g < w.heap.size) (h : SmW b g cap ts s w M t cs w1) (j : Nat) (u : Value) : SmW b g cap ts s w M t (cs.setIfInBounds j u) (w1.setCell ⟨M + 1, j, none⟩ u) := by
  have hg : w1.grownBy (w1.setCell ⟨M + 1, j, none⟩ u) (some (M + 1)) := Lib.grownBy_setCell _ _ _ _
  have := h.lt
  exact ⟨gnew h.grown (by omega) hg, h.res.other hg (by simp; omega), h.tok.other hg (by simp), h.box.set j u, h.pw.other hg (by simp; omega) (by simp; omega), h.lt⟩
theorem SmW.fin {b g cap : Nat} {ts : List Tok} {s s0 : St} {w w1 : World} {M : Nat} {tt : Tok} {cs : Array Value} (hw : PW b g cap ts s0 w) (h : SmW b g cap ts s w M tt cs w1) {x : Sm} {k id : Nat} {nm : Bytes} {t n pos : Nat} {a1 : Option Addr} {m1 c1 : Nat} {a2 : Option Addr} {m2 c2 : Nat} {a3 : Option Addr} {m3 c3 : Nat}
    (hx : SmC w1 (fun h => w.heap.size < h) x (smCells k id nm t n pos (.slice a1 m1 c1) (.slice a2 m2 c2) (.slice a3 m3 c3)).toList) :
    ∀ U, U = set9 w1 w.heap.size (.int .u8 (k : Int)) (.int .i64 (id : Int)) (.string ⟨nm.toArray⟩) (.int .u8 (t : Int)) (.int .i64 (n : Int)) (.int .i64 (pos : Int)) (.slice a1 m1 c1) (.slice a2 m2 c2) (.slice a3 m3 c3) →
    Blk w.heap.size (smCells k id nm t n pos (.slice a1 m1 c1) (.slice a2 m2 c2) (.slice a3 m3 c3)) 39 U ∧ w.grownBy U (some b) ∧ PW b g cap ts s U ∧
      smE w.heap.size x (.returned (.agg (smCells k id nm t n pos (.slice a1 m1 c1) (.slice a2 m2 c2) (.slice a3 m3 c3)))) U := by
  rintro U rfl
  have hlt := hw.blk.lt
  have hgl := hw.toks.lt
  have hs := grown_set9 w1 w.heap.size (.int .u8 (k : Int)) (.int .i64 (id : Int)) (.string ⟨nm.toArray⟩) (.int .u8 (t : Int)) (.int .i64 (n : Int)) (.int .i64 (pos : Int)) (.slice a1 m1 c1) (.slice a2 m2 c2) (.slice a3 m3 c3)
  exact ⟨h.res.set9 _ _ _ _ _ _ _ _ _, gnew h.grown (Nat.le_refl _) hs, h.pw.other hs (by simp; omega) (by simp; omega), k, id, nm, t, n, pos, a1, m1, c1, a2, m2, c2, a3, m3, c3, rfl, hx.stays (stays_of_grown hs fun g hg => ⟨by omega, by omega⟩)⟩
end Go.Proofs.YtoimhdejfeclpaaGreatDoor
