/-
  What the walks of expressions share: an expression that is answered; blocks of six cells; bounds of signs.
-/
import Derived.Test.YtcgllooeimacdaaGreatDoorTAsk
import Derived.Deep.RegionHeld3
namespace Go.Proofs.YtcgllooeimacdaaGreatDoor
open Go Go.RowKit Px
open Lx (Tok)

/-- An expression that is answered: its six cells; its parts lie in new blocks. -/
def exE (B : Nat) (x : Ex) (e : Ending) (w' : World) : Prop := ∃ (k op : Nat) (nm : Bytes) (n pos : Nat) (a : Option Addr) (m c : Nat), e = .returned (.agg #[.int .u8 (k : Int), .int .u8 (op : Int), .string ⟨nm.toArray⟩, .int .i64 (n : Int), .int .i64 (pos : Int), .slice a m c]) ∧
  ExC w' (fun g => B ≤ g) x [.int .u8 (k : Int), .int .u8 (op : Int), .string ⟨nm.toArray⟩, .int .i64 (n : Int), .int .i64 (pos : Int), .slice a m c]

def set6 (w : World) (b : Nat) (u0 u1 u2 u3 u4 u5 : Value) : World := (((((w.setCell ⟨b, 0, none⟩ u0).setCell ⟨b, 1, none⟩ u1).setCell ⟨b, 2, none⟩ u2).setCell ⟨b, 3, none⟩ u3).setCell ⟨b, 4, none⟩ u4).setCell ⟨b, 5, none⟩ u5
theorem set6_eq (w : World) (b : Nat) (u0 u1 u2 u3 u4 u5 : Value) : set6 w b u0 u1 u2 u3 u4 u5 = (((((w.setCell ⟨b, 0, none⟩ u0).setCell ⟨b, 1, none⟩ u1).setCell ⟨b, 2, none⟩ u2).setCell ⟨b, 3, none⟩ u3).setCell ⟨b, 4, none⟩ u4).setCell ⟨b, 5, none⟩ u5 := rfl
theorem Blk.set6 {b : Nat} {T : TypeId} {w : World} {v0 v1 v2 v3 v4 v5 : Value} (h : Blk b #[v0, v1, v2, v3, v4, v5] T w) (u0 u1 u2 u3 u4 u5 : Value) : Blk b #[u0, u1, u2, u3, u4, u5] T (set6 w b u0 u1 u2 u3 u4 u5) := (((((h.set 0 u0).set 1 u1).set 2 u2).set 3 u3).set 4 u4).set 5 u5
theorem grown_set6 (w : World) (b : Nat) (u0 u1 u2 u3 u4 u5 : Value) : w.grownBy (set6 w b u0 u1 u2 u3 u4 u5) (some b) := gtrans (gtrans (gtrans (gtrans (gtrans (Lib.grownBy_setCell _ _ _ _) (Lib.grownBy_setCell _ _ _ _)) (Lib.grownBy_setCell _ _ _ _)) (Lib.grownBy_setCell _ _ _ _)) (Lib.grownBy_setCell _ _ _ _)) (Lib.grownBy_setCell _ _ _ _)

/-- Writes to one block alone leave trees that stand elsewhere. -/
theorem stays_of_grown {w w' : World} {j : Nat} {ok ok' : Nat → Prop} (hg : w.grownBy w' (some j)) (h : ∀ g, ok g → g ≠ j ∧ ok' g) : Stays w ok w' ok' := fun g hg1 hg2 => ⟨hg.block g hg2 (by simpa using (h g hg1).1), (h g hg1).2⟩
theorem stays_of_below {w w' : World} {ok ok' : Nat → Prop} (hb : Below w.heap.size w w') (h : ∀ g, ok g → ok' g) : Stays w ok w' ok' := fun g hg1 hg2 => ⟨hb.block g hg2, h g hg1⟩
theorem stays_weaken {w : World} {ok ok' : Nat → Prop} (h : ∀ g, ok g → g < w.heap.size → ok' g) : Stays w ok w ok' := fun g hg1 hg2 => ⟨rfl, h g hg1 hg2⟩

abbrev zEx : Array Value := #[.int .u8 0, .int .u8 0, .string ⟨#[]⟩, .int .i64 0, .int .i64 0, .slice none 0 0]
abbrev ex0 : Obj := .cells zEx 36

theorem findOp_le (t : Bytes) : ∀ n op, (findOp t n op).1 ≤ op + n ∧ (findOp t n op).2 < 12
  | 0, op => by simp [findOp]
  | n + 1, op => by
    unfold findOp
    split
    · exact ⟨by omega, signOf_lt op⟩
    · have := findOp_le t n (op + 1); omega
theorem infixOf_le (t : Bytes) : (infixOf t).1 ≤ 19 ∧ (infixOf t).2 < 12 := by have := findOp_le t 18 1; exact ⟨by unfold infixOf; omega, this.2⟩
theorem infixOf_ne {t : Bytes} (h : (infixOf t).1 ≠ 0) : t ≠ [] := by
  rintro rfl
  exact h (by decide)

/-- A binary expression's contract. -/
def BinC (f : Nat) : Prop := ∀ (b g cap : Nat) (ts : List Tok) (s : St) (least : Nat) (w : World), PW b g cap ts s w → least ≤ 20 → binF ts f least s ≠ gone →
  Calls Tryz.prog 120 #[.pointer (some ⟨b, 0, none⟩), .int .i64 (least : Int)] w (RPost b g cap ts w (exE w.heap.size) (binF ts f least s))
def UnC (f : Nat) : Prop := ∀ (b g cap : Nat) (ts : List Tok) (s : St) (w : World), PW b g cap ts s w → unF ts f s ≠ gone →
  Calls Tryz.prog 141 #[.pointer (some ⟨b, 0, none⟩)] w (RPost b g cap ts w (exE w.heap.size) (unF ts f s))
def OpC (f : Nat) : Prop := ∀ (b g cap : Nat) (ts : List Tok) (s : St) (w : World), PW b g cap ts s w → opF ts f s ≠ gone →
  Calls Tryz.prog 153 #[.pointer (some ⟨b, 0, none⟩)] w (RPost b g cap ts w (exE w.heap.size) (opF ts f s))

/-- An expression that is answered, written into the box of the result. -/
theorem ex_fin {b g cap : Nat} {ts : List Tok} {s s' : St} {w w2 : World} (hw : PW b g cap ts s w) (hg : w.grownBy w2 (some b)) {T : TypeId} {v0 v1 v2 v3 v4 v5 : Value} (hz : Blk w.heap.size #[v0, v1, v2, v3, v4, v5] T w2) (hp : PW b g cap ts s' w2)
    {x : Ex} {k op : Nat} {nm : Bytes} {n pos : Nat} {a : Option Addr} {m c : Nat} (hx : ExC w2 (fun g => w.heap.size < g) x [.int .u8 (k : Int), .int .u8 (op : Int), .string ⟨nm.toArray⟩, .int .i64 (n : Int), .int .i64 (pos : Int), .slice a m c]) :
    Blk w.heap.size #[.int .u8 (k : Int), .int .u8 (op : Int), .string ⟨nm.toArray⟩, .int .i64 (n : Int), .int .i64 (pos : Int), .slice a m c] T (set6 w2 w.heap.size (.int .u8 (k : Int)) (.int .u8 (op : Int)) (.string ⟨nm.toArray⟩) (.int .i64 (n : Int)) (.int .i64 (pos : Int)) (.slice a m c)) ∧
      w.grownBy (set6 w2 w.heap.size (.int .u8 (k : Int)) (.int .u8 (op : Int)) (.string ⟨nm.toArray⟩) (.int .i64 (n : Int)) (.int .i64 (pos : Int)) (.slice a m c)) (some b) ∧
      PW b g cap ts s' (set6 w2 w.heap.size (.int .u8 (k : Int)) (.int .u8 (op : Int)) (.string ⟨nm.toArray⟩) (.int .i64 (n : Int)) (.int .i64 (pos : Int)) (.slice a m c)) ∧
      exE w.heap.size x (.returned (.agg #[.int .u8 (k : Int), .int .u8 (op : Int), .string ⟨nm.toArray⟩, .int .i64 (n : Int), .int .i64 (pos : Int), .slice a m c])) (set6 w2 w.heap.size (.int .u8 (k : Int)) (.int .u8 (op : Int)) (.string ⟨nm.toArray⟩) (.int .i64 (n : Int)) (.int .i64 (pos : Int)) (.slice a m c)) := by
  have hlt := hw.blk.lt
  have hgl := hw.toks.lt
  have hs := grown_set6 w2 w.heap.size (.int .u8 (k : Int)) (.int .u8 (op : Int)) (.string ⟨nm.toArray⟩) (.int .i64 (n : Int)) (.int .i64 (pos : Int)) (.slice a m c)
  exact ⟨hz.set6 _ _ _ _ _ _, gnew hg (Nat.le_refl _) hs, hp.other hs (by simp; omega) (by simp; omega), _, _, _, _, _, _, _, _, rfl, hx.stays (stays_of_grown hs fun g hg => ⟨by omega, by omega⟩)⟩

set_option maxRecDepth 100000 in
theorem expr_any {f : Nat} (hB : BinC f) (b g cap : Nat) (ts : List Tok) (s : St) (w : World) (hw : PW b g cap ts s w) (hne : binF ts f 1 s ≠ gone) :
    Calls Tryz.prog 100 #[.pointer (some ⟨b, 0, none⟩)] w (RPost b g cap ts w (exE w.heap.size) (binF ts f 1 s)) := by
  obtain ⟨W, hW⟩ : ∃ W, W = w.alloc ex0 := ⟨_, rfl⟩
  have hbW : Below w.heap.size w W := by rw [hW]; exact (Below.refl _ _).alloc (Nat.le_refl _) _
  have hz : Blk w.heap.size zEx 36 W := by rw [hW]; exact Blk.new _ _ _
  have hsz : W.heap.size = w.heap.size + 1 := by rw [hW]; simp
  have HC := Lib.hid (hB b g cap ts s 1 W (hw.below hbW) (by omega) hne)
  have HW := Lib.hid hw
  have HH := Lib.hid (And.intro hbW (And.intro hz hsz))
  have HWW := Lib.hid hW
  have hlt := hw.blk.lt
  clear hw hbW hz hW hne hB hsz
  go_enter Tryz.func100, Tryz.ntmps100
  go_wp2_with fail
  rw [← HWW.out]
  refine HC.out.mono ?_
  rintro e w1 h1
  rcases h1.elim with ⟨pn, hr, hg, rfl⟩ | ⟨x, s', hr, hg, ⟨k, op, nm, n, pos, a, m, c, rfl, hx⟩, hp⟩
  · have FIN := Lib.hid (RPost.err (α := Ex) (g := g) (cap := cap) (ts := ts) (V := exE w.heap.size) hr (gtrans (row := some b) (grown_of_below HH.out.1) hg))
    clear hg hr h1
    go_wp2
    exact ⟨rfl, FIN.out⟩
  · have hz1 := HH.out.2.1.other hg (by simp; omega)
    have HR := Lib.hid hr
    have FIN := Lib.hid (ex_fin HW.out (gtrans (row := some b) (grown_of_below HH.out.1) hg) hz1 hp (hx.stays (stays_weaken fun k hk _ => by have := HH.out.2.2; omega)))
    obtain ⟨z0, z1, z2, z3, z4, z5⟩ := hz1.get6
    obtain ⟨f0, f1, f2, f3, f4, f5⟩ := hz1.free6
    clear hg hp hz1 hr h1 hx
    go_wp2
    rw [← set6_eq]
    obtain ⟨y0, y1, y2, y3, y4, y5⟩ := FIN.out.1.get6
    clear z0 z1 z2 z3 z4 z5 f0 f1 f2 f3 f4 f5
    exact bodyPost_ret (v := .agg #[.int .u8 (k : Int), .int .u8 (op : Int), .string ⟨nm.toArray⟩, .int .i64 (n : Int), .int .i64 (pos : Int), .slice a m c]) (by simp [results, Tryz.results100, go_sem, y0, y1, y2, y3, y4, y5]) rfl (RPost.ok HR.out FIN.out.2.1 FIN.out.2.2.2 FIN.out.2.2.1)
end Go.Proofs.YtcgllooeimacdaaGreatDoor
