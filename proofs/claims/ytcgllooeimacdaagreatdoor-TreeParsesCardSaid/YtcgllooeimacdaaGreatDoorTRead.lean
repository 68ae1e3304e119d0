/-
  The reader of tokens: its next token, a token taken, asked for, demanded: what each answers, or gives up with.
-/
import Derived.Test.YtcgllooeimacdaaGreatDoorTSmall
import Derived.Test.YtcgllooeimacdaaGreatDoorTLow
import Derived.StillTailTactics
import Derived.Deep.RegionWith
import Derived.RegionTactic
import Derived.BigRegion
import Derived.Outline
import Derived.Deep.Cut
import Derived.Lib.BufferOwn
import Derived.KernelRfl
namespace Go.Proofs.YtcgllooeimacdaaGreatDoor
open Go Go.RowKit Px
open Lx (Tok)

/-- A parser's block. -/
def PB (b g L cap : Nat) (s : St) (w : World) : Prop :=
  w.heap[b]? = some (.cells #[.slice (some ⟨g, 0, none⟩) L cap, .int .i64 (s.i : Int), .int .i64 s.o, .int .i64 (s.n : Int)] 66 (0, 0))

/-- The tokens in memory. -/
structure Toks (g : Nat) (ts : List Tok) (w : World) : Prop where
  lt : g < w.heap.size
  c0 : ∀ i, i < ts.length → w.cell? ⟨g, i * 4, none⟩ = some (.int .u8 ((tk ts i).kind : Int))
  c1 : ∀ i, i < ts.length → w.cell? ⟨g, i * 4 + 1, none⟩ = some (.int .i64 ((tk ts i).pos : Int))
  c2 : ∀ i, i < ts.length → w.cell? ⟨g, i * 4 + 2, none⟩ = some (.string ⟨(tk ts i).text.toArray⟩)
  c3 : ∀ i, i < ts.length → w.cell? ⟨g, i * 4 + 3, none⟩ = some (.int .i64 ((tk ts i).num : Int))

def tokV' (t : Tok) : Value := .agg #[.int .u8 (t.kind : Int), .int .i64 (t.pos : Int), .string ⟨t.text.toArray⟩, .int .i64 (t.num : Int)]

/-- A parser in memory, before a token that there is. -/
structure PW (b g cap : Nat) (ts : List Tok) (s : St) (w : World) : Prop where
  blk : PB b g ts.length cap s w
  toks : Toks g ts w
  ne : g ≠ b
  lt : s.i < ts.length
  len : ts.length ≤ 30000
  olo : -(s.i : Int) ≤ s.o
  ohi : s.o ≤ 200
  num : s.n ≤ 100000
  fin : ∀ i, i < ts.length → (tk ts i).kind ≠ 0 ∨ (tk ts i).text ≠ [] → i + 1 < ts.length

section
variable {b g cap L : Nat} {ts : List Tok} {s : St} {w w' : World}
theorem PB.g0 (h : PB b g L cap s w) : w.cell? ⟨b, 0, none⟩ = some (.slice (some ⟨g, 0, none⟩) L cap) := by unfold PB at h; simp [World.cell?, h]
theorem PB.g1 (h : PB b g L cap s w) : w.cell? ⟨b, 1, none⟩ = some (.int .i64 (s.i : Int)) := by unfold PB at h; simp [World.cell?, h]
theorem PB.g2 (h : PB b g L cap s w) : w.cell? ⟨b, 2, none⟩ = some (.int .i64 s.o) := by unfold PB at h; simp [World.cell?, h]
theorem PB.g3 (h : PB b g L cap s w) : w.cell? ⟨b, 3, none⟩ = some (.int .i64 (s.n : Int)) := by unfold PB at h; simp [World.cell?, h]
theorem PB.free (h : PB b g L cap s w) (j : Nat) : w.frozen? ⟨b, j, none⟩ = false := by unfold PB at h; simp [World.frozen?, h]
theorem PB.lt (h : PB b g L cap s w) : b < w.heap.size := lt_of_block h
theorem Toks.stays (h : Toks g ts w) (hl : g < w'.heap.size) (hb : w'.heap[g]? = w.heap[g]?) : Toks g ts w' := by
  have e : ∀ j, w'.cell? ⟨g, j, none⟩ = w.cell? ⟨g, j, none⟩ := fun j => World.cell?_of_block (w := w) (a := ⟨g, j, none⟩) hb
  exact ⟨hl, fun i hi => (e _).trans (h.c0 i hi), fun i hi => (e _).trans (h.c1 i hi), fun i hi => (e _).trans (h.c2 i hi), fun i hi => (e _).trans (h.c3 i hi)⟩
theorem PW.below (h : PW b g cap ts s w) (hb : Below w.heap.size w w') : PW b g cap ts s w' :=
  ⟨(hb.block b h.blk.lt).trans h.blk, h.toks.stays (Nat.lt_of_lt_of_le h.toks.lt hb.size) (hb.block g h.toks.lt), h.ne, h.lt, h.len, h.olo, h.ohi, h.num, h.fin⟩
theorem PW.other {row : Option Nat} (h : PW b g cap ts s w) (hg : w.grownBy w' row) (h1 : some b ≠ row) (h2 : some g ≠ row) : PW b g cap ts s w' :=
  ⟨(hg.block b h.blk.lt h1).trans h.blk, h.toks.stays (Nat.lt_of_lt_of_le h.toks.lt hg.size) (hg.block g h.toks.lt h2), h.ne, h.lt, h.len, h.olo, h.ohi, h.num, h.fin⟩
end

abbrev tok0 : Obj := .cells #[.int .u8 0, .int .i64 0, .string ⟨#[]⟩, .int .i64 0] 55

/-- A whole block, that may be written. -/
def Blk (b : Nat) (cs : Array Value) (T : TypeId) (w : World) : Prop := w.heap[b]? = some (.cells cs T (0, 0))
section
variable {b : Nat} {cs : Array Value} {T : TypeId} {w w' : World}
theorem Blk.get (h : Blk b cs T w) (j : Nat) (v : Value) (hj : cs[j]? = some v) : w.cell? ⟨b, j, none⟩ = some v := by unfold Blk at h; simp [World.cell?, h, hj]
theorem Blk.free (h : Blk b cs T w) (j : Nat) : w.frozen? ⟨b, j, none⟩ = false := by unfold Blk at h; simp [World.frozen?, h]
theorem Blk.lt (h : Blk b cs T w) : b < w.heap.size := lt_of_block h
theorem Blk.other {row : Option Nat} (h : Blk b cs T w) (hg : w.grownBy w' row) (hne : some b ≠ row) : Blk b cs T w' := (hg.block b h.lt hne).trans h
theorem Blk.below (h : Blk b cs T w) {B : Nat} (hb : Below B w w') (hB : b < B) : Blk b cs T w' := (hb.block b hB).trans h
theorem Blk.set (h : Blk b cs T w) (j : Nat) (u : Value) : Blk b (cs.setIfInBounds j u) T (w.setCell ⟨b, j, none⟩ u) := by
  have hlt := h.lt
  unfold Blk at *
  have h' : w.heap[b] = .cells cs T (0, 0) := by simpa [Array.getElem?_eq_getElem hlt] using h
  show (w.heap.modify b _)[b]? = _
  rw [Array.getElem?_eq_getElem (by simpa using hlt), Array.getElem_modify_self, h']
  rfl
theorem Blk.new (w : World) (cs : Array Value) (T : TypeId) : Blk w.heap.size cs T (w.alloc (.cells cs T)) := heap_alloc_new w _
theorem Blk.new' (w : World) (cs : Array Value) (T : TypeId) {b : Nat} (hb : b = w.heap.size) : Blk b cs T (w.alloc (.cells cs T)) := by subst hb; exact heap_alloc_new w _
theorem Blk.drewN (h : Blk b cs T w) (n : Nat) : Blk b cs T (w.drewN n) := h
theorem Blk.get4 {v0 v1 v2 v3 : Value} (h : Blk b #[v0, v1, v2, v3] T w) : w.cell? ⟨b, 0, none⟩ = some v0 ∧ w.cell? ⟨b, 1, none⟩ = some v1 ∧ w.cell? ⟨b, 2, none⟩ = some v2 ∧ w.cell? ⟨b, 3, none⟩ = some v3 :=
  ⟨h.get 0 v0 rfl, h.get 1 v1 rfl, h.get 2 v2 rfl, h.get 3 v3 rfl⟩
theorem Blk.get6 {v0 v1 v2 v3 v4 v5 : Value} (h : Blk b #[v0, v1, v2, v3, v4, v5] T w) : w.cell? ⟨b, 0, none⟩ = some v0 ∧ w.cell? ⟨b, 1, none⟩ = some v1 ∧ w.cell? ⟨b, 2, none⟩ = some v2 ∧ w.cell? ⟨b, 3, none⟩ = some v3 ∧ w.cell? ⟨b, 4, none⟩ = some v4 ∧ w.cell? ⟨b, 5, none⟩ = some v5 :=
  ⟨h.get 0 v0 rfl, h.get 1 v1 rfl, h.get 2 v2 rfl, h.get 3 v3 rfl, h.get 4 v4 rfl, h.get 5 v5 rfl⟩
theorem Blk.free4 (h : Blk b cs T w) : w.frozen? ⟨b, 0, none⟩ = false ∧ w.frozen? ⟨b, 1, none⟩ = false ∧ w.frozen? ⟨b, 2, none⟩ = false ∧ w.frozen? ⟨b, 3, none⟩ = false := ⟨h.free 0, h.free 1, h.free 2, h.free 3⟩
theorem Blk.free6 (h : Blk b cs T w) : w.frozen? ⟨b, 0, none⟩ = false ∧ w.frozen? ⟨b, 1, none⟩ = false ∧ w.frozen? ⟨b, 2, none⟩ = false ∧ w.frozen? ⟨b, 3, none⟩ = false ∧ w.frozen? ⟨b, 4, none⟩ = false ∧ w.frozen? ⟨b, 5, none⟩ = false := ⟨h.free 0, h.free 1, h.free 2, h.free 3, h.free 4, h.free 5⟩
/-- A block of four cells, written whole. -/
def set4 (w : World) (b : Nat) (u0 u1 u2 u3 : Value) : World := (((w.setCell ⟨b, 0, none⟩ u0).setCell ⟨b, 1, none⟩ u1).setCell ⟨b, 2, none⟩ u2).setCell ⟨b, 3, none⟩ u3
theorem set4_eq (w : World) (b : Nat) (u0 u1 u2 u3 : Value) : set4 w b u0 u1 u2 u3 = (((w.setCell ⟨b, 0, none⟩ u0).setCell ⟨b, 1, none⟩ u1).setCell ⟨b, 2, none⟩ u2).setCell ⟨b, 3, none⟩ u3 := rfl
theorem Blk.set4 {v0 v1 v2 v3 : Value} (h : Blk b #[v0, v1, v2, v3] T w) (u0 u1 u2 u3 : Value) : Blk b #[u0, u1, u2, u3] T (set4 w b u0 u1 u2 u3) := (((h.set 0 u0).set 1 u1).set 2 u2).set 3 u3
theorem below_set4 {B : Nat} {a : World} (h : Below B a w) (hb : B ≤ b) (u0 u1 u2 u3 : Value) : Below B a (Proofs.YtcgllooeimacdaaGreatDoor.set4 w b u0 u1 u2 u3) := (((h.setCell (p := ⟨b, 0, none⟩) hb u0).setCell (p := ⟨b, 1, none⟩) hb u1).setCell (p := ⟨b, 2, none⟩) hb u2).setCell (p := ⟨b, 3, none⟩) hb u3
end

set_option maxRecDepth 100000 in
theorem next_any (b g cap : Nat) (ts : List Tok) (s : St) (w : World) (hw : PW b g cap ts s w) :
    Calls Tryz.prog 34 #[.pointer (some ⟨b, 0, none⟩)] w fun e w' => e = .returned (tokV' (tk ts s.i)) ∧ Below w.heap.size w w' := by
  obtain ⟨W, hW⟩ : ∃ W, W = w.alloc tok0 := ⟨_, rfl⟩
  have hbw : Below w.heap.size w W := by rw [hW]; exact (Below.refl w.heap.size w).alloc (Nat.le_refl _) tok0
  have hz : Blk w.heap.size #[.int .u8 0, .int .i64 0, .string ⟨#[]⟩, .int .i64 0] 55 W := by rw [hW]; exact Blk.new _ _ _
  obtain ⟨V, hV⟩ : ∃ V, V = W.drewN 1 := ⟨_, rfl⟩
  have hw1 : PW b g cap ts s W := hw.below hbw
  have hbv : Below w.heap.size w V := by rw [hV]; exact hbw.drew
  have hzv : Blk w.heap.size #[.int .u8 0, .int .i64 0, .string ⟨#[]⟩, .int .i64 0] 55 V := by rw [hV]; exact hz.drewN 1
  have p0 := hw1.blk.g0
  have p1 := hw1.blk.g1
  have c0 := hw1.toks.c0 s.i hw.lt
  have c1 := hw1.toks.c1 s.i hw.lt
  have c2 := hw1.toks.c2 s.i hw.lt
  have c3 := hw1.toks.c3 s.i hw.lt
  obtain ⟨z0, z1, z2, z3⟩ := hzv.get4
  obtain ⟨f0, f1, f2, f3⟩ := hzv.free4
  have hlt : (s.i : Int) < (ts.length : Int) := by have := hw.lt; omega
  have hlen : (ts.length : Int) ≤ 30000 := by have := hw.len; omega
  generalize tk ts s.i = t at *
  have HY := Lib.hid (hzv.set4 (.int .u8 (t.kind : Int)) (.int .i64 (t.pos : Int)) (.string ⟨t.text.toArray⟩) (.int .i64 (t.num : Int))).get4
  have HBB := Lib.hid (below_set4 hbv (Nat.le_refl _) (.int .u8 (t.kind : Int)) (.int .i64 (t.pos : Int)) (.string ⟨t.text.toArray⟩) (.int .i64 (t.num : Int)))
  have HW1 := Lib.hid hW
  have HV1 := Lib.hid hV
  clear hw hw1 hW hz hbw hbv hV hzv
  go_enter Tryz.func34, Tryz.ntmps34
  go_wp2_with fail
  rw [← HW1.out]
  go_still_tail 10, (by kernel_rfl)
  change wpList _ _ _ _ _ (W.drewN 1)
  rw [← HV1.out]
  go_wp2
  rw [← set4_eq]
  clear z0 z1 z2 z3 f0 f1 f2 f3 c0 c1 c2 c3 p0 p1
  obtain ⟨y0, y1, y2, y3⟩ := HY.out
  refine bodyPost_ret (v := tokV' t) (by simp [results, Tryz.results34, go_sem, y0, y1, y2, y3, tokV']) rfl ⟨rfl, HBB.out⟩

theorem fTok0 : ∀ (v0 v1 v2 v3 : Value) (w : World), (Instr.field 55 (.agg #[v0, v1, v2, v3]) 0).run Tryz.prog w = .ok v0 w := fun _ _ _ _ _ => by kernel_rfl
theorem fTok1 : ∀ (v0 v1 v2 v3 : Value) (w : World), (Instr.field 55 (.agg #[v0, v1, v2, v3]) 1).run Tryz.prog w = .ok v1 w := fun _ _ _ _ _ => by kernel_rfl
theorem fTok2 : ∀ (v0 v1 v2 v3 : Value) (w : World), (Instr.field 55 (.agg #[v0, v1, v2, v3]) 2).run Tryz.prog w = .ok v2 w := fun _ _ _ _ _ => by kernel_rfl
theorem fTok3 : ∀ (v0 v1 v2 v3 : Value) (w : World), (Instr.field 55 (.agg #[v0, v1, v2, v3]) 3).run Tryz.prog w = .ok v3 w := fun _ _ _ _ _ => by kernel_rfl

set_option maxRecDepth 100000 in
theorem is_any (b g cap : Nat) (ts : List Tok) (s : St) (x : Bytes) (w : World) (hw : PW b g cap ts s w) :
    Calls Tryz.prog 68 #[.pointer (some ⟨b, 0, none⟩), .string ⟨x.toArray⟩] w fun e w' => e = .returned (.bool ((tk ts s.i).text == x)) ∧ Below w.heap.size w w' := by
  have HN := Lib.hid (next_any b g cap ts s w hw)
  clear hw
  generalize tk ts s.i = t at *
  have hf := fTok2
  go_enter Tryz.func68, Tryz.ntmps68
  go_wp2_with fail
  refine HN.out.mono ?_
  rintro e w1 ⟨rfl, hb⟩
  have HB := Lib.hid hb
  clear hb
  unfold tokV'
  go_wp2
  go_ret
  exact ⟨rfl, HB.out⟩

def faultP (p n : Nat) : List PanicEntry := [{ v := .iface 60 (.agg #[.int .i64 (p : Int), .int .i64 (n : Int)]), recovered := false }]

def WrPost (p : Nat) (w : World) (e : Ending) (w' : World) : Prop := e = .panicked (faultP p 4) ∧ Below w.heap.size w w'

set_option maxRecDepth 100000 in
theorem wrong_any (b g cap : Nat) (ts : List Tok) (s : St) (w : World) (hw : PW b g cap ts s w) :
    Calls Tryz.prog 69 #[.pointer (some ⟨b, 0, none⟩)] w (WrPost (tk ts s.i).pos w) := by
  have HN := Lib.hid (next_any b g cap ts s w hw)
  clear hw
  generalize tk ts s.i = t at *
  have hf := fTok1
  go_enter Tryz.func69, Tryz.ntmps69
  go_wp2_with fail
  refine HN.out.mono ?_
  rintro e w1 ⟨rfl, hb⟩
  have HB := Lib.hid hb
  clear hb
  unfold tokV'
  go_wp2
  exact ⟨rfl, rfl, HB.out⟩

/-- What a taken token leaves. -/
def TkPost (b g cap : Nat) (ts : List Tok) (w : World) (r : R Tok) (e : Ending) (w' : World) : Prop :=
  w.grownBy w' (some b) ∧ match r with
    | .error pn => e = .panicked (faultP pn.1 pn.2)
    | .ok (t, s') => e = .returned (tokV' t) ∧ PW b g cap ts s' w'

theorem PB.set1 {b g L cap : Nat} {s : St} {w : World} (h : PB b g L cap s w) (k : Nat) : PB b g L cap ⟨k, s.o, s.n⟩ (w.setCell ⟨b, 1, none⟩ (.int .i64 (k : Int))) := Blk.set h 1 _
theorem PB.set2 {b g L cap : Nat} {s : St} {w : World} (h : PB b g L cap s w) (o : Int) : PB b g L cap ⟨s.i, o, s.n⟩ (w.setCell ⟨b, 2, none⟩ (.int .i64 o)) := Blk.set h 2 _
theorem PB.set3 {b g L cap : Nat} {s : St} {w : World} (h : PB b g L cap s w) (n : Nat) : PB b g L cap ⟨s.i, s.o, n⟩ (w.setCell ⟨b, 3, none⟩ (.int .i64 (n : Int))) := Blk.set h 3 _

theorem PW.step {b g cap : Nat} {ts : List Tok} {s : St} {w w' : World} (h : PW b g cap ts s w) (hg : w.grownBy w' (some b)) (s' : St) (hb : PB b g ts.length cap s' w') (h1 : s'.i < ts.length) (h2 : -(s'.i : Int) ≤ s'.o) (h3 : s'.o ≤ 200) (h4 : s'.n ≤ 100000) : PW b g cap ts s' w' :=
  ⟨hb, h.toks.stays (Nat.lt_of_lt_of_le h.toks.lt hg.size) (hg.block g h.toks.lt (by have := h.ne; simpa using this)), h.ne, h1, h.len, h2, h3, h4, h.fin⟩
theorem grown_of_below {w w' : World} {row : Option Nat} (h : Below w.heap.size w w') : w.grownBy w' row := Lib.grownBy_below (World.grownBy.refl _ _) h
theorem gtrans {a w w' : World} {row : Option Nat} (h : a.grownBy w row) (k : w.grownBy w' row) : a.grownBy w' row := Lib.grownBy_trans h k
theorem gnew {a w w' : World} {row : Option Nat} {j : Nat} (h : a.grownBy w row) (hj : a.heap.size ≤ j) (k : w.grownBy w' (some j)) : a.grownBy w' row :=
  ⟨k.os.trans h.os, k.tape.trans h.tape, k.output.trans h.output, Nat.le_trans h.size k.size, fun i hi hne => (k.block i (Nat.lt_of_lt_of_le hi h.size) (by simp; omega)).trans (h.block i hi hne)⟩

theorem take_fin {b g cap : Nat} {ts : List Tok} {s s' : St} {w W V : World} (hw : PW b g cap ts s w) (hbW : Below w.heap.size w W) {v0 v1 v2 v3 : Value} {T : TypeId} (hz : Blk w.heap.size #[v0, v1, v2, v3] T W) (hg : W.grownBy V (some b)) (hb : PB b g ts.length cap s' V)
    (h1 : s'.i < ts.length) (h2 : -(s'.i : Int) ≤ s'.o) (h3 : s'.o ≤ 200) (h4 : s'.n ≤ 100000) (u0 u1 u2 u3 : Value) :
    Blk w.heap.size #[u0, u1, u2, u3] T (set4 V w.heap.size u0 u1 u2 u3) ∧ w.grownBy (set4 V w.heap.size u0 u1 u2 u3) (some b) ∧ PW b g cap ts s' (set4 V w.heap.size u0 u1 u2 u3) := by
  have hlt := hw.blk.lt
  have hgl := hw.toks.lt
  have hzV : Blk w.heap.size #[v0, v1, v2, v3] T V := hz.other hg (by simp; omega)
  have hgV : w.grownBy V (some b) := gtrans (grown_of_below hbW) hg
  have hs : V.grownBy (set4 V w.heap.size u0 u1 u2 u3) (some w.heap.size) := gtrans (gtrans (gtrans (Lib.grownBy_setCell _ _ _ _) (Lib.grownBy_setCell _ _ _ _)) (Lib.grownBy_setCell _ _ _ _)) (Lib.grownBy_setCell _ _ _ _)
  exact ⟨hzV.set4 u0 u1 u2 u3, gnew hgV (Nat.le_refl _) hs, (hw.step hgV s' hb h1 h2 h3 h4).other hs (by simp; omega) (by simp; omega)⟩

set_option maxRecDepth 100000 in
set_option maxHeartbeats 1000000 in
theorem take_any (b g cap : Nat) (ts : List Tok) (s : St) (w : World) (hw : PW b g cap ts s w) (hne : (tk ts s.i).kind ≠ 0 ∨ (tk ts s.i).text ≠ []) :
    Calls Tryz.prog 70 #[.pointer (some ⟨b, 0, none⟩)] w (TkPost b g cap ts w (takeR ts s)) := by
  have hfin := hw.fin s.i hw.lt hne
  have hb0 : Below w.heap.size w (w.alloc tok0) := (Below.refl _ _).alloc (Nat.le_refl _) tok0
  have HN := Lib.hid (next_any b g cap ts s (w.alloc tok0) (hw.below hb0))
  have HW := Lib.hid hw
  have HB0 := Lib.hid hb0
  clear hb0
  have hlen : (ts.length : Int) ≤ 30000 := by have := hw.len; omega
  have hlt : (s.i : Int) < (ts.length : Int) := by have := hw.lt; omega
  have holo := hw.olo
  have hohi := hw.ohi
  clear hw
  rcases htk : tk ts s.i with ⟨x, y, t, n⟩
  simp only [htk] at HN hne
  have HTK := Lib.hid htk
  clear htk
  have hT : t = [40] ∨ t = [91] ∨ t = [123] ∨ t = [41] ∨ t = [93] ∨ t = [125] ∨ ((t == [40]) = false ∧ (t == [91]) = false ∧ (t == [123]) = false ∧ (t == [41]) = false ∧ (t == [93]) = false ∧ (t == [125]) = false) := by
    simp only [beq_eq_false_iff_ne]
    by_cases h1 : t = [40]
    · exact Or.inl h1
    by_cases h2 : t = [91]
    · exact Or.inr (Or.inl h2)
    by_cases h3 : t = [123]
    · exact Or.inr (Or.inr (Or.inl h3))
    by_cases h4 : t = [41]
    · exact Or.inr (Or.inr (Or.inr (Or.inl h4)))
    by_cases h5 : t = [93]
    · exact Or.inr (Or.inr (Or.inr (Or.inr (Or.inl h5))))
    by_cases h6 : t = [125]
    · exact Or.inr (Or.inr (Or.inr (Or.inr (Or.inr (Or.inl h6)))))
    · exact Or.inr (Or.inr (Or.inr (Or.inr (Or.inr (Or.inr ⟨h1, h2, h3, h4, h5, h6⟩)))))
  clear hne
  go_enter Tryz.func70, Tryz.ntmps70
  go_wp2_with fail
  refine HN.out.mono ?_
  rintro e w1 ⟨rfl, hb⟩
  unfold tokV'
  obtain ⟨W, hW⟩ : ∃ W, W = w1.alloc (.cells #[.int .u8 (x : Int), .int .i64 (y : Int), .string ⟨t.toArray⟩, .int .i64 (n : Int)] 55) := ⟨_, rfl⟩
  have hbW : Below w.heap.size w W := by rw [hW]; exact (HB0.out.trans (hb.mono (by simp))).alloc (by have := hb.size; simp at this; omega) _
  have hz : Blk w.heap.size #[.int .u8 0, .int .i64 0, .string ⟨#[]⟩, .int .i64 0] 55 W := by
    rw [hW]
    exact ((Blk.new w _ _).below hb (by simp)).below ((Below.refl _ _).alloc (Nat.le_refl _) _) (by have := hb.size; simp at this; omega)
  have ht : Blk w1.heap.size #[.int .u8 (x : Int), .int .i64 (y : Int), .string ⟨t.toArray⟩, .int .i64 (n : Int)] 55 W := by rw [hW]; exact Blk.new _ _ _
  have hpw : PW b g cap ts s W := HW.out.below hbW
  have hlt1 : w.heap.size < w1.heap.size := by have := hb.size; simp at this; omega
  have hblt := HW.out.blk.lt
  obtain ⟨t0, t1, t2, t3⟩ := ht.get4
  have p1 := hpw.blk.g1
  have p2 := hpw.blk.g2
  have q1 := hpw.blk.free 1
  have q2 := hpw.blk.free 2
  have hwne : ¬ b = w.heap.size := by omega
  have hwne1 : ¬ b = w1.heap.size := by omega
  obtain ⟨z0, z1, z2, z3⟩ := hz.get4
  obtain ⟨f0, f1, f2, f3⟩ := hz.free4
  go_upto_region 2 with (fail)
  rw [← hW]
  have HWW := Lib.hid hW
  have HF := Lib.hid (And.intro hbW (And.intro hz (And.intro ht hpw)))
  clear hb hbW hz ht hpw hW
  rcases hT with rfl | rfl | rfl | rfl | rfl | rfl | ⟨e1, e2, e3, e4, e5, e6⟩
  · by_cases ho : s.o = 200
    · have HR := Lib.hid (show takeR ts s = .error (y, 5) by unfold takeR; rw [HTK.out]; simp [opensB, ho])
      go_wp2
      unfold TkPost
      rw [HR.out]
      exact ⟨rfl, grown_of_below HF.out.1, rfl⟩
    have ho' : (s.o == 200) = false := by simpa using ho
    have HR := Lib.hid (show takeR ts s = .ok (⟨x, y, [40], n⟩, ⟨s.i + 1, s.o + 1, s.n⟩) by unfold takeR; rw [HTK.out]; simp [opensB, ho])
    have hg : W.grownBy ((W.setCell ⟨b, 2, none⟩ (.int .i64 (s.o + 1))).setCell ⟨b, 1, none⟩ (.int .i64 ((s.i : Int) + 1))) (some b) := gtrans (Lib.grownBy_setCell _ _ _ _) (Lib.grownBy_setCell _ _ _ _)
    have hpb : PB b g ts.length cap ⟨s.i + 1, s.o + 1, s.n⟩ ((W.setCell ⟨b, 2, none⟩ (.int .i64 (s.o + 1))).setCell ⟨b, 1, none⟩ (.int .i64 ((s.i : Int) + 1))) := (HF.out.2.2.2.blk.set2 (s.o + 1)).set1 (s.i + 1)
    have FIN := Lib.hid (take_fin (s' := ⟨s.i + 1, s.o + 1, s.n⟩) HW.out HF.out.1 HF.out.2.1 hg hpb hfin (by show -((s.i + 1 : Nat) : Int) ≤ s.o + 1; omega) (by show s.o + 1 ≤ 200; omega) HW.out.num (.int .u8 (x : Int)) (.int .i64 (y : Int)) (.string ⟨#[40]⟩) (.int .i64 (n : Int)))
    clear hg hpb
    go_wp2
    rw [← set4_eq]
    obtain ⟨y0, y1, y2, y3⟩ := FIN.out.1.get4
    clear t0 t1 t2 t3 z0 z1 z2 z3 f0 f1 f2 f3 p1 p2 q1 q2
    refine bodyPost_ret (v := tokV' ⟨x, y, [40], n⟩) (by simp [results, Tryz.results70, go_sem, y0, y1, y2, y3, tokV']) rfl ?_
    unfold TkPost
    rw [HR.out]
    exact ⟨FIN.out.2.1, rfl, FIN.out.2.2⟩
  · by_cases ho : s.o = 200
    · have HR := Lib.hid (show takeR ts s = .error (y, 5) by unfold takeR; rw [HTK.out]; simp [opensB, ho])
      go_wp2
      unfold TkPost
      rw [HR.out]
      exact ⟨rfl, grown_of_below HF.out.1, rfl⟩
    have ho' : (s.o == 200) = false := by simpa using ho
    have HR := Lib.hid (show takeR ts s = .ok (⟨x, y, [91], n⟩, ⟨s.i + 1, s.o + 1, s.n⟩) by unfold takeR; rw [HTK.out]; simp [opensB, ho])
    have hg : W.grownBy ((W.setCell ⟨b, 2, none⟩ (.int .i64 (s.o + 1))).setCell ⟨b, 1, none⟩ (.int .i64 ((s.i : Int) + 1))) (some b) := gtrans (Lib.grownBy_setCell _ _ _ _) (Lib.grownBy_setCell _ _ _ _)
    have hpb : PB b g ts.length cap ⟨s.i + 1, s.o + 1, s.n⟩ ((W.setCell ⟨b, 2, none⟩ (.int .i64 (s.o + 1))).setCell ⟨b, 1, none⟩ (.int .i64 ((s.i : Int) + 1))) := (HF.out.2.2.2.blk.set2 (s.o + 1)).set1 (s.i + 1)
    have FIN := Lib.hid (take_fin (s' := ⟨s.i + 1, s.o + 1, s.n⟩) HW.out HF.out.1 HF.out.2.1 hg hpb hfin (by show -((s.i + 1 : Nat) : Int) ≤ s.o + 1; omega) (by show s.o + 1 ≤ 200; omega) HW.out.num (.int .u8 (x : Int)) (.int .i64 (y : Int)) (.string ⟨#[91]⟩) (.int .i64 (n : Int)))
    clear hg hpb
    go_wp2
    rw [← set4_eq]
    obtain ⟨y0, y1, y2, y3⟩ := FIN.out.1.get4
    clear t0 t1 t2 t3 z0 z1 z2 z3 f0 f1 f2 f3 p1 p2 q1 q2
    refine bodyPost_ret (v := tokV' ⟨x, y, [91], n⟩) (by simp [results, Tryz.results70, go_sem, y0, y1, y2, y3, tokV']) rfl ?_
    unfold TkPost
    rw [HR.out]
    exact ⟨FIN.out.2.1, rfl, FIN.out.2.2⟩
  · by_cases ho : s.o = 200
    · have HR := Lib.hid (show takeR ts s = .error (y, 5) by unfold takeR; rw [HTK.out]; simp [opensB, ho])
      go_wp2
      unfold TkPost
      rw [HR.out]
      exact ⟨rfl, grown_of_below HF.out.1, rfl⟩
    have ho' : (s.o == 200) = false := by simpa using ho
    have HR := Lib.hid (show takeR ts s = .ok (⟨x, y, [123], n⟩, ⟨s.i + 1, s.o + 1, s.n⟩) by unfold takeR; rw [HTK.out]; simp [opensB, ho])
    have hg : W.grownBy ((W.setCell ⟨b, 2, none⟩ (.int .i64 (s.o + 1))).setCell ⟨b, 1, none⟩ (.int .i64 ((s.i : Int) + 1))) (some b) := gtrans (Lib.grownBy_setCell _ _ _ _) (Lib.grownBy_setCell _ _ _ _)
    have hpb : PB b g ts.length cap ⟨s.i + 1, s.o + 1, s.n⟩ ((W.setCell ⟨b, 2, none⟩ (.int .i64 (s.o + 1))).setCell ⟨b, 1, none⟩ (.int .i64 ((s.i : Int) + 1))) := (HF.out.2.2.2.blk.set2 (s.o + 1)).set1 (s.i + 1)
    have FIN := Lib.hid (take_fin (s' := ⟨s.i + 1, s.o + 1, s.n⟩) HW.out HF.out.1 HF.out.2.1 hg hpb hfin (by show -((s.i + 1 : Nat) : Int) ≤ s.o + 1; omega) (by show s.o + 1 ≤ 200; omega) HW.out.num (.int .u8 (x : Int)) (.int .i64 (y : Int)) (.string ⟨#[123]⟩) (.int .i64 (n : Int)))
    clear hg hpb
    go_wp2
    rw [← set4_eq]
    obtain ⟨y0, y1, y2, y3⟩ := FIN.out.1.get4
    clear t0 t1 t2 t3 z0 z1 z2 z3 f0 f1 f2 f3 p1 p2 q1 q2
    refine bodyPost_ret (v := tokV' ⟨x, y, [123], n⟩) (by simp [results, Tryz.results70, go_sem, y0, y1, y2, y3, tokV']) rfl ?_
    unfold TkPost
    rw [HR.out]
    exact ⟨FIN.out.2.1, rfl, FIN.out.2.2⟩
  · skip
    have HR := Lib.hid (show takeR ts s = .ok (⟨x, y, [41], n⟩, ⟨s.i + 1, s.o - 1, s.n⟩) by unfold takeR; rw [HTK.out]; simp [opensB, closesB])
    have hg : W.grownBy ((W.setCell ⟨b, 2, none⟩ (.int .i64 (s.o - 1))).setCell ⟨b, 1, none⟩ (.int .i64 ((s.i : Int) + 1))) (some b) := gtrans (Lib.grownBy_setCell _ _ _ _) (Lib.grownBy_setCell _ _ _ _)
    have hpb : PB b g ts.length cap ⟨s.i + 1, s.o - 1, s.n⟩ ((W.setCell ⟨b, 2, none⟩ (.int .i64 (s.o - 1))).setCell ⟨b, 1, none⟩ (.int .i64 ((s.i : Int) + 1))) := (HF.out.2.2.2.blk.set2 (s.o - 1)).set1 (s.i + 1)
    have FIN := Lib.hid (take_fin (s' := ⟨s.i + 1, s.o - 1, s.n⟩) HW.out HF.out.1 HF.out.2.1 hg hpb hfin (by show -((s.i + 1 : Nat) : Int) ≤ s.o - 1; omega) (by show s.o - 1 ≤ 200; omega) HW.out.num (.int .u8 (x : Int)) (.int .i64 (y : Int)) (.string ⟨#[41]⟩) (.int .i64 (n : Int)))
    clear hg hpb
    go_wp2
    rw [← set4_eq]
    obtain ⟨y0, y1, y2, y3⟩ := FIN.out.1.get4
    clear t0 t1 t2 t3 z0 z1 z2 z3 f0 f1 f2 f3 p1 p2 q1 q2
    refine bodyPost_ret (v := tokV' ⟨x, y, [41], n⟩) (by simp [results, Tryz.results70, go_sem, y0, y1, y2, y3, tokV']) rfl ?_
    unfold TkPost
    rw [HR.out]
    exact ⟨FIN.out.2.1, rfl, FIN.out.2.2⟩
  · skip
    have HR := Lib.hid (show takeR ts s = .ok (⟨x, y, [93], n⟩, ⟨s.i + 1, s.o - 1, s.n⟩) by unfold takeR; rw [HTK.out]; simp [opensB, closesB])
    have hg : W.grownBy ((W.setCell ⟨b, 2, none⟩ (.int .i64 (s.o - 1))).setCell ⟨b, 1, none⟩ (.int .i64 ((s.i : Int) + 1))) (some b) := gtrans (Lib.grownBy_setCell _ _ _ _) (Lib.grownBy_setCell _ _ _ _)
    have hpb : PB b g ts.length cap ⟨s.i + 1, s.o - 1, s.n⟩ ((W.setCell ⟨b, 2, none⟩ (.int .i64 (s.o - 1))).setCell ⟨b, 1, none⟩ (.int .i64 ((s.i : Int) + 1))) := (HF.out.2.2.2.blk.set2 (s.o - 1)).set1 (s.i + 1)
    have FIN := Lib.hid (take_fin (s' := ⟨s.i + 1, s.o - 1, s.n⟩) HW.out HF.out.1 HF.out.2.1 hg hpb hfin (by show -((s.i + 1 : Nat) : Int) ≤ s.o - 1; omega) (by show s.o - 1 ≤ 200; omega) HW.out.num (.int .u8 (x : Int)) (.int .i64 (y : Int)) (.string ⟨#[93]⟩) (.int .i64 (n : Int)))
    clear hg hpb
    go_wp2
    rw [← set4_eq]
    obtain ⟨y0, y1, y2, y3⟩ := FIN.out.1.get4
    clear t0 t1 t2 t3 z0 z1 z2 z3 f0 f1 f2 f3 p1 p2 q1 q2
    refine bodyPost_ret (v := tokV' ⟨x, y, [93], n⟩) (by simp [results, Tryz.results70, go_sem, y0, y1, y2, y3, tokV']) rfl ?_
    unfold TkPost
    rw [HR.out]
    exact ⟨FIN.out.2.1, rfl, FIN.out.2.2⟩
  · skip
    have HR := Lib.hid (show takeR ts s = .ok (⟨x, y, [125], n⟩, ⟨s.i + 1, s.o - 1, s.n⟩) by unfold takeR; rw [HTK.out]; simp [opensB, closesB])
    have hg : W.grownBy ((W.setCell ⟨b, 2, none⟩ (.int .i64 (s.o - 1))).setCell ⟨b, 1, none⟩ (.int .i64 ((s.i : Int) + 1))) (some b) := gtrans (Lib.grownBy_setCell _ _ _ _) (Lib.grownBy_setCell _ _ _ _)
    have hpb : PB b g ts.length cap ⟨s.i + 1, s.o - 1, s.n⟩ ((W.setCell ⟨b, 2, none⟩ (.int .i64 (s.o - 1))).setCell ⟨b, 1, none⟩ (.int .i64 ((s.i : Int) + 1))) := (HF.out.2.2.2.blk.set2 (s.o - 1)).set1 (s.i + 1)
    have FIN := Lib.hid (take_fin (s' := ⟨s.i + 1, s.o - 1, s.n⟩) HW.out HF.out.1 HF.out.2.1 hg hpb hfin (by show -((s.i + 1 : Nat) : Int) ≤ s.o - 1; omega) (by show s.o - 1 ≤ 200; omega) HW.out.num (.int .u8 (x : Int)) (.int .i64 (y : Int)) (.string ⟨#[125]⟩) (.int .i64 (n : Int)))
    clear hg hpb
    go_wp2
    rw [← set4_eq]
    obtain ⟨y0, y1, y2, y3⟩ := FIN.out.1.get4
    clear t0 t1 t2 t3 z0 z1 z2 z3 f0 f1 f2 f3 p1 p2 q1 q2
    refine bodyPost_ret (v := tokV' ⟨x, y, [125], n⟩) (by simp [results, Tryz.results70, go_sem, y0, y1, y2, y3, tokV']) rfl ?_
    unfold TkPost
    rw [HR.out]
    exact ⟨FIN.out.2.1, rfl, FIN.out.2.2⟩
  · skip
    have HR := Lib.hid (show takeR ts s = .ok (⟨x, y, t, n⟩, ⟨s.i + 1, s.o, s.n⟩) by unfold takeR; rw [HTK.out]; simp [opensB, closesB, e1, e2, e3, e4, e5, e6])
    have hg : W.grownBy (W.setCell ⟨b, 1, none⟩ (.int .i64 ((s.i : Int) + 1))) (some b) := Lib.grownBy_setCell _ _ _ _
    have hpb : PB b g ts.length cap ⟨s.i + 1, s.o, s.n⟩ (W.setCell ⟨b, 1, none⟩ (.int .i64 ((s.i : Int) + 1))) := HF.out.2.2.2.blk.set1 (s.i + 1)
    have FIN := Lib.hid (take_fin (s' := ⟨s.i + 1, s.o, s.n⟩) HW.out HF.out.1 HF.out.2.1 hg hpb hfin (by show -((s.i + 1 : Nat) : Int) ≤ s.o; omega) hohi HW.out.num (.int .u8 (x : Int)) (.int .i64 (y : Int)) (.string ⟨t.toArray⟩) (.int .i64 (n : Int)))
    clear hg hpb
    go_wp2
    rw [← set4_eq]
    obtain ⟨y0, y1, y2, y3⟩ := FIN.out.1.get4
    clear t0 t1 t2 t3 z0 z1 z2 z3 f0 f1 f2 f3 p1 p2 q1 q2
    refine bodyPost_ret (v := tokV' ⟨x, y, t, n⟩) (by simp [results, Tryz.results70, go_sem, y0, y1, y2, y3, tokV']) rfl ?_
    unfold TkPost
    rw [HR.out]
    exact ⟨FIN.out.2.1, rfl, FIN.out.2.2⟩
end Go.Proofs.YtcgllooeimacdaaGreatDoor
