/-
  A tangle of moves in memory: how it is made.
-/
import Derived.Test.YtnbkcdhblmfopaaMvM
import Derived.Maps.OwnSet
import Derived.Deep.DeepCutAuto
import Derived.Deep.CutBlock
import Derived.StillTailTactics
namespace Go.Proofs.Ytnbkcdhblmfopaa
open Go Go.RowKit Go.Maps Go.ChangeMaps Go.MapKept Mv

theorem madeOne (x : Value) (n : Nat) : madeCells #[x] n = Array.replicate n x := by
  apply Array.ext
  · simp [size_madeCells]
  · intro i h1 h2
    simp [madeCells, Nat.mod_one]
/-- A row of n values by a function. -/
def arrF (n : Nat) (f : Nat → Value) : Array Value := ((List.range n).map f).toArray
theorem arrF_size (n : Nat) (f : Nat → Value) : (arrF n f).size = n := by simp [arrF]
theorem arrF_get {n i : Nat} (f : Nat → Value) (h : i < n) : (arrF n f)[i]? = some (f i) := by
  simp [arrF, h]
theorem arrF_congr {n : Nat} {f g : Nat → Value} (h : ∀ i, i < n → f i = g i) : arrF n f = arrF n g := by
  unfold arrF
  rw [List.map_congr_left (fun i hi => h i (List.mem_range.1 hi))]
theorem arrF_set (n : Nat) (f : Nat → Value) (i : Nat) (v : Value) : (arrF n f).setIfInBounds i v = arrF n (up f i v) := by
  apply Array.ext_getElem?
  intro j
  rw [Array.getElem?_setIfInBounds, arrF_size]
  by_cases hj : j < n
  · rw [arrF_get (up f i v) hj]
    unfold up
    by_cases h : i = j
    · subst h; simp [hj]
    · rw [if_neg h, arrF_get f hj, if_neg (fun e => h e.symm)]
  · rw [Array.getElem?_eq_none (xs := arrF n (up f i v)) (by rw [arrF_size]; omega), Array.getElem?_eq_none (xs := arrF n f) (by rw [arrF_size]; omega)]
    by_cases h : i = j
    · subst h; simp [hj]
    · rw [if_neg h]
theorem arrF_repl (n : Nat) (x : Value) : Array.replicate n x = arrF n fun _ => x := by
  apply Array.ext
  · simp [arrF]
  · intro i h1 h2
    simp [arrF]
theorem infoB : (Try.prog.info? 4).map (fun i => (i.zero, i.size, i.bytes)) = some (some (.bool false), 1, 1) := by kernel_rfl
theorem mkIs (n : Nat) (hn : n ≤ 4000000) (u : World) : (Instr.makeSlice 41 (I (n : Int)) (I (n : Int))).run Try.prog u = .ok (.slice (some ⟨u.heap.size, 0, none⟩) n n) (u.alloc (.cells (Array.replicate n (I 0)) 3)) := by
  obtain ⟨i0, hi, hz0, hz1, hz2⟩ := info_parts infoI
  have h := run_makeSlice (P := Try.prog) (w := u) 41 3 i0 _ Try.underlying41 hi hz0 .i64 .i64 (n : Int) (n : Int) (by omega) (Int.le_refl _) (by rw [hz1]; simp; omega) (by rw [hz2]; simp; omega) (by omega)
  rw [hz1, show (I 0).cells = #[I 0] from rfl, madeOne] at h
  simpa using h
theorem mkBs (n : Nat) (hn : n ≤ 4000000) (u : World) : (Instr.makeSlice 57 (I (n : Int)) (I (n : Int))).run Try.prog u = .ok (.slice (some ⟨u.heap.size, 0, none⟩) n n) (u.alloc (.cells (Array.replicate n (.bool false)) 4)) := by
  obtain ⟨i0, hi, hz0, hz1, hz2⟩ := info_parts infoB
  have h := run_makeSlice (P := Try.prog) (w := u) 57 4 i0 _ Try.underlying57 hi hz0 .i64 .i64 (n : Int) (n : Int) (by omega) (Int.le_refl _) (by rw [hz1]; simp; omega) (by rw [hz2]; simp; omega) (by omega)
  rw [hz1, show (Value.bool false).cells = #[.bool false] from rfl, madeOne] at h
  simpa using h

/-! The map. -/
theorem key_int : Keyed Try.prog 3 := int_keyed Try.underlying3
theorem int_zero (w : World) : (zeroValue 3).run Try.prog w = .ok (.int .i64 0) w := by kernel_rfl
def ByIs (l : List M) (k : Nat) (D : DataW Unit) : Prop := IsMap D ∧ ∀ a : Int, (Maps.has D (.int .i64 a) = true ∧ ∃ i, i < k ∧ tO l i = a ∧ D.atKey (.int .i64 a) (.lit (.int .i64 0)) = .lit (.int .i64 (i : Int))) ∨ (Maps.has D (.int .i64 a) = false ∧ ∀ i, i < k → tO l i ≠ a)
theorem ByIs.start (l : List M) : ByIs l 0 (.map []) := ⟨⟨[], rfl⟩, fun a => Or.inr ⟨rfl, fun i hi => absurd hi (by omega)⟩⟩
theorem ByIs.put {l : List M} {k : Nat} {D : DataW Unit} (h : ByIs l k D) : ByIs l (k + 1) (D.put (.int .i64 (tO l k)) (.lit (.int .i64 (k : Int)))) := by
  refine ⟨h.1.put _ _, fun a => ?_⟩
  by_cases ha : a = tO l k
  · subst ha
    exact Or.inl ⟨Maps.has_put_same h.1 (by simp [WideAt.IsKeyLit]) _, k, by omega, rfl, Maps.atKey_put_same h.1 (by simp [WideAt.IsKeyLit]) _ _⟩
  · have hne : (Lit.int .i64 a) ≠ (Lit.int .i64 (tO l k)) := fun e => ha (by cases e; rfl)
    rcases h.2 a with ⟨h1, i, h2, h3, h4⟩ | ⟨h1, h2⟩
    · exact Or.inl ⟨(Maps.has_put_other hne _).trans h1, i, by omega, h3, (Maps.atKey_put_other hne _ _).trans h4⟩
    · refine Or.inr ⟨(Maps.has_put_other hne _).trans h1, fun i hi e => ?_⟩
      by_cases hik : i = k
      · subst hik; exact ha e.symm
      · exact h2 i (by omega) e
def ByW (l : List M) (bm k : Nat) (W : World) : Prop := ∃ D, W.ownsMap Try.prog 3 (plainElem Try.prog 3) bm k D ∧ ByIs l k D
theorem ByW.kept {l : List M} {bm k : Nat} {W W' : World} {row : Option Nat} (h : ByW l bm k W) (hg : W.grownBy W' row) (hne : some bm ≠ row) : ByW l bm k W' := by
  obtain ⟨D, h1, h2⟩ := h
  exact ⟨D, h1.kept hg hne, h2⟩
theorem ByW.set {l : List M} {bm k : Nat} {W : World} (h : ByW l bm k W) {a : Addr} (ha : bm ≠ a.block) (u : Value) : ByW l bm k (W.setCell a u) := by
  obtain ⟨D, h1, h2⟩ := h
  exact ⟨D, h1.setCell ha u, h2⟩
theorem ByW.lt {l : List M} {bm k : Nat} {W : World} (h : ByW l bm k W) : bm < W.heap.size := by
  obtain ⟨D, h1, h2⟩ := h
  exact h1.lt

/-- Numbers that are numbers. -/
def WfL (l : List M) : Prop := ∀ m ∈ l, (Lit.int .i64 m.1).wf = true ∧ (Lit.int .i64 m.2).wf = true

/-- A tangle: its list, its map, what is asked and what is done. -/
structure Tang (l : List M) (base bt bm ba bd : Nat) (lv : Value) (km : Nat) (ask : Nat → Nat) (dn : Nat → Bool) (W : World) : Prop where
  tb : Blk bt #[lv, .map (some bm), .slice (some ⟨ba, 0, none⟩) l.length l.length, .slice (some ⟨bd, 0, none⟩) l.length l.length] 59 W
  ab : Blk ba (arrF l.length fun i => I (ask i : Int)) 3 W
  db : Blk bd (arrF l.length fun i => .bool (dn i)) 4 W
  mp : ByW l bm km W
  ls : SlS (fun b => b < base) 2 MovV W lv l
  lt : base ≤ bt ∧ base ≤ bm ∧ base ≤ ba ∧ base ≤ bd
  ne : bt ≠ bm ∧ bt ≠ ba ∧ bt ≠ bd ∧ bm ≠ ba ∧ bm ≠ bd ∧ ba ≠ bd
section
variable {l : List M} {base bt bm ba bd km : Nat} {lv : Value} {ask : Nat → Nat} {dn : Nat → Bool} {W W' : World}
theorem Tang.kept (h : Tang l base bt bm ba bd lv km ask dn W) {row : Option Nat} (hg : W.grownBy W' row) (h1 : row ≠ some bt) (h2 : row ≠ some bm) (h3 : row ≠ some ba) (h4 : row ≠ some bd) (h5 : ∀ k, row = some k → base ≤ k) : Tang l base bt bm ba bd lv km ask dn W' :=
  ⟨h.tb.other hg (fun e => h1 e.symm), h.ab.other hg (fun e => h3 e.symm), h.db.other hg (fun e => h4 e.symm), h.mp.kept hg (fun e => h2 e.symm),
    h.ls.keep movV_stays (fun k hk => hg.block k (by have := h.tb.lt; have := h.lt.1; omega) (fun e => by have := h5 k e.symm; omega)) (fun _ h => h), h.lt, h.ne⟩
theorem Tang.below (h : Tang l base bt bm ba bd lv km ask dn W) (hb : Below W.heap.size W W') : Tang l base bt bm ba bd lv km ask dn W' :=
  h.kept (grown_of_below hb) (by simp) (by simp) (by simp) (by simp) (fun k hk => by cases hk)
theorem Tang.alloc (h : Tang l base bt bm ba bd lv km ask dn W) (o : Obj) : Tang l base bt bm ba bd lv km ask dn (W.alloc o) := h.below ((Below.refl _ _).alloc (Nat.le_refl _) _)
theorem Tang.drewN (h : Tang l base bt bm ba bd lv km ask dn W) (n : Nat) : Tang l base bt bm ba bd lv km ask dn (W.drewN n) := h.below (below_drewN (Below.refl _ _) n)
theorem Tang.putMap {km' : Nat} (h : Tang l base bt bm ba bd lv km ask dn W) (hg : W.grownBy W' (some bm)) (hm : ByW l bm km' W') : Tang l base bt bm ba bd lv km' ask dn W' := by
  obtain ⟨n1, n2, n3, n4, n5, n6⟩ := h.ne
  exact ⟨h.tb.other hg (by simp; exact n1), h.ab.other hg (by simp; exact fun e => n4 e.symm), h.db.other hg (by simp; exact fun e => n5 e.symm), hm,
    h.ls.keep movV_stays (fun k hk => hg.block k (by have := h.tb.lt; have := h.lt.1; omega) (fun e => by cases e; have := h.lt.2.1; omega)) (fun _ h => h), h.lt, h.ne⟩
theorem Tang.drew (h : Tang l base bt bm ba bd lv km ask dn W) : Tang l base bt bm ba bd lv km ask dn W.drew := h.drewN 1
theorem Tang.setAsk (h : Tang l base bt bm ba bd lv km ask dn W) (i v : Nat) : Tang l base bt bm ba bd lv km (up ask i v) dn (W.setCell ⟨ba, i, none⟩ (I (v : Int))) := by
  obtain ⟨n1, n2, n3, n4, n5, n6⟩ := h.ne
  refine ⟨h.tb.setOther n2 _ _, ?_, h.db.setOther (fun e => n6 e.symm) _ _, h.mp.set n4 _, h.ls.keep movV_stays (fun k hk => Below.heap_setCell _ _ _ _ (show k ≠ ba by have := h.lt.2.2.1; omega)) (fun _ h => h), h.lt, h.ne⟩
  have h9 := h.ab.set i (I (v : Int))
  rw [arrF_set] at h9
  have e : (up (fun i => I (ask i : Int)) i (I (v : Int))) = fun j => I ((up ask i v j : Nat) : Int) := by
    funext j
    unfold up
    split <;> rfl
  rw [e] at h9
  exact h9
theorem Tang.setDn (h : Tang l base bt bm ba bd lv km ask dn W) (i : Nat) (v : Bool) : Tang l base bt bm ba bd lv km ask (up dn i v) (W.setCell ⟨bd, i, none⟩ (.bool v)) := by
  obtain ⟨n1, n2, n3, n4, n5, n6⟩ := h.ne
  refine ⟨h.tb.setOther n3 _ _, h.ab.setOther n6 _ _, ?_, h.mp.set n5 _, h.ls.keep movV_stays (fun k hk => Below.heap_setCell _ _ _ _ (show k ≠ bd by have := h.lt.2.2.2; omega)) (fun _ h => h), h.lt, h.ne⟩
  have h9 := h.db.set i (.bool v)
  rw [arrF_set] at h9
  have e : (up (fun i => Value.bool (dn i)) i (.bool v)) = fun j => Value.bool (up dn i v j) := by
    funext j
    unfold up
    split <;> rfl
  rw [e] at h9
  exact h9
theorem Tang.turn {ask' : Nat → Nat} {dn' : Nat → Bool} (h : Tang l base bt bm ba bd lv km ask dn W) (h1 : ∀ i, i < l.length → ask i = ask' i) (h2 : ∀ i, i < l.length → dn i = dn' i) : Tang l base bt bm ba bd lv km ask' dn' W :=
  ⟨h.tb, by rw [← arrF_congr (f := fun i => I (ask i : Int)) (g := fun i => I (ask' i : Int)) (fun i hi => by rw [h1 i hi])]; exact h.ab, by rw [← arrF_congr (f := fun i => Value.bool (dn i)) (g := fun i => Value.bool (dn' i)) (fun i hi => by rw [h2 i hi])]; exact h.db, h.mp, h.ls, h.lt, h.ne⟩
end

theorem four_get (w : World) (o1 o2 o3 o4 : Obj) (i : Nat) (o : Obj) (hi : [o1, o2, o3, o4][i]? = some o) : (((((w.alloc o1).alloc o2).alloc o3).alloc o4).drew).heap[w.heap.size + i]? = some o := by
  show ((((w.alloc o1).alloc o2).alloc o3).alloc o4).heap[w.heap.size + i]? = some o
  match i, hi with
  | 0, hi =>
    obtain rfl : o1 = o := by simpa using hi
    rw [heap_alloc_old _ _ (by simp <;> omega), heap_alloc_old _ _ (by simp <;> omega), heap_alloc_old _ _ (by simp)]
    exact heap_alloc_new w _
  | 1, hi =>
    obtain rfl : o2 = o := by simpa using hi
    rw [heap_alloc_old _ _ (by simp <;> omega), heap_alloc_old _ _ (by simp)]
    have := heap_alloc_new (w.alloc o1) o2
    simpa using this
  | 2, hi =>
    obtain rfl : o3 = o := by simpa using hi
    rw [heap_alloc_old _ _ (by simp)]
    have := heap_alloc_new ((w.alloc o1).alloc o2) o3
    simpa using this
  | 3, hi =>
    obtain rfl : o4 = o := by simpa using hi
    have := heap_alloc_new (((w.alloc o1).alloc o2).alloc o3) o4
    simpa using this
  | n + 4, hi => simp at hi
def NewT (w : World) (l : List M) (lv : Value) (p : Value) (W : World) : Prop := ∃ bt bm ba bd, p = .pointer (some ⟨bt, 0, none⟩) ∧ Tang l w.heap.size bt bm ba bd lv 0 (fun _ => 0) (fun _ => false) W ∧ Below w.heap.size w W
theorem new_four (w : World) (l : List M) (lv : Value) (h : MovZ w lv l) (n : Nat) (hn : n = l.length) (o1 o2 o3 : Obj) (i j k : Nat) (bt bm ba bd : Nat) (hi : bm = w.heap.size + i) (hj : ba = w.heap.size + j) (hk : bd = w.heap.size + k) (ht : bt = w.heap.size + 3)
    (h1 : [o1, o2, o3][i]? = some (.map #[] 0)) (h2 : [o1, o2, o3][j]? = some (.cells (Array.replicate n (I 0)) 3)) (h3 : [o1, o2, o3][k]? = some (.cells (Array.replicate n (.bool false)) 4)) (hne : i ≠ j ∧ i ≠ k ∧ j ≠ k ∧ i < 3 ∧ j < 3 ∧ k < 3) :
    NewT w l lv (.pointer (some ⟨bt, 0, none⟩)) (((((w.alloc o1).alloc o2).alloc o3).alloc (.cells #[lv, .map (some bm), .slice (some ⟨ba, 0, none⟩) n n, .slice (some ⟨bd, 0, none⟩) n n] 59)).drew) := by
  subst hn
  have hb : Below w.heap.size w (((((w.alloc o1).alloc o2).alloc o3).alloc (.cells #[lv, .map (some bm), .slice (some ⟨ba, 0, none⟩) l.length l.length, .slice (some ⟨bd, 0, none⟩) l.length l.length] 59)).drew) := (((((Below.refl _ _).alloc (Nat.le_refl _) _).alloc (by simp) _).alloc (by simp; omega) _).alloc (by simp; omega) _).drew
  have g4 : ∀ i o, i < 3 → [o1, o2, o3][i]? = some o → [o1, o2, o3, Obj.cells #[lv, .map (some bm), .slice (some ⟨ba, 0, none⟩) l.length l.length, .slice (some ⟨bd, 0, none⟩) l.length l.length] 59][i]? = some o := fun i o hi h => by
    match i, hi with
    | 0, _ => simpa using h
    | 1, _ => simpa using h
    | 2, _ => simpa using h
  have e1 := four_get w o1 o2 o3 (.cells #[lv, .map (some bm), .slice (some ⟨ba, 0, none⟩) l.length l.length, .slice (some ⟨bd, 0, none⟩) l.length l.length] 59) i _ (g4 i _ hne.2.2.2.1 h1)
  have e2 := four_get w o1 o2 o3 (.cells #[lv, .map (some bm), .slice (some ⟨ba, 0, none⟩) l.length l.length, .slice (some ⟨bd, 0, none⟩) l.length l.length] 59) j _ (g4 j _ hne.2.2.2.2.1 h2)
  have e3 := four_get w o1 o2 o3 (.cells #[lv, .map (some bm), .slice (some ⟨ba, 0, none⟩) l.length l.length, .slice (some ⟨bd, 0, none⟩) l.length l.length] 59) k _ (g4 k _ hne.2.2.2.2.2 h3)
  have e4 := four_get w o1 o2 o3 (.cells #[lv, .map (some bm), .slice (some ⟨ba, 0, none⟩) l.length l.length, .slice (some ⟨bd, 0, none⟩) l.length l.length] 59) 3 _ rfl
  rw [← hi] at e1
  rw [← hj] at e2
  rw [← hk] at e3
  rw [← ht] at e4
  refine ⟨bt, bm, ba, bd, rfl, ⟨e4, ?_, ?_, ⟨.map [], ⟨#[], 0, e1, ⟨by simp, stamped_empty 0, by simp⟩, Nat.le_refl _, rfl⟩, ByIs.start l⟩, h.keep movV_stays (fun n hn => hb.block n hn) (fun n hn => hn), ⟨by omega, by omega, by omega, by omega⟩, ⟨by omega, by omega, by omega, by omega, by omega, by omega⟩⟩, hb⟩
  · rw [arrF_repl] at e2; exact e2
  · rw [arrF_repl] at e3; exact e3
end Go.Proofs.Ytnbkcdhblmfopaa
