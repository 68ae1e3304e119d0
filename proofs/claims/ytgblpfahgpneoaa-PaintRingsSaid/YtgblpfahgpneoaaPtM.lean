/-
  How pairs, rows of rows and a painter lie in memory.
-/
import Derived.Test.YtgblpfahgpneoaaCdM
import Derived.Deep.AppendLies
import Derived.Deep.CutRange
import Derived.WalkSmall
import Derived.Laws.BitsAllLaws
import Derived.Deep.DeepCutAuto
import Derived.Deep.CutBlock
import Derived.StillTailTactics
namespace Go.Proofs.Ytgblpfahgpneoaa
open Go Go.RowKit

abbrev P2 := Int × Int
def encP (m : P2) : List Value := [I m.1, I m.2]
abbrev PairV := FlatV encP
abbrev PairZ (W : World) := SlS (LtW W) 2 PairV W
theorem pairV_stays : StaysV PairV := fun _ _ _ _ _ _ h _ _ => h
def pr (l : List P2) (i : Nat) : P2 := l.getD i (0, 0)
theorem getD_pr {l : List P2} {i : Nat} (h : i < l.length) : l[i] = pr l i := by
  unfold pr
  rw [List.getD_eq_getElem?_getD, List.getElem?_eq_getElem h]
  rfl
theorem take_pr {l : List P2} {i : Nat} (h : i < l.length) : l.take (i + 1) = l.take i ++ [pr l i] := by
  rw [List.take_succ_eq_append_getElem h, getD_pr h]

def up {α : Type} (f : Nat → α) (i : Nat) (v : α) : Nat → α := fun j => if j = i then v else f j
theorem infoI : (Try.prog.info? 3).map (fun i => (i.zero, i.size, i.bytes)) = some (some (I 0), 1, 8) := by kernel_rfl
theorem infoU : (Try.prog.info? 53).map (fun i => (i.zero, i.size, i.bytes)) = some (some (.int .u32 0), 1, 4) := by kernel_rfl
theorem madeOne (x : Value) (n : Nat) : madeCells #[x] n = Array.replicate n x := by
  apply Array.ext
  · simp [size_madeCells]
  · intro i h1 h2
    simp [madeCells, Nat.mod_one]
/-- A row of n values by a function. -/
def arrF (n : Nat) (f : Nat → Value) : Array Value := ((List.range n).map f).toArray
theorem arrF_size (n : Nat) (f : Nat → Value) : (arrF n f).size = n := by simp [arrF]
theorem arrF_get {n i : Nat} (f : Nat → Value) (h : i < n) : (arrF n f)[i]? = some (f i) := by
  simp [arrF, h]
theorem arrF_congr {n : Nat} {f g : Nat → Value} (h : ∀ i, i < n → f i = g i) : arrF n f = arrF n g := by
  unfold arrF
  rw [List.map_congr_left (fun i hi => h i (List.mem_range.1 hi))]
theorem arrF_set (n : Nat) (f : Nat → Value) (i : Nat) (v : Value) : (arrF n f).setIfInBounds i v = arrF n (up f i v) := by
  apply Array.ext_getElem?
  intro j
  rw [Array.getElem?_setIfInBounds, arrF_size]
  by_cases hj : j < n
  · rw [arrF_get (up f i v) hj]
    unfold up
    by_cases h : i = j
    · subst h; simp [hj]
    · rw [if_neg h, arrF_get f hj, if_neg (fun e => h e.symm)]
  · rw [Array.getElem?_eq_none (xs := arrF n (up f i v)) (by rw [arrF_size]; omega), Array.getElem?_eq_none (xs := arrF n f) (by rw [arrF_size]; omega)]
    by_cases h : i = j
    · subst h; simp [hj]
    · rw [if_neg h]
theorem arrF_repl (n : Nat) (x : Value) : Array.replicate n x = arrF n fun _ => x := by
  apply Array.ext
  · simp [arrF]
  · intro i h1 h2
    simp [arrF]
theorem mkIs (n : Nat) (hn : n ≤ 4000000) (u : World) : (Instr.makeSlice 25 (I (n : Int)) (I (n : Int))).run Try.prog u = .ok (.slice (some ⟨u.heap.size, 0, none⟩) n n) (u.alloc (.cells (Array.replicate n (I 0)) 3)) := by
  obtain ⟨i0, hi, hz0, hz1, hz2⟩ := info_parts infoI
  have h := run_makeSlice (P := Try.prog) (w := u) 25 3 i0 _ Try.underlying25 hi hz0 .i64 .i64 (n : Int) (n : Int) (by omega) (Int.le_refl _) (by rw [hz1]; simp; omega) (by rw [hz2]; simp; omega) (by omega)
  rw [hz1, show (I 0).cells = #[I 0] from rfl, madeOne] at h
  simpa using h
theorem mkUs (n : Nat) (hn : n ≤ 4000000) (u : World) : (Instr.makeSlice 43 (I (n : Int)) (I (n : Int))).run Try.prog u = .ok (.slice (some ⟨u.heap.size, 0, none⟩) n n) (u.alloc (.cells (Array.replicate n (.int .u32 0)) 53)) := by
  obtain ⟨i0, hi, hz0, hz1, hz2⟩ := info_parts infoU
  have h := run_makeSlice (P := Try.prog) (w := u) 43 53 i0 _ Try.underlying43 hi hz0 .i64 .i64 (n : Int) (n : Int) (by omega) (Int.le_refl _) (by rw [hz1]; simp; omega) (by rw [hz2]; simp; omega) (by omega)
  rw [hz1, show (Value.int .u32 0).cells = #[.int .u32 0] from rfl, madeOne] at h
  simpa using h
theorem made_one (x : Value) (n : Nat) : madeCells #[x] n = (List.replicate n x).toArray := by
  apply Array.ext
  · simp [size_madeCells]
  · intro i h1 h2
    simp [madeCells, Nat.mod_one]
theorem own_heap {w w' : World} {base E size n : Nat} {v : Value} {xs : List Value} (h : w.ownsRow base E size v n xs) (e : w'.heap = w.heap) : w'.ownsRow base E size v n xs := by
  refine ⟨h.1, ?_⟩
  rcases h.2 with h2 | ⟨g, cap, cur, hv, hg, hh, r⟩
  · exact Or.inl h2
  · exact Or.inr ⟨g, cap, cur, hv, hg, by rw [e]; exact hh, r⟩
theorem own_apart {w : World} {base E size n : Nat} {v : Value} {xs : List Value} (_ : w.ownsRow base E size v n xs) {u : Value} {b : Nat} (hne : some b ≠ v.ownBlock) (hb : b < w.heap.size) {S : Nat} (hS : w.heap.size ≤ S) (hat : u.ownBlock = v.ownBlock ∨ ∃ g, u.ownBlock = some g ∧ S ≤ g) : some b ≠ u.ownBlock := by
  rcases hat with e | ⟨g, e, hg⟩
  · rw [e]; exact hne
  · rw [e]; simp; omega
theorem nums_get {w : World} {base g cap n : Nat} {l : List Nat} (h : w.ownsRow base 3 1 (.slice (some ⟨g, 0, none⟩) n cap) n (ints l)) (hl : l.length = n) (j : Nat) (hj : j < n) : w.cell? ⟨g, j, none⟩ = some (I ((l.getD j 0 : Nat) : Int)) := by
  rw [h.cellAt j (by omega), List.getElem?_map, List.getElem?_eq_getElem (by omega), List.getD_eq_getElem?_getD, List.getElem?_eq_getElem (by omega)]
  rfl

theorem own_setAt {W : World} {base E k g n c : Nat} {xs : List Value} (h : W.ownsRow base E k (.slice (some ⟨g, 0, none⟩) n c) n xs) (j : Nat) (u : Value) (_ : j < n * k) : (W.setCell ⟨g, j, none⟩ u).ownsRow base E k (.slice (some ⟨g, 0, none⟩) n c) n (xs.set j u) := by
  obtain ⟨h1, h2⟩ := h
  rcases h2 with ⟨e, _⟩ | ⟨g', cap, cur, e, hb, hg, hn, hc, hs, ht⟩
  · cases e
  · cases e
    refine ⟨by rw [List.length_set]; exact h1, .inr ⟨g, _, cur.setIfInBounds j u, rfl, hb, Blk.set hg j u, hn, hc, by simp [hs], ?_⟩⟩
    rw [Array.toList_setIfInBounds, List.take_set, ht]
theorem nums_row {W : World} {base : Nat} {v : Value} {l : List Nat} (h : Nums W base v l) : ∃ a k, v = .slice a l.length k := by
  rcases own_slice h with ⟨e, e2⟩ | ⟨g, k, e⟩
  · exact ⟨none, 0, by rw [e, e2]⟩
  · exact ⟨_, _, e⟩

/-- Rows of rows, being written. -/
def IntoW (base bl n : Nat) (T : Nat → List Nat) (W : World) : Prop := base ≤ bl ∧ ∃ vs : List Value, vs.length = n ∧ Blk bl vs.toArray 25 W ∧ (∀ t (h : t < vs.length), Nums W base vs[t] (T t)) ∧ (∀ t (h : t < vs.length), some bl ≠ vs[t].ownBlock) ∧
  (∀ t u (ht : t < vs.length) (hu : u < vs.length), t ≠ u → vs[t].ownBlock = none ∨ vs[t].ownBlock ≠ vs[u].ownBlock)

theorem IntoW.ext {base bl n : Nat} {T T' : Nat → List Nat} {W : World} (h : IntoW base bl n T W) (e : ∀ t, t < n → T' t = T t) : IntoW base bl n T' W := by
  obtain ⟨h0, vs, h1, h2, h3, h4, h5⟩ := h
  exact ⟨h0, vs, h1, h2, fun t ht => by rw [e t (by omega)]; exact h3 t ht, h4, h5⟩
theorem IntoW.heap {base bl n : Nat} {T : Nat → List Nat} {W W' : World} (h : IntoW base bl n T W) (e : W'.heap = W.heap) : IntoW base bl n T W' := by
  obtain ⟨h0, vs, h1, h2, h3, h4, h5⟩ := h
  exact ⟨h0, vs, h1, by unfold Blk; rw [e]; exact h2, fun t ht => own_heap (h3 t ht) e, h4, h5⟩

theorem IntoW.app {base bl n : Nat} {T : Nat → List Nat} {W w4 : World} {o : Obj} {u : Value} {vs : List Value} {t0 p : Nat} (h0 : base ≤ bl) (h1 : vs.length = n) (h2 : Blk bl vs.toArray 25 W) (h3 : ∀ t (h : t < vs.length), Nums W base vs[t] (T t)) (h4 : ∀ t (h : t < vs.length), some bl ≠ vs[t].ownBlock)
    (h5 : ∀ t u (ht : t < vs.length) (hu : u < vs.length), t ≠ u → vs[t].ownBlock = none ∨ vs[t].ownBlock ≠ vs[u].ownBlock) (ht0 : t0 < vs.length) (hg : (W.alloc o).grownBy w4 vs[t0].ownBlock) (ho : Nums w4 base u (T t0 ++ [p])) (hat : u.ownBlock = vs[t0].ownBlock ∨ u.ownBlock = some (W.alloc o).heap.size) :
    IntoW base bl n (fun t => if t = t0 then T t ++ [p] else T t) (w4.setCell ⟨bl, t0, none⟩ u) := by
  have hat' : u.ownBlock = vs[t0].ownBlock ∨ ∃ g, u.ownBlock = some g ∧ W.heap.size ≤ g := by
    rcases hat with e | e
    · exact Or.inl e
    · exact Or.inr ⟨_, e, by simp⟩
  have qb : some bl ≠ u.ownBlock := own_apart (h3 t0 ht0) (h4 t0 ht0) h2.lt (Nat.le_refl _) hat'
  have hap : ∀ t (h : t < vs.length), t ≠ t0 → vs[t].ownBlock = none ∨ vs[t].ownBlock ≠ u.ownBlock := by
    intro t ht hne
    cases hv : vs[t].ownBlock with
    | none => exact Or.inl rfl
    | some g0 =>
      right
      have hl := ((h3 t ht).lt g0 hv).2
      have hn2 : some g0 ≠ vs[t0].ownBlock := by
        rcases h5 t t0 ht ht0 hne with e | e
        · rw [hv] at e; cases e
        · rw [hv] at e; exact e
      exact own_apart (h3 t0 ht0) hn2 hl (Nat.le_refl _) hat'
  refine ⟨h0, vs.set t0 u, by simpa using h1, ?_, fun t ht => ?_, fun t ht => ?_, fun t v ht hv hne => ?_⟩
  · have h := ((h2.alloc o).other hg (h4 t0 ht0)).set t0 u
    have e : vs.toArray.setIfInBounds t0 u = (vs.set t0 u).toArray := by apply Array.toList_inj.1; simp
    rw [e] at h
    exact h
  · have ht' : t < vs.length := by simpa using ht
    rw [List.getElem_set]
    show Nums _ _ _ (if t = t0 then T t ++ [p] else T t)
    by_cases e : t = t0
    · subst e
      rw [if_pos rfl, if_pos rfl]
      exact own_set ho qb
    · rw [if_neg (fun e' => e e'.symm), if_neg e]
      refine own_set (((h3 t ht').alloc o).kept hg ?_) (h4 t ht')
      exact h5 t t0 ht' ht0 e
  · have ht' : t < vs.length := by simpa using ht
    rw [List.getElem_set]
    split
    · exact qb
    · exact h4 t ht'
  · have ht' : t < vs.length := by simpa using ht
    have hv' : v < vs.length := by simpa using hv
    rw [List.getElem_set, List.getElem_set]
    by_cases e1 : t0 = t
    · rw [if_pos e1, if_neg (by omega)]
      rcases hap v hv' (by omega) with e | e
      · right; rw [e]
        intro e2
        have := ho.lt
        cases hu : u.ownBlock with
        | none =>
          rcases own_slice ho with ⟨_, h⟩ | ⟨g, c, h⟩
          · simp at h
          · rw [h] at hu; cases hu
        | some g => rw [hu] at e2; cases e2
      · right; exact Ne.symm e
    · rw [if_neg e1]
      by_cases e2 : t0 = v
      · rw [if_pos e2]; exact hap t ht' (by omega)
      · rw [if_neg e2]; exact h5 t v ht' hv' hne
theorem info_sl : (Try.prog.info? 25).map (fun i => (i.zero, i.size, i.bytes)) = some (some (.slice none 0 0), 1, 24) := by kernel_rfl
abbrev arrS (vs : List Value) : Array Value := vs.toArray
theorem mkSn (n : Nat) (hn : n ≤ 1000000) (u : World) : (Instr.makeSlice 40 (I (n : Int)) (I (n : Int))).run Try.prog u = .ok (.slice (some ⟨u.heap.size, 0, none⟩) n n) (u.alloc (.cells (arrS (List.replicate n (.slice none 0 0))) 25)) := by
  obtain ⟨i0, hi, hz0, hz1, hz2⟩ := info_parts info_sl
  have h := run_makeSlice (P := Try.prog) (w := u) 40 25 i0 _ Try.underlying40 hi hz0 .i64 .i64 (n : Int) (n : Int) (by omega) (Int.le_refl _) (by rw [hz1]; simp; omega) (by rw [hz2]; simp; omega) (by omega)
  rw [hz1, show (Value.slice none 0 0).cells = #[.slice none 0 0] from rfl, made_one] at h
  simp at h
  rw [show arrS (List.replicate n (.slice none 0 0)) = Array.replicate n (.slice none 0 0) by apply Array.toList_inj.1; simp]
  exact h


/-! Rows of rows, as they are read. -/
def RowA (S : Nat → Prop) (W : World) (v : Value) (l : List Nat) : Prop := ∃ a c, v = .slice a l.length c ∧ ∀ j (h : j < l.length), ∃ g, a = some ⟨g, 0, none⟩ ∧ S g ∧ W.cell? ⟨g, j, none⟩ = some (I (l[j] : Int))
def Gz (base : Nat) (v : Value) (n : Nat) (G : Nat → List Nat) (W : World) : Prop := ∃ bl, v = .slice (some ⟨bl, 0, none⟩) n n ∧ bl < base ∧ ∀ i, i < n → ∃ u, W.cell? ⟨bl, i, none⟩ = some u ∧ RowA (fun g => g < base) W u (G i)
theorem Gz.keep {base n : Nat} {v : Value} {G : Nat → List Nat} {W W' : World} (h : Gz base v n G W) (hk : ∀ k, k < base → W'.heap[k]? = W.heap[k]?) : Gz base v n G W' := by
  obtain ⟨bl, h1, h2, h3⟩ := h
  have hc : ∀ g j, g < base → W'.cell? ⟨g, j, none⟩ = W.cell? ⟨g, j, none⟩ := fun g j hg => by unfold World.cell?; rw [hk g hg]
  refine ⟨bl, h1, h2, fun i hi => ?_⟩
  obtain ⟨u, c, a, d, e, r⟩ := h3 i hi
  exact ⟨u, by rw [hc _ _ h2]; exact c, a, d, e, fun j hj => by
    obtain ⟨g, q1, q2, q3⟩ := r j hj
    exact ⟨g, q1, q2, by rw [hc _ _ q2]; exact q3⟩⟩
theorem IntoW.gz {base bl n : Nat} {T : Nat → List Nat} {W : World} (h : IntoW base bl n T W) : Gz W.heap.size (.slice (some ⟨bl, 0, none⟩) n n) n T W := by
  obtain ⟨h0, vs, h1, h2, h3, h4, h5⟩ := h
  refine ⟨bl, rfl, h2.lt, fun i hi => ⟨vs[i]'(by omega), h2.get i _ (by simp [h1, hi]), ?_⟩⟩
  have ho := h3 i (by omega)
  obtain ⟨a, c, e⟩ := nums_row ho
  refine ⟨a, c, e, fun j hj => ?_⟩
  rcases own_slice ho with ⟨_, e2⟩ | ⟨g, k, e2⟩
  · omega
  · rw [e2] at e ho
    cases e
    have hl := (World.ownsRow.lt ho g rfl).2
    refine ⟨g, rfl, hl, ?_⟩
    rw [nums_get ho rfl j hj, List.getD_eq_getElem?_getD, List.getElem?_eq_getElem hj]
    rfl
theorem Gz.lower {base base' n : Nat} {v : Value} {G : Nat → List Nat} {W : World} (h : Gz base v n G W) (hb : base ≤ base') : Gz base' v n G W := by
  obtain ⟨bl, h1, h2, h3⟩ := h
  refine ⟨bl, h1, by omega, fun i hi => ?_⟩
  obtain ⟨u, c, a, d, e, r⟩ := h3 i hi
  exact ⟨u, c, a, d, e, fun j hj => by
    obtain ⟨g, q1, q2, q3⟩ := r j hj
    exact ⟨g, q1, by omega, q3⟩⟩

/-- A painter: whom each is near to, whom it likes; colours, wishes, what is taken. -/
structure Pain (n : Nat) (nr lk : Nat → List Nat) (k base bp bc bw bt : Nat) (nv lv : Value) (C Wh : Nat → Int) (T : Nat → Nat) (W : World) : Prop where
  pb : Blk bp #[nv, lv, I (k : Int), .slice (some ⟨bc, 0, none⟩) n n, .slice (some ⟨bw, 0, none⟩) n n, .slice (some ⟨bt, 0, none⟩) n n] 45 W
  cb : Blk bc (arrF n fun i => I (C i)) 3 W
  wb : Blk bw (arrF n fun i => I (Wh i)) 3 W
  tb : Blk bt (arrF n fun i => .int .u32 (T i : Int)) 53 W
  ng : Gz base nv n nr W
  lg : Gz base lv n lk W
  lt : base ≤ bp ∧ base ≤ bc ∧ base ≤ bw ∧ base ≤ bt
  ne : bp ≠ bc ∧ bp ≠ bw ∧ bp ≠ bt ∧ bc ≠ bw ∧ bc ≠ bt ∧ bw ≠ bt
section
variable {n : Nat} {nr lk : Nat → List Nat} {k base bp bc bw bt : Nat} {nv lv : Value} {C Wh : Nat → Int} {T : Nat → Nat} {W W' : World}
theorem Pain.keep (h : Pain n nr lk k base bp bc bw bt nv lv C Wh T W) (hk : ∀ j, j < W.heap.size → W'.heap[j]? = W.heap[j]?) : Pain n nr lk k base bp bc bw bt nv lv C Wh T W' :=
  ⟨(hk bp h.pb.lt).trans h.pb, (hk bc h.cb.lt).trans h.cb, (hk bw h.wb.lt).trans h.wb, (hk bt h.tb.lt).trans h.tb, h.ng.keep (fun j hj => hk j (by have := h.pb.lt; have := h.lt.1; omega)), h.lg.keep (fun j hj => hk j (by have := h.pb.lt; have := h.lt.1; omega)), h.lt, h.ne⟩
theorem Pain.below (h : Pain n nr lk k base bp bc bw bt nv lv C Wh T W) (hb : Below W.heap.size W W') : Pain n nr lk k base bp bc bw bt nv lv C Wh T W' := h.keep hb.block
theorem Pain.alloc (h : Pain n nr lk k base bp bc bw bt nv lv C Wh T W) (o : Obj) : Pain n nr lk k base bp bc bw bt nv lv C Wh T (W.alloc o) := h.below ((Below.refl _ _).alloc (Nat.le_refl _) _)
theorem Pain.drewN (h : Pain n nr lk k base bp bc bw bt nv lv C Wh T W) (q : Nat) : Pain n nr lk k base bp bc bw bt nv lv C Wh T (W.drewN q) := h.below (below_drewN (Below.refl _ _) q)
theorem Pain.drew (h : Pain n nr lk k base bp bc bw bt nv lv C Wh T W) : Pain n nr lk k base bp bc bw bt nv lv C Wh T W.drew := h.drewN 1
theorem Pain.setC (h : Pain n nr lk k base bp bc bw bt nv lv C Wh T W) (i : Nat) (v : Int) : Pain n nr lk k base bp bc bw bt nv lv (up C i v) Wh T (W.setCell ⟨bc, i, none⟩ (I v)) := by
  obtain ⟨n1, n2, n3, n4, n5, n6⟩ := h.ne
  refine ⟨h.pb.setOther n1 _ _, ?_, h.wb.setOther (fun e => n4 e.symm) _ _, h.tb.setOther (fun e => n5 e.symm) _ _, h.ng.keep (fun j hj => Below.heap_setCell _ _ _ _ (show j ≠ bc by have := h.lt.2.1; omega)), h.lg.keep (fun j hj => Below.heap_setCell _ _ _ _ (show j ≠ bc by have := h.lt.2.1; omega)), h.lt, h.ne⟩
  have h9 := h.cb.set i (I v)
  rw [arrF_set] at h9
  have e : (up (fun i => I (C i)) i (I v)) = fun j => I (up C i v j) := by
    funext j
    unfold up
    split <;> rfl
  rw [e] at h9
  exact h9
theorem Pain.setW (h : Pain n nr lk k base bp bc bw bt nv lv C Wh T W) (i : Nat) (v : Int) : Pain n nr lk k base bp bc bw bt nv lv C (up Wh i v) T (W.setCell ⟨bw, i, none⟩ (I v)) := by
  obtain ⟨n1, n2, n3, n4, n5, n6⟩ := h.ne
  refine ⟨h.pb.setOther n2 _ _, h.cb.setOther n4 _ _, ?_, h.tb.setOther (fun e => n6 e.symm) _ _, h.ng.keep (fun j hj => Below.heap_setCell _ _ _ _ (show j ≠ bw by have := h.lt.2.2.1; omega)), h.lg.keep (fun j hj => Below.heap_setCell _ _ _ _ (show j ≠ bw by have := h.lt.2.2.1; omega)), h.lt, h.ne⟩
  have h9 := h.wb.set i (I v)
  rw [arrF_set] at h9
  have e : (up (fun i => I (Wh i)) i (I v)) = fun j => I (up Wh i v j) := by
    funext j
    unfold up
    split <;> rfl
  rw [e] at h9
  exact h9
theorem Pain.setT (h : Pain n nr lk k base bp bc bw bt nv lv C Wh T W) (i v : Nat) : Pain n nr lk k base bp bc bw bt nv lv C Wh (up T i v) (W.setCell ⟨bt, i, none⟩ (.int .u32 (v : Int))) := by
  obtain ⟨n1, n2, n3, n4, n5, n6⟩ := h.ne
  refine ⟨h.pb.setOther n3 _ _, h.cb.setOther n5 _ _, h.wb.setOther n6 _ _, ?_, h.ng.keep (fun j hj => Below.heap_setCell _ _ _ _ (show j ≠ bt by have := h.lt.2.2.2; omega)), h.lg.keep (fun j hj => Below.heap_setCell _ _ _ _ (show j ≠ bt by have := h.lt.2.2.2; omega)), h.lt, h.ne⟩
  have h9 := h.tb.set i (.int .u32 (v : Int))
  rw [arrF_set] at h9
  have e : (up (fun i => Value.int .u32 (T i : Int)) i (.int .u32 (v : Int))) = fun j => Value.int .u32 ((up T i v j : Nat) : Int) := by
    funext j
    unfold up
    split <;> rfl
  rw [e] at h9
  exact h9
end
end Go.Proofs.Ytgblpfahgpneoaa
