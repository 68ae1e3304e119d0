/-
  Joined: FWlk.
-/
import Derived.Test.YtjlmkcamefaodaaJ01
import Derived.Maps.AppendAt
import Derived.Deep.CutRange
import Derived.Deep.LoopGhost
/-! FWlk: Joined: FGen, FWalk. -/

namespace Go.Proofs.Ytjlmkcamefaodaa
open Go Go.RowKit

theorem grown_trans' {w w1 w2 : World} {b : Nat} (h : w.grownBy w1 (some b)) (h' : w1.grownBy w2 (some b)) : w.grownBy w2 (some b) :=
  ⟨h'.os.trans h.os, h'.tape.trans h.tape, h'.output.trans h.output, Nat.le_trans h.size h'.size, fun i hi hne => (h'.block i (Nat.lt_of_lt_of_le hi h.size) hne).trans (h.block i hi hne)⟩
abbrev intsZ (l : List Int) : List Value := l.map I
abbrev arrZ (l : List Int) : Array Value := (intsZ l).toArray
abbrev arrN (l : List Nat) : Array Value := (ints l).toArray
abbrev arrB (l : List Bool) : Array Value := (l.map Value.bool).toArray
theorem arrZ_set (l : List Int) (j : Nat) (x : Int) : (arrZ l).setIfInBounds j (I x) = arrZ (l.set j x) := by
  apply Array.toList_inj.1
  simp [List.map_set]
theorem arrN_set (l : List Nat) (j x : Nat) : (arrN l).setIfInBounds j (I (x : Int)) = arrN (l.set j x) := by
  apply Array.toList_inj.1
  simp [List.map_set]
theorem arrB_set (l : List Bool) (j : Nat) (x : Bool) : (arrB l).setIfInBounds j (.bool x) = arrB (l.set j x) := by
  apply Array.toList_inj.1
  simp [List.map_set]
theorem arrZ_get (l : List Int) (j : Nat) (h : j < l.length) : (arrZ l)[j]? = some (I l[j]) := by simp [h]
theorem arrN_get (l : List Nat) (j : Nat) (h : j < l.length) : (arrN l)[j]? = some (I (l[j] : Int)) := by simp [h]
theorem arrB_get (l : List Bool) (j : Nat) (h : j < l.length) : (arrB l)[j]? = some (.bool l[j]) := by simp [h]

/-- A walk in memory: what it entered and left stands elsewhere. -/
structure WalkG (base bw bf br : Nat) (v0 v1 : Value) (n : Nat) (fs : List Int) (rs : List Bool) (W : World) : Prop where
  blk : Blk bw #[v0, v1, .slice (some ⟨bf, 0, none⟩) n n, .slice (some ⟨br, 0, none⟩) n n] 103 W
  frm : Blk bf (arrZ fs) 3 W
  rch : Blk br (arrB rs) 4 W
  lw : base ≤ bw
  lf : base ≤ bf
  lr : base ≤ br
  nf : bw ≠ bf
  nr : bw ≠ br
  fr : bf ≠ br
  fl : fs.length = n
  rl : rs.length = n
section
variable {base bw bf br : Nat} {v0 v1 : Value} {n : Nat} {fs : List Int} {rs : List Bool} {W W' : World}
theorem WalkG.same (h : WalkG base bw bf br v0 v1 n fs rs W) (h1 : W'.heap[bw]? = W.heap[bw]?) (h2 : W'.heap[bf]? = W.heap[bf]?) (h3 : W'.heap[br]? = W.heap[br]?) : WalkG base bw bf br v0 v1 n fs rs W' :=
  ⟨h1.trans h.blk, h2.trans h.frm, h3.trans h.rch, h.lw, h.lf, h.lr, h.nf, h.nr, h.fr, h.fl, h.rl⟩
theorem WalkG.grown {row : Option Nat} (h : WalkG base bw bf br v0 v1 n fs rs W) (hg : W.grownBy W' row) (h1 : some bw ≠ row) (h2 : some bf ≠ row) (h3 : some br ≠ row) : WalkG base bw bf br v0 v1 n fs rs W' :=
  h.same (hg.block bw h.blk.lt h1) (hg.block bf h.frm.lt h2) (hg.block br h.rch.lt h3)
theorem WalkG.alloc (h : WalkG base bw bf br v0 v1 n fs rs W) (o : Obj) : WalkG base bw bf br v0 v1 n fs rs (W.alloc o) := h.grown (World.grownBy_alloc W o none) (by simp) (by simp) (by simp)
theorem WalkG.set0 (h : WalkG base bw bf br v0 v1 n fs rs W) (u : Value) : WalkG base bw bf br u v1 n fs rs (W.setCell ⟨bw, 0, none⟩ u) :=
  ⟨h.blk.set 0 u, h.frm.setOther (Ne.symm h.nf) _ _, h.rch.setOther (Ne.symm h.nr) _ _, h.lw, h.lf, h.lr, h.nf, h.nr, h.fr, h.fl, h.rl⟩
theorem WalkG.set1 (h : WalkG base bw bf br v0 v1 n fs rs W) (u : Value) : WalkG base bw bf br v0 u n fs rs (W.setCell ⟨bw, 1, none⟩ u) :=
  ⟨h.blk.set 1 u, h.frm.setOther (Ne.symm h.nf) _ _, h.rch.setOther (Ne.symm h.nr) _ _, h.lw, h.lf, h.lr, h.nf, h.nr, h.fr, h.fl, h.rl⟩
theorem WalkG.enter (h : WalkG base bw bf br v0 v1 n fs rs W) (node : Nat) (f : Int) : WalkG base bw bf br v0 v1 n (fs.set node f) (rs.set node true) ((W.setCell ⟨br, node, none⟩ (.bool true)).setCell ⟨bf, node, none⟩ (I f)).drew :=
  ⟨(h.blk.setOther h.nr _ _).setOther h.nf _ _, by have := (h.frm.setOther h.fr node (.bool true)).set node (I f); rw [arrZ_set] at this; exact this, by have := (h.rch.set node (.bool true)).setOther (Ne.symm h.fr) node (I f); rw [arrB_set] at this; exact this,
    h.lw, h.lf, h.lr, h.nf, h.nr, h.fr, by rw [List.length_set]; exact h.fl, by rw [List.length_set]; exact h.rl⟩
end

theorem info_int' : (Try.prog.info? 3).map (fun i => (i.zero, i.size, i.bytes)) = some (some (I 0), 1, 8) := by kernel_rfl

/-- A value's block is none of three. -/
def Apart3 (v : Value) (a b c : Nat) : Prop := some a ≠ v.ownBlock ∧ some b ≠ v.ownBlock ∧ some c ≠ v.ownBlock

/-- What entering a node leaves. -/
def EnterP (base bw bf br : Nat) (v0 v1 : Value) (n : Nat) (fs : List Int) (rs : List Bool) (E : List Nat) (node : Nat) (f : Int) (W W' : World) (e : Ending) : Prop := e = .returned (.tuple #[]) ∧
  ∃ v0', WalkG base bw bf br v0' v1 n (fs.set node f) (rs.set node true) W' ∧ Nums W' base v0' (E ++ [node]) ∧ Apart3 v0' bw bf br ∧ (v0'.ownBlock = v0.ownBlock ∨ ∃ g, v0'.ownBlock = some g ∧ W.heap.size ≤ g) ∧
  (∀ k, k < W.heap.size → k ≠ bw → k ≠ bf → k ≠ br → some k ≠ v0.ownBlock → W'.heap[k]? = W.heap[k]?) ∧ W.heap.size ≤ W'.heap.size ∧ W'.os = W.os ∧ W'.tape = W.tape ∧ W'.output = W.output

set_option maxRecDepth 100000 in
set_option maxHeartbeats 800000 in
theorem enter_any (base bw bf br : Nat) (v0 v1 : Value) (n : Nat) (fs : List Int) (rs : List Bool) (E : List Nat) (node : Nat) (f : Int) (hn : node < n) (hE : E.length ≤ 10000000) (W : World) (hbase : base ≤ W.heap.size) (h : WalkG base bw bf br v0 v1 n fs rs W) (ho : Nums W base v0 E) (ha : Apart3 v0 bw bf br) :
    Calls Try.prog 61 #[.pointer (some ⟨bw, 0, none⟩), I (node : Int), I f] W fun e w' => EnterP base bw bf br v0 v1 n fs rs E node f W w' e := by
  obtain ⟨i0, hi, hz0, hz1, hz2⟩ := info_parts info_int'
  obtain ⟨s0, m0, k0, rfl⟩ : ∃ a m c, v0 = .slice a m c := by
    rcases own_slice ho with ⟨h, _⟩ | ⟨g, cap, h⟩
    · exact ⟨_, _, _, h⟩
    · exact ⟨_, _, _, h⟩
  have H := Lib.hid (And.intro h (And.intro ho (And.intro ha hbase)))
  have HI := Lib.hid (And.intro hi (And.intro hz0 (And.intro hz1 hz2)))
  have HB := Lib.hid (And.intro (show E.length + 1 ≤ maxLen by unfold maxLen; omega) (show (E.length + 1) * 8 ≤ 140737488355328 by omega))
  have c0 := h.blk.get 0 (.slice s0 m0 k0) rfl
  have c2 := h.blk.get 2 (.slice (some ⟨bf, 0, none⟩) n n) rfl
  have c3 := h.blk.get 3 (.slice (some ⟨br, 0, none⟩) n n) rfl
  have hnf : node < fs.length := by rw [h.fl]; exact hn
  have hnr : node < rs.length := by rw [h.rl]; exact hn
  have d0 := h.frm.get node (I fs[node]) (arrZ_get fs node hnf)
  have d1 := h.rch.get node (.bool rs[node]) (arrB_get rs node hnr)
  generalize fs[node] = x0 at d0
  generalize rs[node] = x1 at d1
  have f0 := h.blk.free 0
  have f1 := h.frm.free node
  have f2 := h.rch.free node
  have n1 := h.nf
  have n2 := h.nr
  have n3 := h.fr
  obtain ⟨W1, hW1⟩ : ∃ W1, W1 = ((W.setCell ⟨br, node, none⟩ (.bool true)).setCell ⟨bf, node, none⟩ (I f)).drew := ⟨_, rfl⟩
  have h1 : WalkG base bw bf br (.slice s0 m0 k0) v1 n (fs.set node f) (rs.set node true) W1 := by rw [hW1]; exact h.enter node f
  have hs1 : W1.heap.size = W.heap.size := by rw [hW1]; simp
  have hk1 : ∀ k, k ≠ bf → k ≠ br → W1.heap[k]? = W.heap[k]? := by
    intro k hf hr
    rw [hW1]
    exact (Below.heap_setCell _ _ _ _ hf).trans (Below.heap_setCell _ _ _ _ hr)
  have ho1 : Nums W1 base (.slice s0 m0 k0) E := by
    rw [hW1]
    exact own_set (own_set ho ha.2.2) ha.2.1
  have hm1 : W1.os = W.os ∧ W1.tape = W.tape ∧ W1.output = W.output := by rw [hW1]; exact ⟨rfl, rfl, rfl⟩
  have H1 := Lib.hid (And.intro h1 (And.intro hs1 (And.intro hk1 (And.intro ho1 hm1))))
  have HW1 := Lib.hid hW1
  have hni : (0 : Int) ≤ (node : Int) := by omega
  have hni2 : (node : Int) < (n : Int) := by omega
  clear h ho ha hi hz0 hz1 hz2 hE hbase hnf hnr hW1 h1 hs1 hk1 ho1 hm1
  go_enter Try.func61, Try.ntmps61
  go_wp2_with fail
  go_region
  go_upto_region 1 with (fail)
  change Code.wp _ _ _ _ ((W.setCell ⟨br, node, none⟩ (.bool true)).setCell ⟨bf, node, none⟩ (I f)).drew
  rw [← HW1.out]
  clear c0 c2 c3 d0 d1 f0 f1 f2 HW1
  have c0 := H1.out.1.blk.get 0 (.slice s0 m0 k0) rfl
  go_wp2_with (at_builtin; refine Hid.out ?_)
  unfold Hid
  refine wpList_append_own_at _ rfl _ _ 41 rfl base 3 i0 (I 0) 1 8 Try.underlying41 HI.out.1 HI.out.2.1 HI.out.2.2.1 HI.out.2.2.2 rfl (by decide) (.slice s0 m0 k0) E.length (ints E) rfl (H1.out.2.2.2.1.alloc _) ⟨W1.heap.size, 0, none⟩ 1 1 [I (node : Int)] rfl rfl (cell_one_new _ _ _) (by simp [Value.oneCell']) HB.out.1 HB.out.2 (by have e1 := H1.out.2.1; have e2 := H.out.2.2.2; simp; omega) ?_
  intro v' w2 ho hg _ hat
  have hw2 : WalkG base bw bf br (.slice s0 m0 k0) v1 n (fs.set node f) (rs.set node true) w2 := (H1.out.1.alloc _).grown hg H.out.2.2.1.1 H.out.2.2.1.2.1 H.out.2.2.1.2.2
  obtain ⟨g, cap, rfl⟩ : ∃ g cap, v' = .slice (some ⟨g, 0, none⟩) (E.length + 1) cap := by
    rcases own_slice ho with ⟨_, h⟩ | ⟨g, cap, h⟩
    · exact absurd h (by omega)
    · exact ⟨g, cap, h⟩
  have hlt := ho.lt g rfl
  have hbw := H.out.1.blk.lt
  have hbf := H.out.1.frm.lt
  have hbr := H.out.1.rch.lt
  have hap : Apart3 (.slice (some ⟨g, 0, none⟩) (E.length + 1) cap) bw bf br := by
    rcases hat with h | h
    · unfold Apart3; rw [h]; exact H.out.2.2.1
    · have e1 := H1.out.2.1
      simp [Value.ownBlock] at h
      unfold Apart3
      simp [Value.ownBlock]
      omega
  have hat2 : (Value.slice (some ⟨g, 0, none⟩) (E.length + 1) cap).ownBlock = (Value.slice s0 m0 k0).ownBlock ∨ ∃ g', (Value.slice (some ⟨g, 0, none⟩) (E.length + 1) cap).ownBlock = some g' ∧ W.heap.size ≤ g' := by
    rcases hat with h | h
    · exact Or.inl h
    · refine Or.inr ⟨g, rfl, ?_⟩
      have e1 := H1.out.2.1
      simp [Value.ownBlock] at h
      omega
  have hk2 : ∀ k, k < W.heap.size → k ≠ bw → k ≠ bf → k ≠ br → some k ≠ (Value.slice s0 m0 k0).ownBlock → w2.heap[k]? = W.heap[k]? := by
    intro k hk _ h2 h3 h4
    have e1 := H1.out.2.1
    rw [hg.block k (by simp; omega) h4, heap_alloc_old W1 _ (by omega)]
    exact H1.out.2.2.1 k h2 h3
  have hsz : W.heap.size ≤ w2.heap.size := by have := hg.size; have e1 := H1.out.2.1; simp at this; omega
  have FIN := Lib.hid (show EnterP base bw bf br (.slice s0 m0 k0) v1 n fs rs E node f W (w2.setCell ⟨bw, 0, none⟩ (.slice (some ⟨g, 0, none⟩) (E.length + 1) cap)) (.returned (.tuple #[])) from
    ⟨rfl, _, hw2.set0 _, by
      have h := own_set (a := ⟨bw, 0, none⟩) (u := .slice (some ⟨g, 0, none⟩) (E.length + 1) cap) ho hap.1
      show World.ownsRow _ _ _ _ _ _ _
      rw [List.length_append]
      simpa using h, hap, hat2, fun k h0 h1 h2 h3 h4 => (Below.heap_setCell _ _ _ _ h1).trans (hk2 k h0 h1 h2 h3 h4), by simpa [World.setCell] using hsz, hg.os.trans H1.out.2.2.2.2.1, hg.tape.trans H1.out.2.2.2.2.2.1, hg.output.trans H1.out.2.2.2.2.2.2⟩)
  have c0' := hw2.blk.get 0 (.slice s0 m0 k0) rfl
  have f0 := hw2.blk.free 0
  clear ho hg hat hw2 hlt hbw hbf hbr hap hat2 hk2 hsz c0
  go_wp2_with fail
  go_end0
  exact FIN.out
end Go.Proofs.Ytjlmkcamefaodaa

/-! A walk through a graph, as a plain function. -/

namespace Go.Proofs.Ytjlmkcamefaodaa.Fl

/-- A walk's state. -/
structure Ws where
  ent : List Nat
  left : List Nat
  frm : List Int
  rch : List Bool
  nxt : List Nat
  cur : Int

def row (G : List (List Nat)) (i : Nat) : List Nat := G.getD i []
/-- One round: a node is left, or a way of it is gone. -/
def step (G : List (List Nat)) (s : Ws) : Ws :=
  let a := s.cur.toNat
  if s.nxt.getD a 0 = (row G a).length then { s with left := s.left ++ [a], cur := s.frm.getD a (-1) }
  else
    let tt := (row G a).getD (s.nxt.getD a 0) 0
    let nx := s.nxt.set a (s.nxt.getD a 0 + 1)
    if s.rch.getD tt false then { s with nxt := nx }
    else { ent := s.ent ++ [tt], left := s.left, frm := s.frm.set tt (a : Int), rch := s.rch.set tt true, nxt := nx, cur := (tt : Int) }
def go (G : List (List Nat)) : Nat → Ws → Option Ws
  | 0, _ => none
  | k + 1, s => if s.cur < 0 then some s else go G k (step G s)
def start (G : List (List Nat)) : Ws :=
  ⟨[0], [], (List.replicate G.length 0).set 0 (-1), (List.replicate G.length false).set 0 true, List.replicate G.length 0, 0⟩
def walkF (G : List (List Nat)) (k : Nat) : Option Ws := go G k (start G)

/-- No way leads where there is no node. -/
def GOk (G : List (List Nat)) : Prop := ∀ i, ∀ x ∈ row G i, x < G.length

structure WsOk (G : List (List Nat)) (s : Ws) : Prop where
  fl : s.frm.length = G.length
  rl : s.rch.length = G.length
  nl : s.nxt.length = G.length
  lo : -1 ≤ s.cur
  hi : s.cur < (G.length : Int)
  nx : ∀ i, s.nxt.getD i 0 ≤ (row G i).length
  fr : ∀ x ∈ s.frm, -1 ≤ x ∧ x < (G.length : Int)

theorem start_ok {G : List (List Nat)} (h : 0 < G.length) : WsOk G (start G) := by
  refine ⟨by simp [start], by simp [start], by simp [start], by simp [start], by simp [start]; omega, fun i => ?_, fun x hx => ?_⟩
  · show (List.replicate G.length 0).getD i 0 ≤ _
    rw [List.getD_eq_getElem?_getD, List.getElem?_replicate]
    split <;> simp
  · have hx' : x ∈ (List.replicate G.length (0 : Int)).set 0 (-1) := hx
    rcases List.mem_or_eq_of_mem_set hx' with h1 | h1
    · have := List.eq_of_mem_replicate h1; omega
    · omega

theorem row_getD {G : List (List Nat)} (hG : GOk G) {i j : Nat} (h : j < (row G i).length) : (row G i).getD j 0 < G.length := by
  rw [List.getD_eq_getElem?_getD, List.getElem?_eq_getElem h]
  exact hG i _ (List.getElem_mem h)

theorem step_ok {G : List (List Nat)} (hG : GOk G) {s : Ws} (h : WsOk G s) (hc : 0 ≤ s.cur) : WsOk G (step G s) := by
  have ha : s.cur.toNat < G.length := by have := h.hi; omega
  unfold step
  by_cases h1 : s.nxt.getD s.cur.toNat 0 = (row G s.cur.toNat).length
  · rw [if_pos h1]
    have hm : s.frm.getD s.cur.toNat (-1) ∈ s.frm := by
      rw [List.getD_eq_getElem?_getD, List.getElem?_eq_getElem (by rw [h.fl]; exact ha)]
      exact List.getElem_mem _
    have := h.fr _ hm
    exact ⟨h.fl, h.rl, h.nl, this.1, this.2, h.nx, h.fr⟩
  · rw [if_neg h1]
    have hlt : s.nxt.getD s.cur.toNat 0 < (row G s.cur.toNat).length := by have := h.nx s.cur.toNat; omega
    have hto := row_getD hG hlt
    have hnx : ∀ i, (s.nxt.set s.cur.toNat (s.nxt.getD s.cur.toNat 0 + 1)).getD i 0 ≤ (row G i).length := by
      intro i
      rw [List.getD_eq_getElem?_getD, List.getElem?_set]
      by_cases hi : s.cur.toNat = i
      · subst hi
        rw [if_pos rfl]
        split
        · exact hlt
        · exact Nat.zero_le _
      · rw [if_neg hi, ← List.getD_eq_getElem?_getD]
        exact h.nx i
    simp only
    split
    · exact ⟨h.fl, h.rl, by rw [List.length_set]; exact h.nl, h.lo, h.hi, hnx, h.fr⟩
    · refine ⟨by rw [List.length_set]; exact h.fl, by rw [List.length_set]; exact h.rl, by rw [List.length_set]; exact h.nl, ?_, ?_, hnx, fun x hx => ?_⟩
      · exact Int.le_trans (by decide) (Int.natCast_nonneg _)
      · exact Int.ofNat_lt.2 hto
      · rcases List.mem_or_eq_of_mem_set hx with h2 | h2
        · exact h.fr x h2
        · rw [h2]
          exact ⟨Int.le_trans (by decide) (Int.natCast_nonneg _), Int.ofNat_lt.2 ha⟩

theorem step_last {G : List (List Nat)} {s : Ws} {a : Nat} (ha : s.cur = (a : Int)) (h : s.nxt.getD a 0 = (row G a).length) : step G s = { s with left := s.left ++ [a], cur := s.frm.getD a (-1) } := by
  have e : s.cur.toNat = a := by omega
  unfold step
  simp only [e]
  rw [if_pos h]
theorem step_old {G : List (List Nat)} {s : Ws} {a t : Nat} (ha : s.cur = (a : Int)) (h : s.nxt.getD a 0 ≠ (row G a).length) (ht : (row G a).getD (s.nxt.getD a 0) 0 = t) (hr : s.rch.getD t false = true) : step G s = { s with nxt := s.nxt.set a (s.nxt.getD a 0 + 1) } := by
  have e : s.cur.toNat = a := by omega
  unfold step
  simp only [e]
  rw [if_neg h, ht, if_pos hr]
theorem step_new {G : List (List Nat)} {s : Ws} {a t : Nat} (ha : s.cur = (a : Int)) (h : s.nxt.getD a 0 ≠ (row G a).length) (ht : (row G a).getD (s.nxt.getD a 0) 0 = t) (hr : s.rch.getD t false = false) :
    step G s = { ent := s.ent ++ [t], left := s.left, frm := s.frm.set t (a : Int), rch := s.rch.set t true, nxt := s.nxt.set a (s.nxt.getD a 0 + 1), cur := (t : Int) } := by
  have e : s.cur.toNat = a := by omega
  unfold step
  simp only [e]
  rw [if_neg h, ht, if_neg (by rw [hr]; decide)]
theorem go_step {G : List (List Nat)} {s : Ws} {k : Nat} (h : 0 ≤ s.cur) : go G (k + 1) s = go G k (step G s) := by
  show (if s.cur < 0 then some s else go G k (step G s)) = _
  rw [if_neg (by omega)]
theorem go_end {G : List (List Nat)} {s : Ws} {k : Nat} (h : s.cur < 0) : go G (k + 1) s = some s := by
  show (if s.cur < 0 then some s else go G k (step G s)) = _
  rw [if_pos h]
end Go.Proofs.Ytjlmkcamefaodaa.Fl
