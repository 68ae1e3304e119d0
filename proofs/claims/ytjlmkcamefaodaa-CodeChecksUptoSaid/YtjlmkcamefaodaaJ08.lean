/-
  Joined: FOne, FOne2, FOrd.
-/
import Derived.Test.YtjlmkcamefaodaaJ01
import Derived.Maps.AppendAt
import Derived.Deep.CutRange
import Derived.WalkSpells
import Derived.Test.YtjlmkcamefaodaaJ07
import Derived.Laws.OwnMore
/-! FOne: Graphs of one node that goes on nowhere: no fault; a walk through it. -/

namespace Go.Proofs.Ytjlmkcamefaodaa
open Go Go.RowKit

/-- The graph of one node that goes on nowhere. -/
abbrev oneV (bg : Nat) : Value := .slice (some ⟨bg, 0, none⟩) 1 1
def One (bg : Nat) (w : World) : Prop := Blk bg #[.slice none 0 0] 41 w

set_option maxRecDepth 100000 in
theorem fault_one (bg : Nat) (w : World) (h : One bg w) : Calls Try.prog 52 #[oneV bg] w fun e w' => e = .returned (I 0) ∧ w = w' := by
  have c0 := Blk.get h 0 (.slice none 0 0) rfl
  go_enter Try.func52, Try.ntmps52
  go_wp2_with fail
  refine wp_loop_rounds 2 ?_
  rw [rounds_succ]
  go_wp2_with fail
  refine wp_loop_rounds 1 ?_
  rw [rounds_succ]
  go_wp2_with fail
  rw [rounds_succ]
  go_wp2_with fail
  go_ret
  exact ⟨rfl, rfl⟩

theorem mkI1 (w : World) : (Instr.makeSlice 41 (I 1) (I 1)).run Try.prog w = .ok (.slice (some ⟨w.heap.size, 0, none⟩) 1 1) (w.alloc (.cells #[I 0] 3)) := by kernel_rfl
theorem mkB1 (w : World) : (Instr.makeSlice 69 (I 1) (I 1)).run Try.prog w = .ok (.slice (some ⟨w.heap.size, 0, none⟩) 1 1) (w.alloc (.cells #[.bool false] 4)) := by kernel_rfl
theorem mkS1 (w : World) : (Instr.makeSlice 62 (I 1) (I 1)).run Try.prog w = .ok (.slice (some ⟨w.heap.size, 0, none⟩) 1 1) (w.alloc (.cells #[.slice none 0 0] 41)) := by kernel_rfl

/-- A walk of a graph of one node, in memory: its lists so far, from where it came, whether it was there. -/
structure WalkA (w : World) (bw bf br : Nat) (v0 v1 : Value) (f : Int) (r : Bool) (W : World) : Prop where
  blk : Blk bw #[v0, v1, .slice (some ⟨bf, 0, none⟩) 1 1, .slice (some ⟨br, 0, none⟩) 1 1] 103 W
  frm : Blk bf #[I f] 3 W
  rch : Blk br #[.bool r] 4 W
  bel : Below w.heap.size w W
  lw : w.heap.size ≤ bw
  lf : w.heap.size ≤ bf
  lr : w.heap.size ≤ br
  nf : bw ≠ bf
  nr : bw ≠ br
  fr : bf ≠ br

theorem WalkA.enter {w : World} {bw bf br : Nat} {W : World} (h : WalkA w bw bf br (.slice none 0 0) (.slice none 0 0) 0 false W) :
    WalkA w bw bf br (.slice none 0 0) (.slice none 0 0) (-1) true ((W.setCell ⟨br, 0, none⟩ (.bool true)).setCell ⟨bf, 0, none⟩ (I (-1))).drew :=
  ⟨(h.blk.setOther h.nr _ _).setOther h.nf _ _, (h.frm.setOther h.fr _ _).set 0 _, (h.rch.set 0 _).setOther (Ne.symm h.fr) _ _,
    ((h.bel.setCell (p := ⟨br, 0, none⟩) h.lr _).setCell (p := ⟨bf, 0, none⟩) h.lf _).drew, h.lw, h.lf, h.lr, h.nf, h.nr, h.fr⟩
section
variable {w : World} {bw bf br : Nat} {v0 v1 : Value} {f : Int} {r : Bool} {W W' : World}
theorem WalkA.grown {row : Option Nat} (h : WalkA w bw bf br v0 v1 f r W) (hg : W.grownBy W' row) (h1 : some bw ≠ row) (h2 : some bf ≠ row) (h3 : some br ≠ row) (h4 : ∀ k, row = some k → w.heap.size ≤ k) : WalkA w bw bf br v0 v1 f r W' :=
  ⟨h.blk.other hg h1, h.frm.other hg h2, h.rch.other hg h3, h.bel.grown hg h.bel.size h4, h.lw, h.lf, h.lr, h.nf, h.nr, h.fr⟩
theorem WalkA.drewN (h : WalkA w bw bf br v0 v1 f r W) (n : Nat) : WalkA w bw bf br v0 v1 f r (W.drewN n) :=
  ⟨h.blk, h.frm, h.rch, below_drewN h.bel n, h.lw, h.lf, h.lr, h.nf, h.nr, h.fr⟩
theorem WalkA.alloc (h : WalkA w bw bf br v0 v1 f r W) (o : Obj) : WalkA w bw bf br v0 v1 f r (W.alloc o) :=
  ⟨h.blk.alloc o, h.frm.alloc o, h.rch.alloc o, h.bel.alloc h.bel.size _, h.lw, h.lf, h.lr, h.nf, h.nr, h.fr⟩
theorem WalkA.set0 (h : WalkA w bw bf br v0 v1 f r W) (u : Value) : WalkA w bw bf br u v1 f r (W.setCell ⟨bw, 0, none⟩ u) :=
  ⟨h.blk.set 0 u, h.frm.setOther (Ne.symm h.nf) _ _, h.rch.setOther (Ne.symm h.nr) _ _, h.bel.setCell (p := ⟨bw, 0, none⟩) h.lw _, h.lw, h.lf, h.lr, h.nf, h.nr, h.fr⟩
theorem WalkA.set1 (h : WalkA w bw bf br v0 v1 f r W) (u : Value) : WalkA w bw bf br v0 u f r (W.setCell ⟨bw, 1, none⟩ u) :=
  ⟨h.blk.set 1 u, h.frm.setOther (Ne.symm h.nf) _ _, h.rch.setOther (Ne.symm h.nr) _ _, h.bel.setCell (p := ⟨bw, 1, none⟩) h.lw _, h.lw, h.lf, h.lr, h.nf, h.nr, h.fr⟩
end

theorem info_int : (Try.prog.info? 3).map (fun i => (i.zero, i.size, i.bytes)) = some (some (I 0), 1, 8) := by kernel_rfl

/-- What entering a node leaves. -/
def Entered (w : World) (bw bf br : Nat) (W W' : World) (e : Ending) : Prop := e = .returned (.tuple #[]) ∧ ∃ v0, WalkA w bw bf br v0 (.slice none 0 0) (-1) true W' ∧ Nums W' W.heap.size v0 [0] ∧
  (∀ k, k < W.heap.size → k ≠ bw → k ≠ bf → k ≠ br → W'.heap[k]? = W.heap[k]?) ∧ W.heap.size ≤ W'.heap.size

set_option maxRecDepth 100000 in
set_option maxHeartbeats 800000 in
theorem enter_one (w : World) (bw bf br : Nat) (W : World) (h : WalkA w bw bf br (.slice none 0 0) (.slice none 0 0) 0 false W) :
    Calls Try.prog 61 #[.pointer (some ⟨bw, 0, none⟩), I 0, I (-1)] W fun e w' => Entered w bw bf br W w' e := by
  obtain ⟨i0, hi, hz0, hz1, hz2⟩ := info_parts info_int
  have H := Lib.hid h
  have c0 := h.blk.get 0 (.slice none 0 0) rfl
  have c2 := h.blk.get 2 (.slice (some ⟨bf, 0, none⟩) 1 1) rfl
  have c3 := h.blk.get 3 (.slice (some ⟨br, 0, none⟩) 1 1) rfl
  have d0 := h.frm.get 0 (I 0) rfl
  have d1 := h.rch.get 0 (.bool false) rfl
  have f0 := h.blk.free 0
  have f1 := h.frm.free 0
  have f2 := h.rch.free 0
  have n1 := h.nf
  have n2 := h.nr
  have n3 := h.fr
  clear h
  go_enter Try.func61, Try.ntmps61
  go_wp2_with fail
  go_region
  go_upto_region 1 with (fail)
  obtain ⟨W1, hW1⟩ : ∃ W1, W1 = ((W.setCell ⟨br, 0, none⟩ (.bool true)).setCell ⟨bf, 0, none⟩ (I (-1))).drew := ⟨_, rfl⟩
  have h1 : WalkA w bw bf br (.slice none 0 0) (.slice none 0 0) (-1) true W1 := by rw [hW1]; exact H.out.enter
  have hs1 : W1.heap.size = W.heap.size := by rw [hW1]; simp
  have hk1 : ∀ k, k < W.heap.size → k ≠ bw → k ≠ bf → k ≠ br → W1.heap[k]? = W.heap[k]? := by
    intro k _ _ hf hr
    rw [hW1]
    exact (Below.heap_setCell _ _ _ _ hf).trans (Below.heap_setCell _ _ _ _ hr)
  rw [← hW1]
  have HW1 := Lib.hid hW1
  have H1 := Lib.hid (And.intro h1 (And.intro hs1 hk1))
  have HI := Lib.hid (And.intro hi (And.intro hz0 (And.intro hz1 hz2)))
  have c0 := h1.blk.get 0 (.slice none 0 0) rfl
  clear c2 c3 d0 d1 f0 f1 f2 hs1 hk1 hW1 h1 hi hz0 hz1 hz2
  go_wp2_with (at_builtin; refine Hid.out ?_)
  unfold Hid
  refine wpList_append_own_at _ rfl _ _ 41 rfl W.heap.size 3 i0 (I 0) 1 8 Try.underlying41 HI.out.1 HI.out.2.1 HI.out.2.2.1 HI.out.2.2.2 rfl (by decide) (.slice none 0 0) 0 [] rfl (World.ownsRow_nil _ _ _ _) ⟨W1.heap.size, 0, none⟩ 1 1 [I 0] rfl rfl (cell_one_new _ _ _) (by simp [Value.oneCell']) (by unfold maxLen; omega) (by omega) (by rw [← H1.out.2.1]; simp) ?_
  intro v' w2 ho hg _ hat
  have hw2 : WalkA w bw bf br (.slice none 0 0) (.slice none 0 0) (-1) true w2 := (H1.out.1.alloc _).grown hg (by simp [Value.ownBlock]) (by simp [Value.ownBlock]) (by simp [Value.ownBlock]) (by simp [Value.ownBlock])
  obtain ⟨g, cap, rfl⟩ : ∃ g cap, v' = .slice (some ⟨g, 0, none⟩) 1 cap := by
    rcases own_slice ho with ⟨_, h⟩ | ⟨g, cap, h⟩
    · exact absurd h (by decide)
    · exact ⟨g, cap, h⟩
  have hlt := ho.lt g rfl
  have hbw : bw < W.heap.size := by rw [← H1.out.2.1]; exact H1.out.1.blk.lt
  have hbf : bf < W.heap.size := by rw [← H1.out.2.1]; exact H1.out.1.frm.lt
  have hbr : br < W.heap.size := by rw [← H1.out.2.1]; exact H1.out.1.rch.lt
  have hk2 : ∀ k, k < W.heap.size → w2.heap[k]? = W1.heap[k]? := by
    intro k hk
    have e1 := H1.out.2.1
    rw [hg.block k (by simp; omega) (by simp [Value.ownBlock])]
    exact heap_alloc_old W1 _ (by omega)
  have hsz : W.heap.size ≤ w2.heap.size := by have := hg.size; have e1 := H1.out.2.1; simp at this; omega
  have FIN := Lib.hid (show Entered w bw bf br W (w2.setCell ⟨bw, 0, none⟩ (.slice (some ⟨g, 0, none⟩) 1 cap)) (.returned (.tuple #[])) from
    ⟨rfl, _, hw2.set0 _, own_set ho (by simp [Value.ownBlock]; omega), fun k h0 h1 h2 h3 => (Below.heap_setCell _ _ _ _ h1).trans ((hk2 k h0).trans (H1.out.2.2 k h0 h1 h2 h3)), by simpa [World.setCell] using hsz⟩)
  have c0' := hw2.blk.get 0 (.slice none 0 0) rfl
  have f0 := hw2.blk.free 0
  clear ho hg hat hw2 hlt hbw hbf hbr hk2 hsz c0
  go_wp2_with fail
  go_end0
  exact FIN.out

/-- What a walk of one node leaves. -/
def Walked (w W : World) (e : Ending) : Prop := ∃ bw bf br v0 v1, e = .returned (.pointer (some ⟨bw, 0, none⟩)) ∧ WalkA w bw bf br v0 v1 (-1) true W ∧ Nums W w.heap.size v0 [0] ∧ Nums W w.heap.size v1 [0]

set_option maxRecDepth 100000 in
set_option maxHeartbeats 800000 in
theorem newWalk_one (bg : Nat) (w : World) (h : One bg w) : Calls Try.prog 53 #[oneV bg] w fun e w' => Walked w w' e := by
  obtain ⟨i0, hi, hz0, hz1, hz2⟩ := info_parts info_int
  have HI := Lib.hid (And.intro hi (And.intro hz0 (And.intro hz1 hz2)))
  have hmk := fun w => mkI1 w
  have hmb := fun w => mkB1 w
  have HH := Lib.hid h
  clear h hi hz0 hz1 hz2
  go_enter Try.func53, Try.ntmps53
  go_upto_region 1 with (fail)
  go_cut [3] from 7 to 14 (fun p W => ∃ bw bf br, p = .pointer (some ⟨bw, 0, none⟩) ∧ WalkA w bw bf br (.slice none 0 0) (.slice none 0 0) 0 false W)
  case first =>
    have HA := Lib.hid (show WalkA w (w.heap.size + 2) w.heap.size (w.heap.size + 1) (.slice none 0 0) (.slice none 0 0) 0 false ((((w.alloc (.cells #[I 0] 3)).alloc (.cells #[.bool false] 4)).alloc (.cells #[.slice none 0 0, .slice none 0 0, .slice (some ⟨w.heap.size, 0, none⟩) 1 1, .slice (some ⟨w.heap.size + 1, 0, none⟩) 1 1] 103))).drew from
      ⟨Blk.new' _ _ _ (by simp), ((Blk.new _ _ _).alloc _).alloc _, (Blk.new' _ _ _ (by simp)).alloc _, ((((Below.refl _ _).alloc (Nat.le_refl _) _).alloc (by simp) _).alloc (by simp; omega) _).drew, by omega, by omega, by omega, by omega, by omega, by omega⟩)
    have HB := Lib.hid (show WalkA w (w.heap.size + 2) (w.heap.size + 1) w.heap.size (.slice none 0 0) (.slice none 0 0) 0 false ((((w.alloc (.cells #[.bool false] 4)).alloc (.cells #[I 0] 3)).alloc (.cells #[.slice none 0 0, .slice none 0 0, .slice (some ⟨w.heap.size + 1, 0, none⟩) 1 1, .slice (some ⟨w.heap.size, 0, none⟩) 1 1] 103))).drew from
      ⟨Blk.new' _ _ _ (by simp), (Blk.new' _ _ _ (by simp)).alloc _, ((Blk.new _ _ _).alloc _).alloc _, ((((Below.refl _ _).alloc (Nat.le_refl _) _).alloc (by simp) _).alloc (by simp; omega) _).drew, by omega, by omega, by omega, by omega, by omega, by omega⟩)
    go_region
    all_goals (go_wp2_with fail; go_meet; case rel => first | exact ⟨_, _, _, rfl, HA.out⟩ | exact ⟨_, _, _, rfl, HB.out⟩)
  case rest =>
    obtain ⟨bw, bf, br, rfl, hW⟩ := hcut
    obtain ⟨W, rfl⟩ : ∃ W, W = wc := ⟨_, rfl⟩
    have HW := Lib.hid hW
    have HWa := Lib.hid (hW.alloc (.cells #[I 0] 3))
    have HN := Lib.hid (Blk.new W #[I 0] 3)
    have HG := Lib.hid ((HH.out.below hW.bel HH.out.lt).alloc (.cells #[I 0] 3))
    obtain ⟨bn, hbn⟩ : ∃ bn, bn = W.heap.size := ⟨_, rfl⟩
    obtain ⟨W1, hW1⟩ : ∃ W1, W1 = W.alloc (.cells #[I 0] 3) := ⟨_, rfl⟩
    rw [← hbn, ← hW1] at HN
    rw [← hW1] at HWa HG
    have HBN := Lib.hid (show bn ≠ bw ∧ bn ≠ bf ∧ bn ≠ br by have := hW.blk.lt; have := hW.frm.lt; have := hW.rch.lt; omega)
    have HE := Lib.hid (And.intro hbn hW1)
    clear hW hbn hW1
    go_upto_region 5 with (fail)
    rw [← HE.out.1]
    change Code.wp _ _ _ _ (W.alloc (.cells #[I 0] 3))
    rw [← HE.out.2]
    go_wp2_with (fail)
    refine (enter_one w bw bf br W1 HWa.out).mono ?_
    rintro e W2 ⟨rfl, v0, h2, ho2, hk2, hs2⟩
    have hn2 : Blk bn #[I 0] 3 W2 := (hk2 bn HN.out.lt HBN.out.1 HBN.out.2.1 HBN.out.2.2).trans HN.out
    have hg2 : One bg W2 := HH.out.below h2.bel HH.out.lt
    have cn := hn2.get 0 (I 0) rfl
    have cg := Blk.get hg2 0 (.slice none 0 0) rfl
    have H2 := Lib.hid (And.intro h2 (And.intro ho2 (And.intro hk2 (And.intro hn2 hg2))))
    clear h2 ho2 hk2 hs2 hn2 hg2
    go_wp2_with (fail)
    refine wp_loop_rounds 2 ?_
    rw [rounds_succ]
    go_wp2_with (fail)
    go_quiet (fail)
    go_upto_region 9 with (fail)
    obtain ⟨W3, hW3⟩ : ∃ W3, W3 = W2.drewN nq := ⟨_, rfl⟩
    have h3 : WalkA w bw bf br v0 (.slice none 0 0) (-1) true W3 := by rw [hW3]; exact H2.out.1.drewN nq
    have ho3 : Nums W3 w.heap.size v0 [0] := by rw [hW3]; exact own_lower HWa.out.bel.size (show W2.ownsRow _ _ _ _ _ _ from H2.out.2.1)
    have hv0 : ∃ g, v0.ownBlock = some g ∧ g ≠ bw ∧ W1.heap.size ≤ g := by
      have hh := H2.out.2.1
      rcases own_slice hh with ⟨_, h⟩ | ⟨g, cap, rfl⟩
      · exact absurd h (by decide)
      · have := (hh.lt g rfl).1
        have := HWa.out.blk.lt
        exact ⟨g, rfl, by omega, by omega⟩
    rw [← hW3]
    have c1 := h3.blk.get 1 (.slice none 0 0) rfl
    have H3 := Lib.hid (And.intro h3 (And.intro ho3 hv0))
    have HW3 := Lib.hid hW3
    clear h3 ho3 hv0 hW3 cn cg
    go_wp2_with (at_builtin; refine Hid.out ?_)
    unfold Hid
    refine wpList_append_own_at _ rfl _ _ 41 rfl w.heap.size 3 i0 (I 0) 1 8 Try.underlying41 HI.out.1 HI.out.2.1 HI.out.2.2.1 HI.out.2.2.2 rfl (by decide) (.slice none 0 0) 0 [] rfl (World.ownsRow_nil _ _ _ _) ⟨W3.heap.size, 0, none⟩ 1 1 [I 0] rfl rfl (cell_one_new _ _ _) (by simp [Value.oneCell']) (by unfold maxLen; omega) (by omega) (by have := H3.out.1.bel.size; simp; omega) ?_
    intro v' w4 ho hg _ hat
    have hw4 : WalkA w bw bf br v0 (.slice none 0 0) (-1) true w4 := (H3.out.1.alloc _).grown hg (by simp [Value.ownBlock]) (by simp [Value.ownBlock]) (by simp [Value.ownBlock]) (by simp [Value.ownBlock])
    obtain ⟨g, cap, rfl⟩ : ∃ g cap, v' = .slice (some ⟨g, 0, none⟩) 1 cap := by
      rcases own_slice ho with ⟨_, h⟩ | ⟨g, cap, h⟩
      · exact absurd h (by decide)
      · exact ⟨g, cap, h⟩
    have hgb : g = W3.heap.size + 1 ∨ W3.heap.size ≤ g := by
      rcases hat with h | h
      · simp [Value.ownBlock] at h
      · simp [Value.ownBlock] at h
        omega
    have hv4 : Nums w4 w.heap.size v0 [0] := (H3.out.2.1.alloc _).kept hg (Or.inr (by obtain ⟨g, e, _⟩ := H3.out.2.2; rw [e]; simp [Value.ownBlock]))
    have FIN := Lib.hid (show Walked w (w4.setCell ⟨bw, 1, none⟩ (.slice (some ⟨g, 0, none⟩) 1 cap)) (.returned (.pointer (some ⟨bw, 0, none⟩))) from
      ⟨bw, bf, br, v0, _, rfl, hw4.set1 _, own_set hv4 (by obtain ⟨g, e, h, _⟩ := H3.out.2.2; rw [e]; simp; exact Ne.symm h), own_set ho (by have := H3.out.1.blk.lt; simp [Value.ownBlock]; omega)⟩)
    have c1' := hw4.blk.get 1 (.slice none 0 0) rfl
    have f1 := hw4.blk.free 1
    have c2 := hw4.blk.get 2 (.slice (some ⟨bf, 0, none⟩) 1 1) rfl
    have d0 := hw4.frm.get 0 (I (-1)) rfl
    have n1 := hw4.nf
    clear ho hg hat hw4 hgb hv4 c1
    go_wp2_with (fail)
    rw [rounds_succ]
    go_wp2_with (fail)
    go_ret
    exact FIN.out
end Go.Proofs.Ytjlmkcamefaodaa

/-! FOne2: Graphs of one node that goes on nowhere: their order, and who goes on to whom. -/

namespace Go.Proofs.Ytjlmkcamefaodaa
open Go Go.RowKit

theorem ints_one (l : List Nat) : ∀ u ∈ ints l, u.oneCell' = true := by
  intro u hu
  obtain ⟨n, _, rfl⟩ := List.mem_map.1 hu
  rfl

set_option maxRecDepth 100000 in
set_option maxHeartbeats 800000 in
theorem clone_any (base g cap : Nat) (l : List Nat) (hl : l.length ≤ 100000) (W : World) (h : Nums W base (.slice (some ⟨g, 0, none⟩) l.length cap) l) :
    Calls Try.prog 62 #[.slice (some ⟨g, 0, none⟩) l.length cap] W fun e W' => ∃ v, e = .returned v ∧ Nums W' W.heap.size v l ∧ Below W.heap.size W W' := by
  obtain ⟨i0, hi, hz0, hz1, hz2⟩ := info_parts info_int
  have HI := Lib.hid (And.intro hi (And.intro hz0 (And.intro hz1 hz2)))
  have H := Lib.hid h
  have HL := Lib.hid (And.intro (show 0 + l.length ≤ maxLen by unfold maxLen; omega) (show (0 + l.length) * 8 ≤ 140737488355328 by omega))
  have hnil := Lib.run_eql_slice_nil (P := Try.prog) W 41 3 (some ⟨g, 0, none⟩) l.length cap 0 0 Try.underlying41
  clear h hi hz0 hz1 hz2 hl
  go_enter Try.func62, Try.ntmps62
  go_wp2_with (at_builtin; refine Hid.out ?_)
  unfold Hid
  refine wpList_append_own_at _ rfl _ _ 41 rfl W.heap.size 3 i0 (I 0) 1 8 Try.underlying41 HI.out.1 HI.out.2.1 HI.out.2.2.1 HI.out.2.2.2 rfl (by decide) (.slice (some ⟨W.heap.size, 0, none⟩) 0 0) 0 [] rfl (World.ownsRow_made W #[] 0 (Nat.le_refl _) (by unfold maxLen; omega) rfl) ⟨g, 0, none⟩ l.length cap (ints l) rfl (by simp) ((H.out.alloc _).cells (g := g) rfl) (ints_one l) HL.out.1 HL.out.2 (by simp) ?_
  intro v w2 ho hg _ _
  have hb : Below W.heap.size W w2 := ((Below.refl _ _).alloc (Nat.le_refl _) _).grown hg (by simp) (by intro k hk; simp [Value.ownBlock] at hk; omega)
  have FIN := Lib.hid (And.intro (show Nums w2 W.heap.size v l by have := ho; rw [Nat.zero_add] at this; simpa using this) hb)
  clear ho hg hb
  go_wp2_with fail
  go_ret
  exact ⟨_, rfl, FIN.out⟩

set_option maxRecDepth 100000 in
set_option maxHeartbeats 800000 in
theorem reverse_one (g cap : Nat) (W : World) : Calls Try.prog 63 #[.slice (some ⟨g, 0, none⟩) 1 cap] W fun e w' => e = .returned (.tuple #[]) ∧ W = w' := by
  go_enter Try.func63, Try.ntmps63
  go_wp2_with (fail)
  refine wp_loop_rounds 1 ?_
  rw [rounds_succ]
  go_wp2_with (fail)
  go_end0
  exact ⟨rfl, rfl⟩

/-- What is answered: a list of numbers in new memory, and no error. -/
def Told (w w' : World) (l : List Nat) (e : Ending) : Prop := ∃ v, e = .returned v ∧ Nums w' w.heap.size v l ∧ Below w.heap.size w w'
def Told2 (w w' : World) (l : List Nat) (e : Ending) : Prop := ∃ v, e = .returned (.tuple #[v, I 0]) ∧ Nums w' w.heap.size v l ∧ Below w.heap.size w w'

set_option maxRecDepth 100000 in
set_option maxHeartbeats 800000 in
theorem order_one (bw : Nat) (v0 v2 v3 : Value) (base g cap : Nat) (W : World) (h : Blk bw #[v0, .slice (some ⟨g, 0, none⟩) 1 cap, v2, v3] 103 W) (hn : Nums W base (.slice (some ⟨g, 0, none⟩) 1 cap) [0]) :
    Calls Try.prog 54 #[.pointer (some ⟨bw, 0, none⟩)] W fun e w' => Told W w' [0] e := by
  have c1 := h.get 1 (.slice (some ⟨g, 0, none⟩) 1 cap) rfl
  have HN := Lib.hid (clone_any base g cap [0] (by decide) W hn)
  clear hn h
  go_enter Try.func54, Try.ntmps54
  go_wp2_with fail
  refine HN.out.mono ?_
  rintro e w1 ⟨v, rfl, ho, hb⟩
  obtain ⟨g1, cap1, rfl⟩ : ∃ g cap, v = .slice (some ⟨g, 0, none⟩) 1 cap := by
    rcases own_slice ho with ⟨_, h⟩ | ⟨g, cap, h⟩
    · exact absurd h (by decide)
    · exact ⟨g, cap, h⟩
  have FIN := Lib.hid (And.intro ho hb)
  clear ho hb
  go_wp2_with fail
  refine (reverse_one g1 cap1 w1).mono ?_
  rintro e w1' ⟨rfl, rfl⟩
  go_wp2_with fail
  go_ret
  exact ⟨_, rfl, FIN.out⟩

set_option maxRecDepth 100000 in
set_option maxHeartbeats 800000 in
theorem Order_one (bg : Nat) (w : World) (h : One bg w) : Calls Try.prog 43 #[oneV bg] w fun e w' => Told2 w w' [0] e := by
  have H := Lib.hid h
  clear h
  go_enter Try.func43, Try.ntmps43
  go_wp2_with fail
  refine (fault_one bg w H.out).mono ?_
  rintro e w' ⟨rfl, rfl⟩
  go_wp2_with fail
  refine (newWalk_one bg w H.out).mono ?_
  rintro e w1 ⟨bw, bf, br, v0, v1, rfl, h1, _, h3⟩
  obtain ⟨g1, cap1, rfl⟩ : ∃ g cap, v1 = .slice (some ⟨g, 0, none⟩) 1 cap := by
    rcases own_slice h3 with ⟨_, h⟩ | ⟨g, cap, h⟩
    · exact absurd h (by decide)
    · exact ⟨g, cap, h⟩
  have H1 := Lib.hid (And.intro h1 h3)
  clear h1 h3
  go_wp2_with fail
  refine (order_one bw _ _ _ _ g1 cap1 w1 H1.out.1.blk H1.out.2).mono ?_
  rintro e w2 ⟨v, rfl, ho, hb⟩
  have FIN := Lib.hid (And.intro (own_lower H1.out.1.bel.size ho) (H1.out.1.bel.trans (hb.mono H1.out.1.bel.size)))
  clear ho hb
  go_wp2_with fail
  go_ret2
  exact ⟨_, rfl, FIN.out⟩
end Go.Proofs.Ytjlmkcamefaodaa

/-! FOrd: A list turned round; the order of any graph. -/

namespace Go.Proofs.Ytjlmkcamefaodaa
open Go Go.RowKit Fl

namespace Fl
def RevAt (l m : List Nat) (i : Nat) : Prop := m.length = l.length ∧ ∀ q, q < l.length → m.getD q 0 = if q < i ∨ l.length - 1 - q < i then l.getD (l.length - 1 - q) 0 else l.getD q 0
theorem rev_start (l : List Nat) : RevAt l l 0 := ⟨rfl, fun q _ => by rw [if_neg (by omega)]⟩
theorem getD_set (m : List Nat) (j x q : Nat) (hj : j < m.length) : (m.set j x).getD q 0 = if q = j then x else m.getD q 0 := by
  rw [List.getD_eq_getElem?_getD, List.getElem?_set]
  by_cases h : j = q
  · subst h; rw [if_pos rfl, if_pos hj, if_pos rfl]; rfl
  · rw [if_neg h, if_neg (fun e => h e.symm), List.getD_eq_getElem?_getD]
theorem rev_step {l m : List Nat} {i : Nat} (h : RevAt l m i) (hi : i < l.length - 1 - i) : RevAt l ((m.set i (m.getD (l.length - 1 - i) 0)).set (l.length - 1 - i) (m.getD i 0)) (i + 1) := by
  obtain ⟨h1, h2⟩ := h
  refine ⟨by simp [h1], fun q hq => ?_⟩
  rw [getD_set _ _ _ _ (by simp [h1]; omega), getD_set _ _ _ _ (by omega)]
  by_cases e1 : q = l.length - 1 - i
  · rw [if_pos e1, h2 i (by omega), if_neg (by omega), if_pos (by omega)]
    congr 1
    omega
  · rw [if_neg e1]
    by_cases e2 : q = i
    · rw [if_pos e2, h2 (l.length - 1 - i) (by omega), if_neg (by omega), if_pos (by omega), e2]
    · rw [if_neg e2, h2 q hq]
      by_cases e3 : q < i ∨ l.length - 1 - q < i
      · rw [if_pos e3, if_pos (by omega)]
      · rw [if_neg e3, if_neg (by omega)]
theorem rev_end {l m : List Nat} {i : Nat} (h : RevAt l m i) (hi : ¬ i < l.length - 1 - i) : m = l.reverse := by
  obtain ⟨h1, h2⟩ := h
  apply List.ext_getElem
  · simp [h1]
  · intro q ha hb
    have hq : q < l.length := by omega
    have h3 := h2 q hq
    rw [getD_of m q 0 ha] at h3
    rw [h3, List.getElem_reverse]
    by_cases e : q < i ∨ l.length - 1 - q < i
    · rw [if_pos e, getD_of l _ 0 (by omega)]
    · rw [if_neg e, getD_of l q 0 hq]
      congr 1
      omega
end Fl

theorem ints_set (l : List Nat) (j x : Nat) : (ints l).set j (I (x : Int)) = ints (l.set j x) := by simp [List.map_set]
theorem nums_get {w : World} {base g cap n : Nat} {l : List Nat} (h : w.ownsRow base 3 1 (.slice (some ⟨g, 0, none⟩) n cap) n (ints l)) (hl : l.length = n) (j : Nat) (hj : j < n) : w.cell? ⟨g, j, none⟩ = some (I ((l.getD j 0 : Nat) : Int)) := by
  rw [h.cellAt j (by omega), List.getElem?_map, List.getElem?_eq_getElem (by omega), getD_of l j 0 (by omega)]
  rfl

def RevRel (base g cap n : Nat) (l : List Nat) (w0 : World) (iv jv : Value) (wr : World) : Prop :=
  ∃ (i : Nat) (m : List Nat), i ≤ n ∧ iv = I (i : Int) ∧ jv = I ((n : Int) - 1 - (i : Int)) ∧ Fl.RevAt l m i ∧ wr.ownsRow base 3 1 (.slice (some ⟨g, 0, none⟩) n cap) n (ints m) ∧ w0.grownBy wr (some g)

set_option maxRecDepth 100000 in
set_option maxHeartbeats 1600000 in
theorem reverse_any (base g cap : Nat) (l : List Nat) (n : Nat) (hn : n = l.length) (hl : n ≤ 10000000) (W : World) (h : W.ownsRow base 3 1 (.slice (some ⟨g, 0, none⟩) n cap) n (ints l)) :
    Calls Try.prog 63 #[.slice (some ⟨g, 0, none⟩) n cap] W fun e w' => e = .returned (.tuple #[]) ∧ w'.ownsRow base 3 1 (.slice (some ⟨g, 0, none⟩) n cap) n (ints l.reverse) ∧ W.grownBy w' (some g) := by
  have H := Lib.hid (And.intro h hn)
  clear h hn
  go_enter Try.func63, Try.ntmps63
  go_wp2_with (fail)
  go_loopw [2, 3] (fun iv jv wr => RevRel base g cap n l W iv jv wr) (fun iv _ _ => n - (intOf iv).toNat)
  case atStart => exact ⟨0, l, Nat.zero_le _, rfl, by simp, Fl.rev_start l, H.out.1, ⟨rfl, rfl, rfl, Nat.le_refl _, fun _ _ _ => rfl⟩⟩
  case round =>
    obtain ⟨i, m, hi, rfl, rfl, hrev, ho, hg⟩ := hrel
    have hnl := H.out.2
    have hml : m.length = n := by rw [hnl]; exact hrev.1
    by_cases hlt : i < n - 1 - i
    · have c0 := nums_get ho hml i (by omega)
      have c1 := nums_get ho hml (n - 1 - i) (by omega)
      obtain ⟨j, hj⟩ : ∃ j, j = n - 1 - i := ⟨_, rfl⟩
      have hjI : (n : Int) - 1 - (i : Int) = (j : Int) := by omega
      have hst : W.grownBy ((wr.setCell ⟨g, i, none⟩ (I ((m.getD j 0 : Nat) : Int))).setCell ⟨g, j, none⟩ (I ((m.getD i 0 : Nat) : Int))) (some g) ∧ ((wr.setCell ⟨g, i, none⟩ (I ((m.getD j 0 : Nat) : Int))).setCell ⟨g, j, none⟩ (I ((m.getD i 0 : Nat) : Int))).ownsRow base 3 1 (.slice (some ⟨g, 0, none⟩) n cap) n (ints ((m.set i (m.getD j 0)).set j (m.getD i 0))) := by
        obtain ⟨a1, a2⟩ := ho.stored i (I ((m.getD j 0 : Nat) : Int))
        obtain ⟨a3, a4⟩ := a1.stored j (I ((m.getD i 0 : Nat) : Int))
        rw [ints_set, ints_set] at a3
        exact ⟨grown_trans' hg (grown_trans' a2 a4), a3⟩
      have hrs := Fl.rev_step hrev (by rw [← hnl]; exact hlt)
      rw [← hnl, ← hj] at hrs
      rw [← hj] at c1
      have f0 := ho.frozenAt i
      have f1 := ho.frozenAt j
      have hij : i ≠ j := by omega
      have HN := Lib.hid (And.intro hst hrs)
      obtain ⟨y0, hy0⟩ : ∃ y, y = m.getD i 0 := ⟨_, rfl⟩
      obtain ⟨y1, hy1⟩ : ∃ y, y = m.getD j 0 := ⟨_, rfl⟩
      rw [← hy0] at c0
      rw [← hy1] at c1
      rw [← hy0, ← hy1] at HN
      have d0 : (0 : Int) ≤ (i : Int) := by omega
      have d1 : (i : Int) < (n : Int) := by omega
      have d2 : (0 : Int) ≤ (j : Int) := by omega
      have d3 : (j : Int) < (n : Int) := by omega
      have d4 : decide (i < j) = true := by simp; omega
      rw [hjI]
      have HJ := Lib.hid (And.intro hjI (And.intro hlt (And.intro hi hj)))
      clear hst hrs hrev ho hg hnl hml hjI hy0 hy1 hj hlt
      go_wp2_with (fail)
      go_region
      have FIN := Lib.hid (show RevRel base g cap n l W (I ((i : Int) + 1)) (I ((j : Int) - 1)) ((wr.setCell ⟨g, i, none⟩ (I (y1 : Int))).setCell ⟨g, j, none⟩ (I (y0 : Int))).drew from
        ⟨i + 1, _, by have := HJ.out.2.1; omega, rfl, by have := HJ.out.1; congr 1; omega, HN.out.2, HN.out.1.2, ⟨HN.out.1.1.os, HN.out.1.1.tape, HN.out.1.1.output, HN.out.1.1.size, HN.out.1.1.block⟩⟩)
      go_wp2_with (fail)
      exact ⟨FIN.out, by have := HJ.out.2.1; simp [intOf]; omega⟩
    · have d4 : decide ((i : Int) < (n : Int) - 1 - (i : Int)) = false := by simp; omega
      have he := Fl.rev_end hrev (by rw [← hnl]; exact hlt)
      rw [he] at ho
      have FIN := Lib.hid (And.intro ho hg)
      clear hrev ho hg hnl hml he hlt
      go_wp2_with (fail)
      go_end0
      exact ⟨rfl, FIN.out⟩

/-- What is answered of an order. -/
def OrderT (w : World) (l : List Nat) (W : World) (e : Ending) : Prop := ∃ v, e = .returned v ∧ Nums W w.heap.size v l ∧ Below w.heap.size w W

set_option maxRecDepth 100000 in
set_option maxHeartbeats 800000 in
theorem order_any (bw : Nat) (v0 v2 v3 : Value) (base g cap : Nat) (l : List Nat) (hl : l.length ≤ 100000) (hne : l ≠ []) (W : World) (h : Blk bw #[v0, .slice (some ⟨g, 0, none⟩) l.length cap, v2, v3] 103 W) (hn : Nums W base (.slice (some ⟨g, 0, none⟩) l.length cap) l) :
    Calls Try.prog 54 #[.pointer (some ⟨bw, 0, none⟩)] W fun e w' => OrderT W l.reverse w' e := by
  have c1 := h.get 1 (.slice (some ⟨g, 0, none⟩) l.length cap) rfl
  have HN := Lib.hid (clone_any base g cap l hl W hn)
  have HL := Lib.hid (And.intro hl hne)
  clear hn h hl hne
  go_enter Try.func54, Try.ntmps54
  go_wp2_with fail
  refine HN.out.mono ?_
  rintro e w1 ⟨v, rfl, ho, hb⟩
  rcases own_slice ho with ⟨rfl, h0⟩ | ⟨g1, cap1, rfl⟩
  · exact absurd (List.length_eq_zero_iff.1 h0) HL.out.2
  · have HR := Lib.hid (reverse_any W.heap.size g1 cap1 l l.length rfl (by have := HL.out.1; omega) w1 ho)
    have H1 := Lib.hid (And.intro (ho.lt g1 rfl) hb)
    clear ho hb
    go_wp2_with fail
    refine HR.out.mono ?_
    rintro e w2 ⟨rfl, ho2, hg2⟩
    have FIN := Lib.hid (show OrderT W l.reverse w2 (.returned (.slice (some ⟨g1, 0, none⟩) l.length cap1)) from ⟨_, rfl, by show World.ownsRow _ _ _ _ _ _ _; rw [List.length_reverse]; exact ho2, H1.out.2.grown hg2 H1.out.2.size (by intro k hk; simp at hk; have := H1.out.1.1; omega)⟩)
    clear ho2 hg2
    go_wp2_with fail
    go_ret
    exact FIN.out
end Go.Proofs.Ytjlmkcamefaodaa
