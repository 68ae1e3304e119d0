/-
  Graphs of one node that goes on nowhere: no fault; a walk through it.
-/
import Derived.Test.YtiimcckajjpbjaaFMem
import Derived.Maps.AppendAt
import Derived.Deep.CutRange
namespace Go.Proofs.Ytiimcckajjpbjaa
open Go Go.RowKit

/-- The graph of one node that goes on nowhere. -/
abbrev oneV (bg : Nat) : Value := .slice (some ⟨bg, 0, none⟩) 1 1
def One (bg : Nat) (w : World) : Prop := Blk bg #[.slice none 0 0] 47 w

set_option maxRecDepth 100000 in
theorem fault_one (bg : Nat) (w : World) (h : One bg w) : Calls Try.prog 65 #[oneV bg] w fun e w' => e = .returned (I 0) ∧ w = w' := by
  have c0 := Blk.get h 0 (.slice none 0 0) rfl
  go_enter Try.func65, Try.ntmps65
  go_wp2_with fail
  refine wp_loop_rounds 2 ?_
  rw [rounds_succ]
  go_wp2_with fail
  refine wp_loop_rounds 1 ?_
  rw [rounds_succ]
  go_wp2_with fail
  rw [rounds_succ]
  go_wp2_with fail
  go_ret
  exact ⟨rfl, rfl⟩

theorem mkI1 (w : World) : (Instr.makeSlice 47 (I 1) (I 1)).run Try.prog w = .ok (.slice (some ⟨w.heap.size, 0, none⟩) 1 1) (w.alloc (.cells #[I 0] 3)) := by kernel_rfl
theorem mkB1 (w : World) : (Instr.makeSlice 75 (I 1) (I 1)).run Try.prog w = .ok (.slice (some ⟨w.heap.size, 0, none⟩) 1 1) (w.alloc (.cells #[.bool false] 4)) := by kernel_rfl
theorem mkS1 (w : World) : (Instr.makeSlice 36 (I 1) (I 1)).run Try.prog w = .ok (.slice (some ⟨w.heap.size, 0, none⟩) 1 1) (w.alloc (.cells #[.slice none 0 0] 47)) := by kernel_rfl

/-- A walk of a graph of one node, in memory: its lists so far, from where it came, whether it was there. -/
structure WalkA (w : World) (bw bf br : Nat) (v0 v1 : Value) (f : Int) (r : Bool) (W : World) : Prop where
  blk : Blk bw #[v0, v1, .slice (some ⟨bf, 0, none⟩) 1 1, .slice (some ⟨br, 0, none⟩) 1 1] 116 W
  frm : Blk bf #[I f] 3 W
  rch : Blk br #[.bool r] 4 W
  bel : Below w.heap.size w W
  lw : w.heap.size ≤ bw
  lf : w.heap.size ≤ bf
  lr : w.heap.size ≤ br
  nf : bw ≠ bf
  nr : bw ≠ br
  fr : bf ≠ br

theorem WalkA.enter {w : World} {bw bf br : Nat} {W : World} (h : WalkA w bw bf br (.slice none 0 0) (.slice none 0 0) 0 false W) :
    WalkA w bw bf br (.slice none 0 0) (.slice none 0 0) (-1) true ((W.setCell ⟨br, 0, none⟩ (.bool true)).setCell ⟨bf, 0, none⟩ (I (-1))).drew :=
  ⟨(h.blk.setOther h.nr _ _).setOther h.nf _ _, (h.frm.setOther h.fr _ _).set 0 _, (h.rch.set 0 _).setOther (Ne.symm h.fr) _ _,
    ((h.bel.setCell (p := ⟨br, 0, none⟩) h.lr _).setCell (p := ⟨bf, 0, none⟩) h.lf _).drew, h.lw, h.lf, h.lr, h.nf, h.nr, h.fr⟩
section
variable {w : World} {bw bf br : Nat} {v0 v1 : Value} {f : Int} {r : Bool} {W W' : World}
theorem WalkA.grown {row : Option Nat} (h : WalkA w bw bf br v0 v1 f r W) (hg : W.grownBy W' row) (h1 : some bw ≠ row) (h2 : some bf ≠ row) (h3 : some br ≠ row) (h4 : ∀ k, row = some k → w.heap.size ≤ k) : WalkA w bw bf br v0 v1 f r W' :=
  ⟨h.blk.other hg h1, h.frm.other hg h2, h.rch.other hg h3, h.bel.grown hg h.bel.size h4, h.lw, h.lf, h.lr, h.nf, h.nr, h.fr⟩
theorem WalkA.drewN (h : WalkA w bw bf br v0 v1 f r W) (n : Nat) : WalkA w bw bf br v0 v1 f r (W.drewN n) :=
  ⟨h.blk, h.frm, h.rch, below_drewN h.bel n, h.lw, h.lf, h.lr, h.nf, h.nr, h.fr⟩
theorem WalkA.alloc (h : WalkA w bw bf br v0 v1 f r W) (o : Obj) : WalkA w bw bf br v0 v1 f r (W.alloc o) :=
  ⟨h.blk.alloc o, h.frm.alloc o, h.rch.alloc o, h.bel.alloc h.bel.size _, h.lw, h.lf, h.lr, h.nf, h.nr, h.fr⟩
theorem WalkA.set0 (h : WalkA w bw bf br v0 v1 f r W) (u : Value) : WalkA w bw bf br u v1 f r (W.setCell ⟨bw, 0, none⟩ u) :=
  ⟨h.blk.set 0 u, h.frm.setOther (Ne.symm h.nf) _ _, h.rch.setOther (Ne.symm h.nr) _ _, h.bel.setCell (p := ⟨bw, 0, none⟩) h.lw _, h.lw, h.lf, h.lr, h.nf, h.nr, h.fr⟩
theorem WalkA.set1 (h : WalkA w bw bf br v0 v1 f r W) (u : Value) : WalkA w bw bf br v0 u f r (W.setCell ⟨bw, 1, none⟩ u) :=
  ⟨h.blk.set 1 u, h.frm.setOther (Ne.symm h.nf) _ _, h.rch.setOther (Ne.symm h.nr) _ _, h.bel.setCell (p := ⟨bw, 1, none⟩) h.lw _, h.lw, h.lf, h.lr, h.nf, h.nr, h.fr⟩
end

theorem info_int : (Try.prog.info? 3).map (fun i => (i.zero, i.size, i.bytes)) = some (some (I 0), 1, 8) := by kernel_rfl

/-- What entering a node leaves. -/
def Entered (w : World) (bw bf br : Nat) (W W' : World) (e : Ending) : Prop := e = .returned (.tuple #[]) ∧ ∃ v0, WalkA w bw bf br v0 (.slice none 0 0) (-1) true W' ∧ Nums W' W.heap.size v0 [0] ∧
  (∀ k, k < W.heap.size → k ≠ bw → k ≠ bf → k ≠ br → W'.heap[k]? = W.heap[k]?) ∧ W.heap.size ≤ W'.heap.size

set_option maxRecDepth 100000 in
set_option maxHeartbeats 800000 in
theorem enter_one (w : World) (bw bf br : Nat) (W : World) (h : WalkA w bw bf br (.slice none 0 0) (.slice none 0 0) 0 false W) :
    Calls Try.prog 76 #[.pointer (some ⟨bw, 0, none⟩), I 0, I (-1)] W fun e w' => Entered w bw bf br W w' e := by
  obtain ⟨i0, hi, hz0, hz1, hz2⟩ := info_parts info_int
  have H := Lib.hid h
  have c0 := h.blk.get 0 (.slice none 0 0) rfl
  have c2 := h.blk.get 2 (.slice (some ⟨bf, 0, none⟩) 1 1) rfl
  have c3 := h.blk.get 3 (.slice (some ⟨br, 0, none⟩) 1 1) rfl
  have d0 := h.frm.get 0 (I 0) rfl
  have d1 := h.rch.get 0 (.bool false) rfl
  have f0 := h.blk.free 0
  have f1 := h.frm.free 0
  have f2 := h.rch.free 0
  have n1 := h.nf
  have n2 := h.nr
  have n3 := h.fr
  clear h
  go_enter Try.func76, Try.ntmps76
  go_wp2_with fail
  go_region
  go_upto_region 1 with (fail)
  obtain ⟨W1, hW1⟩ : ∃ W1, W1 = ((W.setCell ⟨br, 0, none⟩ (.bool true)).setCell ⟨bf, 0, none⟩ (I (-1))).drew := ⟨_, rfl⟩
  have h1 : WalkA w bw bf br (.slice none 0 0) (.slice none 0 0) (-1) true W1 := by rw [hW1]; exact H.out.enter
  have hs1 : W1.heap.size = W.heap.size := by rw [hW1]; simp
  have hk1 : ∀ k, k < W.heap.size → k ≠ bw → k ≠ bf → k ≠ br → W1.heap[k]? = W.heap[k]? := by
    intro k _ _ hf hr
    rw [hW1]
    exact (Below.heap_setCell _ _ _ _ hf).trans (Below.heap_setCell _ _ _ _ hr)
  rw [← hW1]
  have HW1 := Lib.hid hW1
  have H1 := Lib.hid (And.intro h1 (And.intro hs1 hk1))
  have HI := Lib.hid (And.intro hi (And.intro hz0 (And.intro hz1 hz2)))
  have c0 := h1.blk.get 0 (.slice none 0 0) rfl
  clear c2 c3 d0 d1 f0 f1 f2 hs1 hk1 hW1 h1 hi hz0 hz1 hz2
  go_wp2_with (at_builtin; refine Hid.out ?_)
  unfold Hid
  refine wpList_append_own_at _ rfl _ _ 47 rfl W.heap.size 3 i0 (I 0) 1 8 Try.underlying47 HI.out.1 HI.out.2.1 HI.out.2.2.1 HI.out.2.2.2 rfl (by decide) (.slice none 0 0) 0 [] rfl (World.ownsRow_nil _ _ _ _) ⟨W1.heap.size, 0, none⟩ 1 1 [I 0] rfl rfl (cell_one_new _ _ _) (by simp [Value.oneCell']) (by unfold maxLen; omega) (by omega) (by rw [← H1.out.2.1]; simp) ?_
  intro v' w2 ho hg _ hat
  have hw2 : WalkA w bw bf br (.slice none 0 0) (.slice none 0 0) (-1) true w2 := (H1.out.1.alloc _).grown hg (by simp [Value.ownBlock]) (by simp [Value.ownBlock]) (by simp [Value.ownBlock]) (by simp [Value.ownBlock])
  obtain ⟨g, cap, rfl⟩ : ∃ g cap, v' = .slice (some ⟨g, 0, none⟩) 1 cap := by
    rcases own_slice ho with ⟨_, h⟩ | ⟨g, cap, h⟩
    · exact absurd h (by decide)
    · exact ⟨g, cap, h⟩
  have hlt := ho.lt g rfl
  have hbw : bw < W.heap.size := by rw [← H1.out.2.1]; exact H1.out.1.blk.lt
  have hbf : bf < W.heap.size := by rw [← H1.out.2.1]; exact H1.out.1.frm.lt
  have hbr : br < W.heap.size := by rw [← H1.out.2.1]; exact H1.out.1.rch.lt
  have hk2 : ∀ k, k < W.heap.size → w2.heap[k]? = W1.heap[k]? := by
    intro k hk
    have e1 := H1.out.2.1
    rw [hg.block k (by simp; omega) (by simp [Value.ownBlock])]
    exact heap_alloc_old W1 _ (by omega)
  have hsz : W.heap.size ≤ w2.heap.size := by have := hg.size; have e1 := H1.out.2.1; simp at this; omega
  have FIN := Lib.hid (show Entered w bw bf br W (w2.setCell ⟨bw, 0, none⟩ (.slice (some ⟨g, 0, none⟩) 1 cap)) (.returned (.tuple #[])) from
    ⟨rfl, _, hw2.set0 _, own_set ho (by simp [Value.ownBlock]; omega), fun k h0 h1 h2 h3 => (Below.heap_setCell _ _ _ _ h1).trans ((hk2 k h0).trans (H1.out.2.2 k h0 h1 h2 h3)), by simpa [World.setCell] using hsz⟩)
  have c0' := hw2.blk.get 0 (.slice none 0 0) rfl
  have f0 := hw2.blk.free 0
  clear ho hg hat hw2 hlt hbw hbf hbr hk2 hsz c0
  go_wp2_with fail
  go_end0
  exact FIN.out

/-- What a walk of one node leaves. -/
def Walked (w W : World) (e : Ending) : Prop := ∃ bw bf br v0 v1, e = .returned (.pointer (some ⟨bw, 0, none⟩)) ∧ WalkA w bw bf br v0 v1 (-1) true W ∧ Nums W w.heap.size v0 [0] ∧ Nums W w.heap.size v1 [0]

set_option maxRecDepth 100000 in
set_option maxHeartbeats 800000 in
theorem newWalk_one (bg : Nat) (w : World) (h : One bg w) : Calls Try.prog 66 #[oneV bg] w fun e w' => Walked w w' e := by
  obtain ⟨i0, hi, hz0, hz1, hz2⟩ := info_parts info_int
  have HI := Lib.hid (And.intro hi (And.intro hz0 (And.intro hz1 hz2)))
  have hmk := fun w => mkI1 w
  have hmb := fun w => mkB1 w
  have HH := Lib.hid h
  clear h hi hz0 hz1 hz2
  go_enter Try.func66, Try.ntmps66
  go_upto_region 1 with (fail)
  go_cut [3] from 7 to 14 (fun p W => ∃ bw bf br, p = .pointer (some ⟨bw, 0, none⟩) ∧ WalkA w bw bf br (.slice none 0 0) (.slice none 0 0) 0 false W)
  case first =>
    have HA := Lib.hid (show WalkA w (w.heap.size + 2) w.heap.size (w.heap.size + 1) (.slice none 0 0) (.slice none 0 0) 0 false ((((w.alloc (.cells #[I 0] 3)).alloc (.cells #[.bool false] 4)).alloc (.cells #[.slice none 0 0, .slice none 0 0, .slice (some ⟨w.heap.size, 0, none⟩) 1 1, .slice (some ⟨w.heap.size + 1, 0, none⟩) 1 1] 116))).drew from
      ⟨Blk.new' _ _ _ (by simp), ((Blk.new _ _ _).alloc _).alloc _, (Blk.new' _ _ _ (by simp)).alloc _, ((((Below.refl _ _).alloc (Nat.le_refl _) _).alloc (by simp) _).alloc (by simp; omega) _).drew, by omega, by omega, by omega, by omega, by omega, by omega⟩)
    have HB := Lib.hid (show WalkA w (w.heap.size + 2) (w.heap.size + 1) w.heap.size (.slice none 0 0) (.slice none 0 0) 0 false ((((w.alloc (.cells #[.bool false] 4)).alloc (.cells #[I 0] 3)).alloc (.cells #[.slice none 0 0, .slice none 0 0, .slice (some ⟨w.heap.size + 1, 0, none⟩) 1 1, .slice (some ⟨w.heap.size, 0, none⟩) 1 1] 116))).drew from
      ⟨Blk.new' _ _ _ (by simp), (Blk.new' _ _ _ (by simp)).alloc _, ((Blk.new _ _ _).alloc _).alloc _, ((((Below.refl _ _).alloc (Nat.le_refl _) _).alloc (by simp) _).alloc (by simp; omega) _).drew, by omega, by omega, by omega, by omega, by omega, by omega⟩)
    go_region
    all_goals (go_wp2_with fail; go_meet; case rel => first | exact ⟨_, _, _, rfl, HA.out⟩ | exact ⟨_, _, _, rfl, HB.out⟩)
  case rest =>
    obtain ⟨bw, bf, br, rfl, hW⟩ := hcut
    obtain ⟨W, rfl⟩ : ∃ W, W = wc := ⟨_, rfl⟩
    have HW := Lib.hid hW
    have HWa := Lib.hid (hW.alloc (.cells #[I 0] 3))
    have HN := Lib.hid (Blk.new W #[I 0] 3)
    have HG := Lib.hid ((HH.out.below hW.bel HH.out.lt).alloc (.cells #[I 0] 3))
    obtain ⟨bn, hbn⟩ : ∃ bn, bn = W.heap.size := ⟨_, rfl⟩
    obtain ⟨W1, hW1⟩ : ∃ W1, W1 = W.alloc (.cells #[I 0] 3) := ⟨_, rfl⟩
    rw [← hbn, ← hW1] at HN
    rw [← hW1] at HWa HG
    have HBN := Lib.hid (show bn ≠ bw ∧ bn ≠ bf ∧ bn ≠ br by have := hW.blk.lt; have := hW.frm.lt; have := hW.rch.lt; omega)
    have HE := Lib.hid (And.intro hbn hW1)
    clear hW hbn hW1
    go_upto_region 5 with (fail)
    rw [← HE.out.1]
    change Code.wp _ _ _ _ (W.alloc (.cells #[I 0] 3))
    rw [← HE.out.2]
    go_wp2_with (fail)
    refine (enter_one w bw bf br W1 HWa.out).mono ?_
    rintro e W2 ⟨rfl, v0, h2, ho2, hk2, hs2⟩
    have hn2 : Blk bn #[I 0] 3 W2 := (hk2 bn HN.out.lt HBN.out.1 HBN.out.2.1 HBN.out.2.2).trans HN.out
    have hg2 : One bg W2 := HH.out.below h2.bel HH.out.lt
    have cn := hn2.get 0 (I 0) rfl
    have cg := Blk.get hg2 0 (.slice none 0 0) rfl
    have H2 := Lib.hid (And.intro h2 (And.intro ho2 (And.intro hk2 (And.intro hn2 hg2))))
    clear h2 ho2 hk2 hs2 hn2 hg2
    go_wp2_with (fail)
    refine wp_loop_rounds 2 ?_
    rw [rounds_succ]
    go_wp2_with (fail)
    go_quiet (fail)
    go_upto_region 9 with (fail)
    obtain ⟨W3, hW3⟩ : ∃ W3, W3 = W2.drewN nq := ⟨_, rfl⟩
    have h3 : WalkA w bw bf br v0 (.slice none 0 0) (-1) true W3 := by rw [hW3]; exact H2.out.1.drewN nq
    have ho3 : Nums W3 w.heap.size v0 [0] := by rw [hW3]; exact own_lower HWa.out.bel.size (show W2.ownsRow _ _ _ _ _ _ from H2.out.2.1)
    have hv0 : ∃ g, v0.ownBlock = some g ∧ g ≠ bw ∧ W1.heap.size ≤ g := by
      have hh := H2.out.2.1
      rcases own_slice hh with ⟨_, h⟩ | ⟨g, cap, rfl⟩
      · exact absurd h (by decide)
      · have := (hh.lt g rfl).1
        have := HWa.out.blk.lt
        exact ⟨g, rfl, by omega, by omega⟩
    rw [← hW3]
    have c1 := h3.blk.get 1 (.slice none 0 0) rfl
    have H3 := Lib.hid (And.intro h3 (And.intro ho3 hv0))
    have HW3 := Lib.hid hW3
    clear h3 ho3 hv0 hW3 cn cg
    go_wp2_with (at_builtin; refine Hid.out ?_)
    unfold Hid
    refine wpList_append_own_at _ rfl _ _ 47 rfl w.heap.size 3 i0 (I 0) 1 8 Try.underlying47 HI.out.1 HI.out.2.1 HI.out.2.2.1 HI.out.2.2.2 rfl (by decide) (.slice none 0 0) 0 [] rfl (World.ownsRow_nil _ _ _ _) ⟨W3.heap.size, 0, none⟩ 1 1 [I 0] rfl rfl (cell_one_new _ _ _) (by simp [Value.oneCell']) (by unfold maxLen; omega) (by omega) (by have := H3.out.1.bel.size; simp; omega) ?_
    intro v' w4 ho hg _ hat
    have hw4 : WalkA w bw bf br v0 (.slice none 0 0) (-1) true w4 := (H3.out.1.alloc _).grown hg (by simp [Value.ownBlock]) (by simp [Value.ownBlock]) (by simp [Value.ownBlock]) (by simp [Value.ownBlock])
    obtain ⟨g, cap, rfl⟩ : ∃ g cap, v' = .slice (some ⟨g, 0, none⟩) 1 cap := by
      rcases own_slice ho with ⟨_, h⟩ | ⟨g, cap, h⟩
      · exact absurd h (by decide)
      · exact ⟨g, cap, h⟩
    have hgb : g = W3.heap.size + 1 ∨ W3.heap.size ≤ g := by
      rcases hat with h | h
      · simp [Value.ownBlock] at h
      · simp [Value.ownBlock] at h
        omega
    have hv4 : Nums w4 w.heap.size v0 [0] := (H3.out.2.1.alloc _).kept hg (Or.inr (by obtain ⟨g, e, _⟩ := H3.out.2.2; rw [e]; simp [Value.ownBlock]))
    have FIN := Lib.hid (show Walked w (w4.setCell ⟨bw, 1, none⟩ (.slice (some ⟨g, 0, none⟩) 1 cap)) (.returned (.pointer (some ⟨bw, 0, none⟩))) from
      ⟨bw, bf, br, v0, _, rfl, hw4.set1 _, own_set hv4 (by obtain ⟨g, e, h, _⟩ := H3.out.2.2; rw [e]; simp; exact Ne.symm h), own_set ho (by have := H3.out.1.blk.lt; simp [Value.ownBlock]; omega)⟩)
    have c1' := hw4.blk.get 1 (.slice none 0 0) rfl
    have f1 := hw4.blk.free 1
    have c2 := hw4.blk.get 2 (.slice (some ⟨bf, 0, none⟩) 1 1) rfl
    have d0 := hw4.frm.get 0 (I (-1)) rfl
    have n1 := hw4.nf
    clear ho hg hat hw4 hgb hv4 c1
    go_wp2_with (fail)
    rw [rounds_succ]
    go_wp2_with (fail)
    go_ret
    exact FIN.out
end Go.Proofs.Ytiimcckajjpbjaa
