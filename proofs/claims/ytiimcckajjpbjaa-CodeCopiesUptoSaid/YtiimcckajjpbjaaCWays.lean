/-
  A checker of a function of one block that answers a value: its sizes, its ways.
-/
import Derived.Test.YtiimcckajjpbjaaCUses
import Derived.Test.YtiimcckajjpbjaaFOne5
namespace Go.Proofs.Ytiimcckajjpbjaa
open Go Go.RowKit Go.Maps Cd

set_option maxRecDepth 100000 in
set_option maxHeartbeats 800000 in
theorem hasSizes_one (bk bm bb : Nat) (vals : Int) (c4 c5 c6 c7 c8 c9 : Value) (w : World) (h : Ck1 bk bm bb vals c4 c5 c6 c7 c8 c9 w) :
    Calls Try.prog 35 #[.pointer (some ⟨bk, 0, none⟩)] w fun e w' => e = .returned (.bool (decide (0 ≤ vals ∧ vals ≤ 60000))) ∧ w = w' := by
  have x0 := h.get 0 (I 0) rfl
  have x1 := h.get 1 (I 0) rfl
  have x2 := h.get 2 (I vals) rfl
  have x3 := h.get 3 (.slice (some ⟨bb, 0, none⟩) 1 1) rfl
  clear h
  go_enter Try.func35, Try.ntmps35
  go_wp2_with (go_at_call 52; refine (within_any _ _ _ _).mono ?_; rintro e w' ⟨rfl, rfl⟩)
  all_goals go_ret
  all_goals refine ⟨ret_bool ?_, rfl⟩
  all_goals first | (simp_all; done) | (simp_all; omega)

abbrev blkV (bi k cap : Nat) : Value := .agg #[.slice none 0 0, .slice (some ⟨bi, 0, none⟩) k cap, .int .u8 3, I 0, I 0, I 0]
abbrev blkC (bi k cap : Nat) : Obj := .cells #[.slice none 0 0, .slice (some ⟨bi, 0, none⟩) k cap, .int .u8 3, I 0, I 0, I 0] 45

set_option maxRecDepth 100000 in
set_option maxHeartbeats 800000 in
theorem isEnd_one (bk bm bb bi k cap : Nat) (vals : Int) (c4 c5 c6 c7 c8 c9 : Value) (w : World) (h : Ck1 bk bm bb vals c4 c5 c6 c7 c8 c9 w) :
    Calls Try.prog 53 #[.pointer (some ⟨bk, 0, none⟩), blkV bi k cap] w fun e w' => e = .returned (.bool true) ∧ Below w.heap.size w w' := by
  have x3 := h.get 3 (.slice (some ⟨bb, 0, none⟩) 1 1) rfl
  have hlt := h.lt
  have hne : ¬ bk = w.heap.size := by omega
  have HB := Lib.hid ((Below.refl w.heap.size w).alloc (Nat.le_refl _) (blkC bi k cap))
  clear h
  go_enter Try.func53, Try.ntmps53
  go_wp2_with fail
  go_ret
  exact ⟨rfl, HB.out⟩

abbrev funV (bb : Nat) (vals : Int) : Value := .agg #[I 0, I 0, I vals, .slice (some ⟨bb, 0, none⟩) 1 1]
abbrev funC (bb : Nat) (vals : Int) : Obj := .cells #[I 0, I 0, I vals, .slice (some ⟨bb, 0, none⟩) 1 1] 35

set_option maxRecDepth 100000 in
set_option maxHeartbeats 800000 in
theorem graph_one (bb bi k cap : Nat) (vals : Int) (w : World) (h : Blk1 bb bi k cap w) :
    Calls Try.prog 17 #[funV bb vals] w fun e w' => ToldOne w w' e := by
  have hmk := fun w => mkS1 w
  obtain ⟨W, hW⟩ : ∃ W, W = (w.alloc (funC bb vals)).alloc (.cells #[.slice none 0 0] 47) := ⟨_, rfl⟩
  obtain ⟨W2, hW2⟩ : ∃ W2, W2 = W.alloc (blkC bi k cap) := ⟨_, rfl⟩
  obtain ⟨p1, hp1⟩ : ∃ p, p = w.heap.size := ⟨_, rfl⟩
  obtain ⟨p3, hp3⟩ : ∃ p, p = w.heap.size + 1 := ⟨_, rfl⟩
  have hbel : Below w.heap.size w W := by rw [hW]; exact ((Below.refl _ _).alloc (Nat.le_refl _) _).alloc (by simp) _
  have k1 : Blk p1 #[I 0, I 0, I vals, .slice (some ⟨bb, 0, none⟩) 1 1] 35 W := by rw [hW, hp1]; exact (Blk.new w _ _).alloc _
  have k3 : One p3 W := by rw [hW, hp3]; exact Blk.new' _ _ _ (by simp)
  have hb := h.below hbel h.lt
  have x3 := k1.get 3 (.slice (some ⟨bb, 0, none⟩) 1 1) rfl
  have b0 := hb.get 0 (.slice none 0 0) rfl
  have b1 := hb.get 1 (.slice (some ⟨bi, 0, none⟩) k cap) rfl
  have b2 := hb.get 2 (.int .u8 3) rfl
  have b3 := hb.get 3 (I 0) rfl
  have b4 := hb.get 4 (I 0) rfl
  have b5 := hb.get 5 (I 0) rfl
  have hb2 : Below W.heap.size W W2 := by rw [hW2]; exact (Below.refl _ _).alloc (Nat.le_refl _) _
  have HW := Lib.hid (And.intro hW (And.intro hp1 hp3))
  have FIN := Lib.hid (show ToldOne w W2 (.returned (oneV p3)) from ⟨p3, rfl, k3.below hb2 k3.lt, hbel.trans (hb2.mono hbel.size)⟩)
  have HW2 := Lib.hid hW2
  clear h hW hW2 hp1 hp3 hbel k1 k3 hb hb2
  go_enter Try.func17, Try.ntmps17
  go_upto_region 2 with (fail)
  rw [← HW.out.2.2, ← HW.out.2.1]
  change Code.wp _ _ _ _ ((w.alloc (funC bb vals)).alloc (.cells #[.slice none 0 0] 47))
  rw [← HW.out.1]
  go_wp2_with fail
  refine wp_loop_rounds 2 ?_
  rw [rounds_succ]
  go_upto_region 5 with (fail)
  change Code.wp _ _ _ _ (W.alloc (blkC bi k cap))
  go_wp2_with fail
  rw [rounds_succ]
  go_wp2_with fail
  go_ret
  rw [HW2.out] at FIN
  exact FIN.out

/-- What the ways leave in the checker. -/
def Wayed (bk bm bb : Nat) (vals : Int) (c4 c5 c6 : Value) (w w' : World) : Prop := (∃ c7 c8 c9, Ck1 bk bm bb vals c4 c5 c6 c7 c8 c9 w') ∧ w.grownBy w' (some bk)

set_option maxRecDepth 100000 in
set_option maxHeartbeats 2000000 in
theorem hasWays_one (bk bm bb bi k cap : Nat) (vals : Int) (c4 c5 c6 : Value) (w : World) (h : Ck1 bk bm bb vals c4 c5 c6 (.slice none 0 0) (.slice none 0 0) (.slice none 0 0) w) (hb : Blk1 bb bi k cap w) (hbb : bb ≠ bk) :
    Calls Try.prog 36 #[.pointer (some ⟨bk, 0, none⟩)] w fun e w' => e = .returned (.bool true) ∧ Wayed bk bm bb vals c4 c5 c6 w w' := by
  have H := Lib.hid (And.intro h (And.intro hb hbb))
  have x3 := h.get 3 (.slice (some ⟨bb, 0, none⟩) 1 1) rfl
  have b0 := hb.get 0 (.slice none 0 0) rfl
  have b1 := hb.get 1 (.slice (some ⟨bi, 0, none⟩) k cap) rfl
  have b2 := hb.get 2 (.int .u8 3) rfl
  have b3 := hb.get 3 (I 0) rfl
  have b4 := hb.get 4 (I 0) rfl
  have b5 := hb.get 5 (I 0) rfl
  obtain ⟨W, hW⟩ : ∃ W, W = w.alloc (blkC bi k cap) := ⟨_, rfl⟩
  obtain ⟨p4, hp4⟩ : ∃ p, p = w.heap.size := ⟨_, rfl⟩
  have hbel : Below w.heap.size w W := by rw [hW]; exact (Below.refl _ _).alloc (Nat.le_refl _) _
  have k4 : Blk1 p4 bi k cap W := by rw [hW, hp4]; exact Blk.new _ _ _
  have HW := Lib.hid (And.intro hW (And.intro hp4 (And.intro hbel k4)))
  have HE := Lib.hid (isEnd_one bk bm bb bi k cap vals c4 c5 c6 (.slice none 0 0) (.slice none 0 0) (.slice none 0 0) W (h.below hbel h.lt))
  have y0 := k4.get 0 (.slice none 0 0) rfl
  have y1 := k4.get 1 (.slice (some ⟨bi, 0, none⟩) k cap) rfl
  have y2 := k4.get 2 (.int .u8 3) rfl
  have y3 := k4.get 3 (I 0) rfl
  have y4 := k4.get 4 (I 0) rfl
  have y5 := k4.get 5 (I 0) rfl
  clear h hb hbb hW hp4 hbel k4
  go_enter Try.func36, Try.ntmps36
  go_wp2_with fail
  refine wp_loop_rounds 2 ?_
  rw [rounds_succ]
  go_upto_region 4 with (fail)
  rw [← HW.out.2.1]
  change Code.wp _ _ _ _ (w.alloc (blkC bi k cap))
  rw [← HW.out.1]
  clear b0 b1 b2 b3 b4 b5 x3
  go_wp2_with fail
  refine HE.out.mono ?_
  rintro e w1 ⟨rfl, h1⟩
  have q1 := HW.out.2.2.1.trans (h1.mono HW.out.2.2.1.size)
  have H1 := Lib.hid (And.intro q1 (And.intro (H.out.1.below q1 H.out.1.lt) (H.out.2.1.below q1 H.out.2.1.lt)))
  have x0 := H1.out.2.1.get 0 (I 0) rfl
  have x1 := H1.out.2.1.get 1 (I 0) rfl
  have x2 := H1.out.2.1.get 2 (I vals) rfl
  have x3 := H1.out.2.1.get 3 (.slice (some ⟨bb, 0, none⟩) 1 1) rfl
  clear h1 q1 y0 y1 y2 y3 y4 y5
  go_wp2_with fail
  rw [rounds_succ]
  go_wp2_with fail
  refine (graph_one bb bi k cap vals w1 H1.out.2.2).mono ?_
  rintro e w2 ⟨bg, rfl, hg, hb⟩
  have HG := Lib.hid (And.intro hg (H1.out.1.trans (hb.mono H1.out.1.size)))
  clear hg hb x0 x1 x2 x3
  go_wp2_with fail
  refine (Order_one bg w2 HG.out.1).mono ?_
  rintro e w3 ⟨ov, rfl, ho, hb⟩
  obtain ⟨g3, cap3, rfl⟩ : ∃ g cap, ov = .slice (some ⟨g, 0, none⟩) 1 cap := by
    rcases own_slice ho with ⟨_, h⟩ | ⟨g, cap, h⟩
    · exact absurd h (by decide)
    · exact ⟨g, cap, h⟩
  have q3 := HG.out.2.trans (hb.mono HG.out.2.size)
  have H3 := Lib.hid (And.intro q3 (And.intro (HG.out.1.below hb HG.out.1.lt) (And.intro ho (H.out.1.below q3 H.out.1.lt))))
  have x3 := H3.out.2.2.2.get 3 (.slice (some ⟨bb, 0, none⟩) 1 1) rfl
  clear ho hb q3
  go_wp2_with fail
  refine (Above_one bg w3 H3.out.2.1).mono ?_
  rintro e w4 ⟨ba, rfl, ha, hb⟩
  have H4 := Lib.hid (And.intro (H3.out.1.trans (hb.mono H3.out.1.size)) (And.intro (H3.out.2.1.below hb H3.out.2.1.lt) (And.intro (own_below H3.out.2.2.1 hb) ha)))
  clear ha hb x3
  go_wp2_with fail
  refine (Into_one bg w4 H4.out.2.1).mono ?_
  rintro e w5 ⟨bt, rfl, ht, hb⟩
  have q5 := H4.out.1.trans (hb.mono H4.out.1.size)
  have k5 := H.out.1.below q5 H.out.1.lt
  have H5 := Lib.hid (And.intro q5 (And.intro k5 (And.intro (own_below H4.out.2.2.1 hb) (H4.out.2.2.2.below hb H4.out.2.2.2.lt))))
  have x7 := k5.get 7 (.slice none 0 0) rfl
  have f7 := k5.free 7
  clear ht hb q5 k5
  have hba : ba ≠ bk := by
    intro e
    have e1 := H5.out.2.2.2
    rw [e] at e1
    have e2 := H5.out.2.1
    unfold Blk at e1 e2
    rw [e1] at e2
    simp at e2
  obtain ⟨W6, hW6⟩ : ∃ W6, W6 = w5.setCell ⟨bk, 7, none⟩ (.slice (some ⟨bt, 0, none⟩) 1 1) := ⟨_, rfl⟩
  have k6 : Ck1 bk bm bb vals c4 c5 c6 (.slice (some ⟨bt, 0, none⟩) 1 1) (.slice none 0 0) (.slice none 0 0) W6 := by rw [hW6]; exact H5.out.2.1.set 7 _
  have g6 : w.grownBy W6 (some bk) := by
    rw [hW6]
    exact ⟨H5.out.1.os, H5.out.1.tape, H5.out.1.output, by have := H5.out.1.size; simpa [World.setCell] using this, fun i hi hne => (Below.heap_setCell _ _ _ _ (fun e => hne (by rw [e]))).trans (H5.out.1.block i hi)⟩
  have o6 : W6.cell? ⟨g3, 0, none⟩ = some (I 0) := by rw [hW6, World.cell?_setCell_other _ _ _ _ (by simp)]; exact H5.out.2.2.1.cells (g := g3) rfl 0 (I 0) rfl
  have a6 : Blk ba #[I (-1)] 3 W6 := by rw [hW6]; exact H5.out.2.2.2.setOther hba _ _
  have l6 : g3 < W6.heap.size := by have := (H5.out.2.2.1.lt g3 rfl).2; rw [hW6]; simpa [World.setCell] using this
  have HN := Lib.hid (New_one g3 ba cap3 W6 o6 a6 l6)
  have H6 := Lib.hid (And.intro k6 g6)
  have HW6 := Lib.hid hW6
  clear hba hW6 k6 g6 o6 a6 l6
  go_wp2_with fail
  rw [← HW6.out]
  refine HN.out.mono ?_
  rintro e w7 ⟨p, z, rfl, _, _, _, _, _, hb⟩
  have k7 := H6.out.1.below hb H6.out.1.lt
  have x8 := k7.get 8 (.slice none 0 0) rfl
  have x9 := k7.get 9 (.slice none 0 0) rfl
  have f8 := k7.free 8
  have f9 := k7.free 9
  have FIN := Lib.hid (show Wayed bk bm bb vals c4 c5 c6 w ((w7.setCell ⟨bk, 8, none⟩ (.slice (some ⟨p, 0, none⟩) 1 1)).setCell ⟨bk, 9, none⟩ (.slice (some ⟨z, 0, none⟩) 1 1)) from
    ⟨⟨_, _, _, (k7.set 8 _).set 9 _⟩, by
      have g7 := grown_trans H6.out.2 (grown_of hb bk)
      exact ⟨g7.os, g7.tape, g7.output, by have := g7.size; simpa [World.setCell] using this, fun i hi hne => (Below.heap_setCell _ _ _ _ (fun e => hne (by rw [e]))).trans ((Below.heap_setCell _ _ _ _ (fun e => hne (by rw [e]))).trans (g7.block i hi hne))⟩⟩)
  clear hb k7 x7 f7
  go_wp2_with fail
  go_ret
  exact ⟨rfl, FIN.out⟩
end Go.Proofs.Ytiimcckajjpbjaa
