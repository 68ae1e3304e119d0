/-
  Graphs of one node that goes on nowhere: who goes on to whom; what a climb begins with.
-/
import Derived.Test.YtiimcckajjpbjaaFOne2
namespace Go.Proofs.Ytiimcckajjpbjaa
open Go Go.RowKit

def ToldOne (w w' : World) (e : Ending) : Prop := ∃ b, e = .returned (oneV b) ∧ One b w' ∧ Below w.heap.size w w'

set_option maxRecDepth 100000 in
set_option maxHeartbeats 800000 in
theorem into_one (bg : Nat) (w : World) (h : One bg w) : Calls Try.prog 69 #[oneV bg] w fun e w' => ToldOne w w' e := by
  have hmk := fun w => mkS1 w
  have HH := Lib.hid h
  obtain ⟨W, hW⟩ : ∃ W, W = w.alloc (.cells #[.slice none 0 0] 47) := ⟨_, rfl⟩
  have cg : W.cell? ⟨bg, 0, none⟩ = some (.slice none 0 0) := by rw [hW]; exact (Blk.alloc h _).get 0 (.slice none 0 0) rfl
  have FIN := Lib.hid (show ToldOne w W (.returned (oneV w.heap.size)) by rw [hW]; exact ⟨_, rfl, Blk.new _ _ _, (Below.refl _ _).alloc (Nat.le_refl _) _⟩)
  have HW := Lib.hid hW
  clear h hW
  go_enter Try.func69, Try.ntmps69
  go_upto_region 2 with (fail)
  change Code.wp _ _ _ _ (w.alloc (.cells #[.slice none 0 0] 47))
  rw [← HW.out]
  go_wp2_with fail
  refine wp_loop_rounds 2 ?_
  rw [rounds_succ]
  go_wp2_with fail
  refine wp_loop_rounds 1 ?_
  rw [rounds_succ]
  go_wp2_with fail
  rw [rounds_succ]
  go_wp2_with fail
  go_ret
  exact FIN.out

def ToldOne2 (w w' : World) (e : Ending) : Prop := ∃ b, e = .returned (.tuple #[oneV b, I 0]) ∧ One b w' ∧ Below w.heap.size w w'
set_option maxRecDepth 100000 in
set_option maxHeartbeats 800000 in
theorem Into_one (bg : Nat) (w : World) (h : One bg w) : Calls Try.prog 56 #[oneV bg] w fun e w' => ToldOne2 w w' e := by
  have H := Lib.hid h
  clear h
  go_enter Try.func56, Try.ntmps56
  go_wp2_with fail
  refine (fault_one bg w H.out).mono ?_
  rintro e w' ⟨rfl, rfl⟩
  go_wp2_with fail
  refine (into_one bg w H.out).mono ?_
  rintro e w1 ⟨b, rfl, h1, h2⟩
  have FIN := Lib.hid (And.intro h1 h2)
  clear h1 h2
  go_wp2_with fail
  go_ret2
  exact ⟨_, rfl, FIN.out⟩

/-- What climbing begins with, of a graph of one node. -/
structure ClimbA (w : World) (bc b0 b1 b2 b3 : Nat) (W : World) : Prop where
  blk : Blk bc #[.slice (some ⟨b0, 0, none⟩) 1 1, .slice (some ⟨b1, 0, none⟩) 1 1, .slice (some ⟨b2, 0, none⟩) 1 1, .slice (some ⟨b3, 0, none⟩) 1 1, .slice none 0 0] 122 W
  k0 : Blk b0 #[I 0] 3 W
  k1 : Blk b1 #[I 0] 3 W
  k2 : Blk b2 #[I 0] 3 W
  k3 : Blk b3 #[I 0] 3 W
  bel : Below w.heap.size w W
  lc : w.heap.size ≤ bc
  l0 : w.heap.size ≤ b0
  l1 : w.heap.size ≤ b1
  l2 : w.heap.size ≤ b2
  l3 : w.heap.size ≤ b3
  nc : bc ≠ b0 ∧ bc ≠ b1 ∧ bc ≠ b2 ∧ bc ≠ b3
  nb : b0 ≠ b1 ∧ b0 ≠ b2 ∧ b0 ≠ b3 ∧ b1 ≠ b2 ∧ b1 ≠ b3 ∧ b2 ≠ b3

section
variable {w : World} {bc b0 b1 b2 b3 : Nat} {W W' : World}
theorem ClimbA.drew (h : ClimbA w bc b0 b1 b2 b3 W) : ClimbA w bc b0 b1 b2 b3 W.drew := ⟨h.blk, h.k0, h.k1, h.k2, h.k3, h.bel.drew, h.lc, h.l0, h.l1, h.l2, h.l3, h.nc, h.nb⟩
theorem ClimbA.set1 (h : ClimbA w bc b0 b1 b2 b3 W) : ClimbA w bc b0 b1 b2 b3 (W.setCell ⟨b1, 0, none⟩ (I 0)) := by
  obtain ⟨⟨n0, n1, n2, n3⟩, n4, n5, n6, n7, n8, n9⟩ := And.intro h.nc h.nb
  exact ⟨h.blk.setOther n1 _ _, h.k0.setOther n4 _ _, h.k1.set 0 _, h.k2.setOther (Ne.symm n7) _ _, h.k3.setOther (Ne.symm n8) _ _, h.bel.setCell (p := ⟨b1, 0, none⟩) h.l1 _, h.lc, h.l0, h.l1, h.l2, h.l3, h.nc, h.nb⟩
theorem ClimbA.set2 (h : ClimbA w bc b0 b1 b2 b3 W) : ClimbA w bc b0 b1 b2 b3 (W.setCell ⟨b2, 0, none⟩ (I 0)) := by
  obtain ⟨⟨n0, n1, n2, n3⟩, n4, n5, n6, n7, n8, n9⟩ := And.intro h.nc h.nb
  exact ⟨h.blk.setOther n2 _ _, h.k0.setOther n5 _ _, h.k1.setOther n7 _ _, h.k2.set 0 _, h.k3.setOther (Ne.symm n9) _ _, h.bel.setCell (p := ⟨b2, 0, none⟩) h.l2 _, h.lc, h.l0, h.l1, h.l2, h.l3, h.nc, h.nb⟩
theorem ClimbA.set3 (h : ClimbA w bc b0 b1 b2 b3 W) : ClimbA w bc b0 b1 b2 b3 (W.setCell ⟨b3, 0, none⟩ (I 0)) := by
  obtain ⟨⟨n0, n1, n2, n3⟩, n4, n5, n6, n7, n8, n9⟩ := And.intro h.nc h.nb
  exact ⟨h.blk.setOther n3 _ _, h.k0.setOther n6 _ _, h.k1.setOther n8 _ _, h.k2.setOther n9 _ _, h.k3.set 0 _, h.bel.setCell (p := ⟨b3, 0, none⟩) h.l3 _, h.lc, h.l0, h.l1, h.l2, h.l3, h.nc, h.nb⟩
end

/-- Four rows of one number, and a block behind them. -/
def fourW (w : World) (v0 v1 v2 v3 : Value) : World :=
  (((((w.alloc (.cells #[I 0] 3)).alloc (.cells #[I 0] 3)).alloc (.cells #[I 0] 3)).alloc (.cells #[I 0] 3)).alloc (.cells #[v0, v1, v2, v3, .slice none 0 0] 122)).drew
theorem fourA (w : World) (bc b0 b1 b2 b3 : Nat) (hc : bc = w.heap.size + 4) (h0 : w.heap.size ≤ b0 ∧ b0 < w.heap.size + 4) (h1 : w.heap.size ≤ b1 ∧ b1 < w.heap.size + 4) (h2 : w.heap.size ≤ b2 ∧ b2 < w.heap.size + 4) (h3 : w.heap.size ≤ b3 ∧ b3 < w.heap.size + 4)
    (n : b0 ≠ b1 ∧ b0 ≠ b2 ∧ b0 ≠ b3 ∧ b1 ≠ b2 ∧ b1 ≠ b3 ∧ b2 ≠ b3) :
    ClimbA w bc b0 b1 b2 b3 (fourW w (.slice (some ⟨b0, 0, none⟩) 1 1) (.slice (some ⟨b1, 0, none⟩) 1 1) (.slice (some ⟨b2, 0, none⟩) 1 1) (.slice (some ⟨b3, 0, none⟩) 1 1)) := by
  have key : ∀ i, i < 4 → ∀ o, Blk (w.heap.size + i) #[I 0] 3 ((((((w.alloc (.cells #[I 0] 3)).alloc (.cells #[I 0] 3)).alloc (.cells #[I 0] 3)).alloc (.cells #[I 0] 3)).alloc o).drew) := by
    intro i hi o
    match i, hi with
    | 0, _ => exact ((((Blk.new _ _ _).alloc _).alloc _).alloc _).alloc _
    | 1, _ => exact (((Blk.new' _ _ _ (by simp)).alloc _).alloc _).alloc _
    | 2, _ => exact ((Blk.new' _ _ _ (by simp)).alloc _).alloc _
    | 3, _ => exact (Blk.new' _ _ _ (by simp)).alloc _
    | n + 4, h => exact absurd h (by omega)
  have key' : ∀ b, w.heap.size ≤ b ∧ b < w.heap.size + 4 → ∀ o, Blk b #[I 0] 3 ((((((w.alloc (.cells #[I 0] 3)).alloc (.cells #[I 0] 3)).alloc (.cells #[I 0] 3)).alloc (.cells #[I 0] 3)).alloc o).drew) := by
    intro b hb o
    obtain ⟨i, rfl⟩ : ∃ i, b = w.heap.size + i := ⟨b - w.heap.size, by omega⟩
    exact key i (by omega) o
  subst hc
  refine ⟨Blk.new' _ _ _ (by simp), key' b0 h0 _, key' b1 h1 _, key' b2 h2 _, key' b3 h3 _, ?_, by omega, h0.1, h1.1, h2.1, h3.1, by omega, n⟩
  exact ((((((Below.refl _ _).alloc (Nat.le_refl _) _).alloc (by simp) _).alloc (by simp; omega) _).alloc (by simp; omega) _).alloc (by simp; omega) _).drew

set_option maxRecDepth 100000 in
set_option maxHeartbeats 4000000 in
theorem newClimb_one (w0 : World) (bw bf br bn : Nat) (v1 : Value) (g cap : Nat) (w : World) (h : WalkA w0 bw bf br (.slice (some ⟨g, 0, none⟩) 1 cap) v1 (-1) true w) :
    Calls Try.prog 79 #[.pointer (some ⟨bw, 0, none⟩), .slice (some ⟨bn, 0, none⟩) 1 1] w fun e w' => ∃ bc b0 b1 b2 b3, e = .returned (.pointer (some ⟨bc, 0, none⟩)) ∧ ClimbA w bc b0 b1 b2 b3 w' := by
  have hmk := fun w => mkI1 w
  have c0 := h.blk.get 0 (.slice (some ⟨g, 0, none⟩) 1 cap) rfl
  clear h
  go_enter Try.func79, Try.ntmps79
  go_upto_region 2 with (fail)
  go_cut [6] from 13 to 22 (fun p W => ∃ bc b0 b1 b2 b3, p = .pointer (some ⟨bc, 0, none⟩) ∧ ClimbA w bc b0 b1 b2 b3 W)
  case first =>
    have HA := Lib.hid (fourA w)
    go_region
    all_goals (go_wp2_with fail; go_meet; case rel => exact ⟨_, _, _, _, _, rfl, HA.out _ _ _ _ _ (by omega) (by omega) (by omega) (by omega) (by omega) (by omega)⟩)
  case rest =>
    obtain ⟨bc, b0, b1, b2, b3, rfl, hW⟩ := hcut
    obtain ⟨W, rfl⟩ : ∃ W, W = wc := ⟨_, rfl⟩
    have x2 := hW.blk.get 2 (.slice (some ⟨b2, 0, none⟩) 1 1) rfl
    have x3 := hW.blk.get 3 (.slice (some ⟨b3, 0, none⟩) 1 1) rfl
    have y2 := hW.k2.get 0 (I 0) rfl
    have y3 := hW.k3.get 0 (I 0) rfl
    have f2 := hW.k2.free 0
    have f3 := hW.k3.free 0
    have n9 := hW.nb.2.2.2.2.2
    obtain ⟨W1, hW1⟩ : ∃ W1, W1 = ((W.setCell ⟨b2, 0, none⟩ (I 0)).setCell ⟨b3, 0, none⟩ (I 0)).drew := ⟨_, rfl⟩
    have h1 : ClimbA w bc b0 b1 b2 b3 W1 := by rw [hW1]; exact hW.set2.set3.drew
    have H1 := Lib.hid h1
    have HW1 := Lib.hid hW1
    clear hW h1 hW1
    go_wp2_with fail
    refine wp_loop_rounds 2 ?_
    rw [rounds_succ]
    go_wp2_with fail
    go_region
    go_upto_region 9 with (fail)
    change Code.wp _ _ _ _ ((W.setCell ⟨b2, 0, none⟩ (I 0)).setCell ⟨b3, 0, none⟩ (I 0)).drew
    rw [← HW1.out]
    clear x2 x3 y2 y3 f2 f3 n9 HW1
    have x0 := H1.out.blk.get 0 (.slice (some ⟨b0, 0, none⟩) 1 1) rfl
    have x1 := H1.out.blk.get 1 (.slice (some ⟨b1, 0, none⟩) 1 1) rfl
    have y0 := H1.out.k0.get 0 (I 0) rfl
    have y1 := H1.out.k1.get 0 (I 0) rfl
    have f1 := H1.out.k1.free 0
    go_region
    have FIN := Lib.hid (H1.out.set1.drew)
    go_wp2_with fail
    rw [rounds_succ]
    go_wp2_with fail
    go_ret
    exact ⟨_, _, _, _, _, rfl, FIN.out⟩
end Go.Proofs.Ytiimcckajjpbjaa
