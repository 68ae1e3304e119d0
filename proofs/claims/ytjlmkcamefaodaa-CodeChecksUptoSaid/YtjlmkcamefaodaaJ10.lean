/-
  Joined: FOne3, FOne4, FClimb.
-/
import Derived.Test.YtjlmkcamefaodaaJ08
import Derived.Test.YtjlmkcamefaodaaJ09
/-! FOne3: Graphs of one node that goes on nowhere: who goes on to whom; what a climb begins with. -/

namespace Go.Proofs.Ytjlmkcamefaodaa
open Go Go.RowKit

def ToldOne (w w' : World) (e : Ending) : Prop := ∃ b, e = .returned (oneV b) ∧ One b w' ∧ Below w.heap.size w w'

set_option maxRecDepth 100000 in
set_option maxHeartbeats 800000 in
theorem into_one (bg : Nat) (w : World) (h : One bg w) : Calls Try.prog 56 #[oneV bg] w fun e w' => ToldOne w w' e := by
  have hmk := fun w => mkS1 w
  have HH := Lib.hid h
  obtain ⟨W, hW⟩ : ∃ W, W = w.alloc (.cells #[.slice none 0 0] 41) := ⟨_, rfl⟩
  have cg : W.cell? ⟨bg, 0, none⟩ = some (.slice none 0 0) := by rw [hW]; exact (Blk.alloc h _).get 0 (.slice none 0 0) rfl
  have FIN := Lib.hid (show ToldOne w W (.returned (oneV w.heap.size)) by rw [hW]; exact ⟨_, rfl, Blk.new _ _ _, (Below.refl _ _).alloc (Nat.le_refl _) _⟩)
  have HW := Lib.hid hW
  clear h hW
  go_enter Try.func56, Try.ntmps56
  go_upto_region 2 with (fail)
  change Code.wp _ _ _ _ (w.alloc (.cells #[.slice none 0 0] 41))
  rw [← HW.out]
  go_wp2_with fail
  refine wp_loop_rounds 2 ?_
  rw [rounds_succ]
  go_wp2_with fail
  refine wp_loop_rounds 1 ?_
  rw [rounds_succ]
  go_wp2_with fail
  rw [rounds_succ]
  go_wp2_with fail
  go_ret
  exact FIN.out

def ToldOne2 (w w' : World) (e : Ending) : Prop := ∃ b, e = .returned (.tuple #[oneV b, I 0]) ∧ One b w' ∧ Below w.heap.size w w'
set_option maxRecDepth 100000 in
set_option maxHeartbeats 800000 in
theorem Into_one (bg : Nat) (w : World) (h : One bg w) : Calls Try.prog 45 #[oneV bg] w fun e w' => ToldOne2 w w' e := by
  have H := Lib.hid h
  clear h
  go_enter Try.func45, Try.ntmps45
  go_wp2_with fail
  refine (fault_one bg w H.out).mono ?_
  rintro e w' ⟨rfl, rfl⟩
  go_wp2_with fail
  refine (into_one bg w H.out).mono ?_
  rintro e w1 ⟨b, rfl, h1, h2⟩
  have FIN := Lib.hid (And.intro h1 h2)
  clear h1 h2
  go_wp2_with fail
  go_ret2
  exact ⟨_, rfl, FIN.out⟩

/-- What climbing begins with, of a graph of one node. -/
structure ClimbA (w : World) (bc b0 b1 b2 b3 : Nat) (W : World) : Prop where
  blk : Blk bc #[.slice (some ⟨b0, 0, none⟩) 1 1, .slice (some ⟨b1, 0, none⟩) 1 1, .slice (some ⟨b2, 0, none⟩) 1 1, .slice (some ⟨b3, 0, none⟩) 1 1, .slice none 0 0] 110 W
  k0 : Blk b0 #[I 0] 3 W
  k1 : Blk b1 #[I 0] 3 W
  k2 : Blk b2 #[I 0] 3 W
  k3 : Blk b3 #[I 0] 3 W
  bel : Below w.heap.size w W
  lc : w.heap.size ≤ bc
  l0 : w.heap.size ≤ b0
  l1 : w.heap.size ≤ b1
  l2 : w.heap.size ≤ b2
  l3 : w.heap.size ≤ b3
  nc : bc ≠ b0 ∧ bc ≠ b1 ∧ bc ≠ b2 ∧ bc ≠ b3
  nb : b0 ≠ b1 ∧ b0 ≠ b2 ∧ b0 ≠ b3 ∧ b1 ≠ b2 ∧ b1 ≠ b3 ∧ b2 ≠ b3

section
variable {w : World} {bc b0 b1 b2 b3 : Nat} {W W' : World}
theorem ClimbA.drew (h : ClimbA w bc b0 b1 b2 b3 W) : ClimbA w bc b0 b1 b2 b3 W.drew := ⟨h.blk, h.k0, h.k1, h.k2, h.k3, h.bel.drew, h.lc, h.l0, h.l1, h.l2, h.l3, h.nc, h.nb⟩
theorem ClimbA.set1 (h : ClimbA w bc b0 b1 b2 b3 W) : ClimbA w bc b0 b1 b2 b3 (W.setCell ⟨b1, 0, none⟩ (I 0)) := by
  obtain ⟨⟨n0, n1, n2, n3⟩, n4, n5, n6, n7, n8, n9⟩ := And.intro h.nc h.nb
  exact ⟨h.blk.setOther n1 _ _, h.k0.setOther n4 _ _, h.k1.set 0 _, h.k2.setOther (Ne.symm n7) _ _, h.k3.setOther (Ne.symm n8) _ _, h.bel.setCell (p := ⟨b1, 0, none⟩) h.l1 _, h.lc, h.l0, h.l1, h.l2, h.l3, h.nc, h.nb⟩
theorem ClimbA.set2 (h : ClimbA w bc b0 b1 b2 b3 W) : ClimbA w bc b0 b1 b2 b3 (W.setCell ⟨b2, 0, none⟩ (I 0)) := by
  obtain ⟨⟨n0, n1, n2, n3⟩, n4, n5, n6, n7, n8, n9⟩ := And.intro h.nc h.nb
  exact ⟨h.blk.setOther n2 _ _, h.k0.setOther n5 _ _, h.k1.setOther n7 _ _, h.k2.set 0 _, h.k3.setOther (Ne.symm n9) _ _, h.bel.setCell (p := ⟨b2, 0, none⟩) h.l2 _, h.lc, h.l0, h.l1, h.l2, h.l3, h.nc, h.nb⟩
theorem ClimbA.set3 (h : ClimbA w bc b0 b1 b2 b3 W) : ClimbA w bc b0 b1 b2 b3 (W.setCell ⟨b3, 0, none⟩ (I 0)) := by
  obtain ⟨⟨n0, n1, n2, n3⟩, n4, n5, n6, n7, n8, n9⟩ := And.intro h.nc h.nb
  exact ⟨h.blk.setOther n3 _ _, h.k0.setOther n6 _ _, h.k1.setOther n8 _ _, h.k2.setOther n9 _ _, h.k3.set 0 _, h.bel.setCell (p := ⟨b3, 0, none⟩) h.l3 _, h.lc, h.l0, h.l1, h.l2, h.l3, h.nc, h.nb⟩
end

/-- Four rows of one number, and a block behind them. -/
def fourW (w : World) (v0 v1 v2 v3 : Value) : World :=
  (((((w.alloc (.cells #[I 0] 3)).alloc (.cells #[I 0] 3)).alloc (.cells #[I 0] 3)).alloc (.cells #[I 0] 3)).alloc (.cells #[v0, v1, v2, v3, .slice none 0 0] 110)).drew
theorem fourA (w : World) (bc b0 b1 b2 b3 : Nat) (hc : bc = w.heap.size + 4) (h0 : w.heap.size ≤ b0 ∧ b0 < w.heap.size + 4) (h1 : w.heap.size ≤ b1 ∧ b1 < w.heap.size + 4) (h2 : w.heap.size ≤ b2 ∧ b2 < w.heap.size + 4) (h3 : w.heap.size ≤ b3 ∧ b3 < w.heap.size + 4)
    (n : b0 ≠ b1 ∧ b0 ≠ b2 ∧ b0 ≠ b3 ∧ b1 ≠ b2 ∧ b1 ≠ b3 ∧ b2 ≠ b3) :
    ClimbA w bc b0 b1 b2 b3 (fourW w (.slice (some ⟨b0, 0, none⟩) 1 1) (.slice (some ⟨b1, 0, none⟩) 1 1) (.slice (some ⟨b2, 0, none⟩) 1 1) (.slice (some ⟨b3, 0, none⟩) 1 1)) := by
  have key : ∀ i, i < 4 → ∀ o, Blk (w.heap.size + i) #[I 0] 3 ((((((w.alloc (.cells #[I 0] 3)).alloc (.cells #[I 0] 3)).alloc (.cells #[I 0] 3)).alloc (.cells #[I 0] 3)).alloc o).drew) := by
    intro i hi o
    match i, hi with
    | 0, _ => exact ((((Blk.new _ _ _).alloc _).alloc _).alloc _).alloc _
    | 1, _ => exact (((Blk.new' _ _ _ (by simp)).alloc _).alloc _).alloc _
    | 2, _ => exact ((Blk.new' _ _ _ (by simp)).alloc _).alloc _
    | 3, _ => exact (Blk.new' _ _ _ (by simp)).alloc _
    | n + 4, h => exact absurd h (by omega)
  have key' : ∀ b, w.heap.size ≤ b ∧ b < w.heap.size + 4 → ∀ o, Blk b #[I 0] 3 ((((((w.alloc (.cells #[I 0] 3)).alloc (.cells #[I 0] 3)).alloc (.cells #[I 0] 3)).alloc (.cells #[I 0] 3)).alloc o).drew) := by
    intro b hb o
    obtain ⟨i, rfl⟩ : ∃ i, b = w.heap.size + i := ⟨b - w.heap.size, by omega⟩
    exact key i (by omega) o
  subst hc
  refine ⟨Blk.new' _ _ _ (by simp), key' b0 h0 _, key' b1 h1 _, key' b2 h2 _, key' b3 h3 _, ?_, by omega, h0.1, h1.1, h2.1, h3.1, by omega, n⟩
  exact ((((((Below.refl _ _).alloc (Nat.le_refl _) _).alloc (by simp) _).alloc (by simp; omega) _).alloc (by simp; omega) _).alloc (by simp; omega) _).drew

set_option maxRecDepth 100000 in
set_option maxHeartbeats 4000000 in
theorem newClimb_one (w0 : World) (bw bf br bn : Nat) (v1 : Value) (g cap : Nat) (w : World) (h : WalkA w0 bw bf br (.slice (some ⟨g, 0, none⟩) 1 cap) v1 (-1) true w) :
    Calls Try.prog 64 #[.pointer (some ⟨bw, 0, none⟩), .slice (some ⟨bn, 0, none⟩) 1 1] w fun e w' => ∃ bc b0 b1 b2 b3, e = .returned (.pointer (some ⟨bc, 0, none⟩)) ∧ ClimbA w bc b0 b1 b2 b3 w' := by
  have hmk := fun w => mkI1 w
  have c0 := h.blk.get 0 (.slice (some ⟨g, 0, none⟩) 1 cap) rfl
  clear h
  go_enter Try.func64, Try.ntmps64
  go_upto_region 2 with (fail)
  go_cut [6] from 13 to 22 (fun p W => ∃ bc b0 b1 b2 b3, p = .pointer (some ⟨bc, 0, none⟩) ∧ ClimbA w bc b0 b1 b2 b3 W)
  case first =>
    have HA := Lib.hid (fourA w)
    go_region
    all_goals (go_wp2_with fail; go_meet; case rel => exact ⟨_, _, _, _, _, rfl, HA.out _ _ _ _ _ (by omega) (by omega) (by omega) (by omega) (by omega) (by omega)⟩)
  case rest =>
    obtain ⟨bc, b0, b1, b2, b3, rfl, hW⟩ := hcut
    obtain ⟨W, rfl⟩ : ∃ W, W = wc := ⟨_, rfl⟩
    have x2 := hW.blk.get 2 (.slice (some ⟨b2, 0, none⟩) 1 1) rfl
    have x3 := hW.blk.get 3 (.slice (some ⟨b3, 0, none⟩) 1 1) rfl
    have y2 := hW.k2.get 0 (I 0) rfl
    have y3 := hW.k3.get 0 (I 0) rfl
    have f2 := hW.k2.free 0
    have f3 := hW.k3.free 0
    have n9 := hW.nb.2.2.2.2.2
    obtain ⟨W1, hW1⟩ : ∃ W1, W1 = ((W.setCell ⟨b2, 0, none⟩ (I 0)).setCell ⟨b3, 0, none⟩ (I 0)).drew := ⟨_, rfl⟩
    have h1 : ClimbA w bc b0 b1 b2 b3 W1 := by rw [hW1]; exact hW.set2.set3.drew
    have H1 := Lib.hid h1
    have HW1 := Lib.hid hW1
    clear hW h1 hW1
    go_wp2_with fail
    refine wp_loop_rounds 2 ?_
    rw [rounds_succ]
    go_wp2_with fail
    go_region
    go_upto_region 9 with (fail)
    change Code.wp _ _ _ _ ((W.setCell ⟨b2, 0, none⟩ (I 0)).setCell ⟨b3, 0, none⟩ (I 0)).drew
    rw [← HW1.out]
    clear x2 x3 y2 y3 f2 f3 n9 HW1
    have x0 := H1.out.blk.get 0 (.slice (some ⟨b0, 0, none⟩) 1 1) rfl
    have x1 := H1.out.blk.get 1 (.slice (some ⟨b1, 0, none⟩) 1 1) rfl
    have y0 := H1.out.k0.get 0 (I 0) rfl
    have y1 := H1.out.k1.get 0 (I 0) rfl
    have f1 := H1.out.k1.free 0
    go_region
    have FIN := Lib.hid (H1.out.set1.drew)
    go_wp2_with fail
    rw [rounds_succ]
    go_wp2_with fail
    go_ret
    exact ⟨_, _, _, _, _, rfl, FIN.out⟩
end Go.Proofs.Ytjlmkcamefaodaa

/-! FOne4: Graphs of one node that goes on nowhere: the nearest above. -/

namespace Go.Proofs.Ytjlmkcamefaodaa
open Go Go.RowKit

def NearT (w : World) (p : Value) (W : World) : Prop := ∃ a b, p = .pointer (some ⟨a, 0, none⟩) ∧ Blk a #[.slice (some ⟨b, 0, none⟩) 1 1] 41 W ∧ Blk b #[I 0] 3 W ∧ w.heap.size ≤ b ∧ Below w.heap.size w W

theorem five_get (w : World) (o1 o2 o3 o4 o5 : Obj) (i : Nat) (o : Obj) (hi : [o1, o2, o3, o4, o5][i]? = some o) : ((((((w.alloc o1).alloc o2).alloc o3).alloc o4).alloc o5).drew).heap[w.heap.size + i]? = some o := by
  show (((((w.alloc o1).alloc o2).alloc o3).alloc o4).alloc o5).heap[w.heap.size + i]? = some o
  match i, hi with
  | 0, hi =>
    obtain rfl : o1 = o := by simpa using hi
    rw [heap_alloc_old _ _ (by simp <;> omega), heap_alloc_old _ _ (by simp <;> omega), heap_alloc_old _ _ (by simp <;> omega), heap_alloc_old _ _ (by simp)]
    exact heap_alloc_new w _
  | 1, hi =>
    obtain rfl : o2 = o := by simpa using hi
    rw [heap_alloc_old _ _ (by simp <;> omega), heap_alloc_old _ _ (by simp <;> omega), heap_alloc_old _ _ (by simp)]
    have := heap_alloc_new (w.alloc o1) o2
    simpa using this
  | 2, hi =>
    obtain rfl : o3 = o := by simpa using hi
    rw [heap_alloc_old _ _ (by simp <;> omega), heap_alloc_old _ _ (by simp)]
    have := heap_alloc_new ((w.alloc o1).alloc o2) o3
    simpa using this
  | 3, hi =>
    obtain rfl : o4 = o := by simpa using hi
    rw [heap_alloc_old _ _ (by simp)]
    have := heap_alloc_new (((w.alloc o1).alloc o2).alloc o3) o4
    simpa using this
  | 4, hi =>
    obtain rfl : o5 = o := by simpa using hi
    have := heap_alloc_new ((((w.alloc o1).alloc o2).alloc o3).alloc o4) o5
    simpa using this
  | n + 5, hi => simp at hi
theorem near_five (w : World) (o1 o2 o3 o4 o5 : Obj) (i j : Nat) (a b : Nat) (ha : a = w.heap.size + i) (hb : b = w.heap.size + j) (hi : [o1, o2, o3, o4, o5][i]? = some (.cells #[.slice (some ⟨b, 0, none⟩) 1 1] 41))
    (hj : [o1, o2, o3, o4, o5][j]? = some (.cells #[I 0] 3)) : NearT w (.pointer (some ⟨a, 0, none⟩)) ((((((w.alloc o1).alloc o2).alloc o3).alloc o4).alloc o5).drew) := by
  subst ha hb
  exact ⟨_, _, rfl, five_get w o1 o2 o3 o4 o5 i _ hi, five_get w o1 o2 o3 o4 o5 j _ hj, by omega, ((((((Below.refl _ _).alloc (Nat.le_refl _) _).alloc (by simp) _).alloc (by simp; omega) _).alloc (by simp; omega) _).alloc (by simp; omega) _).drew⟩

set_option maxRecDepth 100000 in
set_option maxHeartbeats 4000000 in
theorem nearest_one (w0 : World) (bc b0 b1 b2 b3 : Nat) (w : World) (h : ClimbA w0 bc b0 b1 b2 b3 w) :
    Calls Try.prog 66 #[.pointer (some ⟨bc, 0, none⟩)] w fun e w' => Told w w' [0] e := by
  have hmk := fun w => mkI1 w
  have c0 := h.blk.get 0 (.slice (some ⟨b0, 0, none⟩) 1 1) rfl
  have HF := Lib.hid (near_five w)
  clear h
  go_enter Try.func66, Try.ntmps66
  go_upto_region 2 with (fail)
  go_cut [4, 5, 6] from 16 to 21 (fun p q r W => NearT w p W)
  case first =>
    go_region
    all_goals (go_wp2_with fail; go_meet; case rel => first | exact HF.out _ _ _ _ _ 0 1 _ _ rfl rfl rfl rfl | exact HF.out _ _ _ _ _ 0 2 _ _ rfl rfl rfl rfl | exact HF.out _ _ _ _ _ 0 3 _ _ rfl rfl rfl rfl | exact HF.out _ _ _ _ _ 0 4 _ _ rfl rfl rfl rfl | exact HF.out _ _ _ _ _ 1 0 _ _ rfl rfl rfl rfl | exact HF.out _ _ _ _ _ 1 2 _ _ rfl rfl rfl rfl | exact HF.out _ _ _ _ _ 1 3 _ _ rfl rfl rfl rfl | exact HF.out _ _ _ _ _ 1 4 _ _ rfl rfl rfl rfl | exact HF.out _ _ _ _ _ 2 0 _ _ rfl rfl rfl rfl | exact HF.out _ _ _ _ _ 2 1 _ _ rfl rfl rfl rfl | exact HF.out _ _ _ _ _ 2 3 _ _ rfl rfl rfl rfl | exact HF.out _ _ _ _ _ 2 4 _ _ rfl rfl rfl rfl | exact HF.out _ _ _ _ _ 3 0 _ _ rfl rfl rfl rfl | exact HF.out _ _ _ _ _ 3 1 _ _ rfl rfl rfl rfl | exact HF.out _ _ _ _ _ 3 2 _ _ rfl rfl rfl rfl | exact HF.out _ _ _ _ _ 3 4 _ _ rfl rfl rfl rfl | exact HF.out _ _ _ _ _ 4 0 _ _ rfl rfl rfl rfl | exact HF.out _ _ _ _ _ 4 1 _ _ rfl rfl rfl rfl | exact HF.out _ _ _ _ _ 4 2 _ _ rfl rfl rfl rfl | exact HF.out _ _ _ _ _ 4 3 _ _ rfl rfl rfl rfl)
  case rest =>
    obtain ⟨a, b, rfl, h1, h2, h3, h4⟩ := hcut
    obtain ⟨W, rfl⟩ : ∃ W, W = wc := ⟨_, rfl⟩
    have c1 := h1.get 0 (.slice (some ⟨b, 0, none⟩) 1 1) rfl
    have FIN := Lib.hid (show Told w W [0] (.returned (.slice (some ⟨b, 0, none⟩) 1 1)) from ⟨_, rfl, h2.owns h3 (by unfold maxLen; omega) rfl, h4⟩)
    clear h1 h2 h3 h4
    go_wp2_with fail
    refine wp_loop_rounds 1 ?_
    rw [rounds_succ]
    go_wp2_with fail
    go_ret
    exact FIN.out

theorem WalkA.below {w0 : World} {bw bf br : Nat} {v0 v1 : Value} {f : Int} {r : Bool} {w W : World} (h : WalkA w0 bw bf br v0 v1 f r w) (hb : Below w.heap.size w W) : WalkA w0 bw bf br v0 v1 f r W :=
  ⟨h.blk.below hb h.blk.lt, h.frm.below hb h.frm.lt, h.rch.below hb h.rch.lt, h.bel.trans (hb.mono h.bel.size), h.lw, h.lf, h.lr, h.nf, h.nr, h.fr⟩

/-- What an answer of one node says of what stands above it: nothing. -/
def ToldNone (w w' : World) (e : Ending) : Prop := ∃ b, e = .returned (.slice (some ⟨b, 0, none⟩) 1 1) ∧ Blk b #[I (-1)] 3 w' ∧ w.heap.size ≤ b ∧ Below w.heap.size w w'
def TwoT (w : World) (p q : Value) (W : World) : Prop := ∃ a b, p = .slice (some ⟨a, 0, none⟩) 1 1 ∧ q = .slice (some ⟨b, 0, none⟩) 1 1 ∧ Blk a #[I 0] 3 W ∧ Blk b #[I 0] 3 W ∧ w.heap.size ≤ a ∧ w.heap.size ≤ b ∧ a ≠ b ∧ Below w.heap.size w W

set_option maxRecDepth 100000 in
set_option maxHeartbeats 4000000 in
theorem above_one (w0 : World) (bw bf br bi : Nat) (v1 : Value) (g cap : Nat) (base : Nat) (w : World) (h : WalkA w0 bw bf br (.slice (some ⟨g, 0, none⟩) 1 cap) v1 (-1) true w) (hn : Nums w base (.slice (some ⟨g, 0, none⟩) 1 cap) [0]) :
    Calls Try.prog 55 #[.pointer (some ⟨bw, 0, none⟩), oneV bi] w fun e w' => ToldNone w w' e := by
  have hmk := fun w => mkI1 w
  have H := Lib.hid (And.intro h hn)
  clear h hn
  go_enter Try.func55, Try.ntmps55
  go_upto_region 1 with (fail)
  go_cut [5, 6] from 17 to 22 (fun p q W => TwoT w p q W)
  case first =>
    go_region
    · go_wp2_with fail
      go_meet
      case rel => exact ⟨_, _, rfl, rfl, ((Blk.new _ _ _).alloc _), (Blk.new' _ _ _ (by simp)), by omega, by omega, by omega, (((Below.refl _ _).alloc (Nat.le_refl _) _).alloc (by simp) _).drew⟩
    · go_wp2_with fail
      go_meet
      case rel => exact ⟨_, _, rfl, rfl, (Blk.new' _ _ _ (by simp)), ((Blk.new _ _ _).alloc _), by omega, by omega, by omega, (((Below.refl _ _).alloc (Nat.le_refl _) _).alloc (by simp) _).drew⟩
  case rest =>
    obtain ⟨a, b, rfl, rfl, h1, h2, h3, h4, h5, h6⟩ := hcut
    obtain ⟨W, rfl⟩ : ∃ W, W = wc := ⟨_, rfl⟩
    have c1 := h1.get 0 (I 0) rfl
    have f1 := h1.free 0
    obtain ⟨W1, hW1⟩ : ∃ W1, W1 = W.setCell ⟨a, 0, none⟩ (I (-1)) := ⟨_, rfl⟩
    have k1 : Blk a #[I (-1)] 3 W1 := by rw [hW1]; exact h1.set 0 _
    have k2 : Blk b #[I 0] 3 W1 := by rw [hW1]; exact h2.setOther (Ne.symm h5) _ _
    have k6 : Below w.heap.size w W1 := by rw [hW1]; exact h6.setCell (p := ⟨a, 0, none⟩) h3 _
    have c2 := k2.get 0 (I 0) rfl
    have f2 := k2.free 0
    have hlw := H.out.1.blk.lt
    have hlg := (H.out.2.lt g rfl).2
    have cw : W1.cell? ⟨bw, 0, none⟩ = some (.slice (some ⟨g, 0, none⟩) 1 cap) := (H.out.1.blk.below k6 hlw).get 0 (.slice (some ⟨g, 0, none⟩) 1 cap) rfl
    have cg : W1.cell? ⟨g, 0, none⟩ = some (I 0) := cell_below k6 hlg (H.out.2.cells (g := g) rfl 0 (I 0) rfl)
    have hab := h5
    have HA := Lib.hid h3
    have H1 := Lib.hid (And.intro k1 (And.intro k2 (And.intro k6 (And.intro h3 h4))))
    have HW1 := Lib.hid hW1
    clear h1 h2 h3 h4 h5 h6 k1 k2 k6 hW1 hlw hlg
    go_wp2_with fail
    refine wp_loop_rounds 2 ?_
    rw [rounds_succ]
    go_wp2_with fail
    rw [rounds_succ]
    go_upto_region 7 with (fail)
    change Code.wp _ _ _ _ (W.setCell ⟨a, 0, none⟩ (I (-1)))
    rw [← HW1.out]
    clear HW1 c1 f1
    obtain ⟨W2, hW2⟩ : ∃ W2, W2 = W1.setCell ⟨b, 0, none⟩ (I 0) := ⟨_, rfl⟩
    have k1 : Blk a #[I (-1)] 3 W2 := by rw [hW2]; exact H1.out.1.setOther hab _ _
    have k2 : Blk b #[I 0] 3 W2 := by rw [hW2]; exact H1.out.2.1.set 0 _
    have k6 : Below w.heap.size w W2 := by rw [hW2]; exact H1.out.2.2.1.setCell (p := ⟨b, 0, none⟩) H1.out.2.2.2.2 _
    have cw2 : W2.cell? ⟨bw, 0, none⟩ = some (.slice (some ⟨g, 0, none⟩) 1 cap) := (H.out.1.blk.below k6 H.out.1.blk.lt).get 0 (.slice (some ⟨g, 0, none⟩) 1 cap) rfl
    have H2 := Lib.hid (And.intro k1 (And.intro k2 (And.intro k6 (H.out.1.below k6))))
    have HW2 := Lib.hid hW2
    clear k1 k2 k6 hW2
    go_wp2_with fail
    refine wp_loop_rounds 2 ?_
    rw [rounds_succ]
    go_wp2_with fail
    rw [rounds_succ]
    go_upto_region 12 with (fail)
    change Code.wp _ _ _ _ (W1.setCell ⟨b, 0, none⟩ (I 0))
    rw [← HW2.out]
    clear HW2 c2 f2 cw cg H1
    go_wp2_with fail
    refine (newClimb_one w0 bw bf br b v1 g cap W2 H2.out.2.2.2).mono ?_
    rintro e W3 ⟨bc, b0, b1, b2, b3, rfl, hc⟩
    have k1 := H2.out.1.below hc.bel H2.out.1.lt
    have k6 := H2.out.2.2.1.trans (hc.bel.mono H2.out.2.2.1.size)
    have cw3 : W3.cell? ⟨bw, 0, none⟩ = some (.slice (some ⟨g, 0, none⟩) 1 cap) := (H.out.1.blk.below k6 H.out.1.blk.lt).get 0 (.slice (some ⟨g, 0, none⟩) 1 cap) rfl
    have H3 := Lib.hid (And.intro k1 (And.intro k6 hc))
    clear k1 k6 hc cw2
    go_wp2_with fail
    refine wp_loop_rounds 1 ?_
    rw [rounds_succ]
    go_wp2_with fail
    refine (nearest_one W2 bc b0 b1 b2 b3 W3 H3.out.2.2).mono ?_
    rintro e W4 ⟨v, rfl, ho, hb⟩
    obtain ⟨g1, cap1, rfl⟩ : ∃ g cap, v = .slice (some ⟨g, 0, none⟩) 1 cap := by
      rcases own_slice ho with ⟨_, h⟩ | ⟨g, cap, h⟩
      · exact absurd h (by decide)
      · exact ⟨g, cap, h⟩
    have cn : W4.cell? ⟨g1, 0, none⟩ = some (I 0) := ho.cells (g := g1) rfl 0 (I 0) rfl
    have FIN := Lib.hid (show ToldNone w W4 (.returned (.slice (some ⟨a, 0, none⟩) 1 1)) from ⟨a, rfl, H3.out.1.below hb H3.out.1.lt, HA.out, H3.out.2.1.trans (hb.mono H3.out.2.1.size)⟩)
    clear ho hb cw3
    go_wp2_with fail
    refine wp_loop_rounds 2 ?_
    rw [rounds_succ]
    go_wp2_with fail
    rw [rounds_succ]
    go_wp2_with fail
    go_ret
    exact FIN.out
end Go.Proofs.Ytjlmkcamefaodaa

/-! FClimb: What climbing through any graph begins with. -/

namespace Go.Proofs.Ytjlmkcamefaodaa
open Go Go.RowKit Fl

/-- A climb in memory: four rows of m numbers, and a path elsewhere. -/
structure ClimbG (base bc b0 b1 b2 b3 m : Nat) (fr up hf ls : List Nat) (pv : Value) (W : World) : Prop where
  blk : Blk bc #[.slice (some ⟨b0, 0, none⟩) m m, .slice (some ⟨b1, 0, none⟩) m m, .slice (some ⟨b2, 0, none⟩) m m, .slice (some ⟨b3, 0, none⟩) m m, pv] 110 W
  k0 : Blk b0 (arrN fr) 3 W
  k1 : Blk b1 (arrN up) 3 W
  k2 : Blk b2 (arrN hf) 3 W
  k3 : Blk b3 (arrN ls) 3 W
  lc : base ≤ bc
  l0 : base ≤ b0
  l1 : base ≤ b1
  l2 : base ≤ b2
  l3 : base ≤ b3
  nc : bc ≠ b0 ∧ bc ≠ b1 ∧ bc ≠ b2 ∧ bc ≠ b3
  nb : b0 ≠ b1 ∧ b0 ≠ b2 ∧ b0 ≠ b3 ∧ b1 ≠ b2 ∧ b1 ≠ b3 ∧ b2 ≠ b3
  e0 : fr.length = m
  e1 : up.length = m
  e2 : hf.length = m
  e3 : ls.length = m
section
variable {base bc b0 b1 b2 b3 m : Nat} {fr up hf ls : List Nat} {pv : Value} {W W' : World}
theorem ClimbG.heap (h : ClimbG base bc b0 b1 b2 b3 m fr up hf ls pv W) (e : W'.heap = W.heap) : ClimbG base bc b0 b1 b2 b3 m fr up hf ls pv W' := by
  have e' : ∀ k : Nat, W'.heap[k]? = W.heap[k]? := fun k => by rw [e]
  exact ⟨(e' _).trans h.blk, (e' _).trans h.k0, (e' _).trans h.k1, (e' _).trans h.k2, (e' _).trans h.k3, h.lc, h.l0, h.l1, h.l2, h.l3, h.nc, h.nb, h.e0, h.e1, h.e2, h.e3⟩
theorem ClimbG.set0 (h : ClimbG base bc b0 b1 b2 b3 m fr up hf ls pv W) (j x : Nat) : ClimbG base bc b0 b1 b2 b3 m (fr.set j x) up hf ls pv (W.setCell ⟨b0, j, none⟩ (I (x : Int))) := by
  obtain ⟨⟨n0, n1, n2, n3⟩, n4, n5, n6, n7, n8, n9⟩ := And.intro h.nc h.nb
  exact ⟨h.blk.setOther n0 _ _, by have := h.k0.set j (I (x : Int)); rw [arrN_set] at this; exact this, h.k1.setOther (Ne.symm n4) _ _, h.k2.setOther (Ne.symm n5) _ _, h.k3.setOther (Ne.symm n6) _ _, h.lc, h.l0, h.l1, h.l2, h.l3, h.nc, h.nb, by rw [List.length_set]; exact h.e0, h.e1, h.e2, h.e3⟩
theorem ClimbG.set1 (h : ClimbG base bc b0 b1 b2 b3 m fr up hf ls pv W) (j x : Nat) : ClimbG base bc b0 b1 b2 b3 m fr (up.set j x) hf ls pv (W.setCell ⟨b1, j, none⟩ (I (x : Int))) := by
  obtain ⟨⟨n0, n1, n2, n3⟩, n4, n5, n6, n7, n8, n9⟩ := And.intro h.nc h.nb
  exact ⟨h.blk.setOther n1 _ _, h.k0.setOther n4 _ _, by have := h.k1.set j (I (x : Int)); rw [arrN_set] at this; exact this, h.k2.setOther (Ne.symm n7) _ _, h.k3.setOther (Ne.symm n8) _ _, h.lc, h.l0, h.l1, h.l2, h.l3, h.nc, h.nb, h.e0, by rw [List.length_set]; exact h.e1, h.e2, h.e3⟩
theorem ClimbG.set2 (h : ClimbG base bc b0 b1 b2 b3 m fr up hf ls pv W) (j x : Nat) : ClimbG base bc b0 b1 b2 b3 m fr up (hf.set j x) ls pv (W.setCell ⟨b2, j, none⟩ (I (x : Int))) := by
  obtain ⟨⟨n0, n1, n2, n3⟩, n4, n5, n6, n7, n8, n9⟩ := And.intro h.nc h.nb
  exact ⟨h.blk.setOther n2 _ _, h.k0.setOther n5 _ _, h.k1.setOther n7 _ _, by have := h.k2.set j (I (x : Int)); rw [arrN_set] at this; exact this, h.k3.setOther (Ne.symm n9) _ _, h.lc, h.l0, h.l1, h.l2, h.l3, h.nc, h.nb, h.e0, h.e1, by rw [List.length_set]; exact h.e2, h.e3⟩
theorem ClimbG.set3 (h : ClimbG base bc b0 b1 b2 b3 m fr up hf ls pv W) (j x : Nat) : ClimbG base bc b0 b1 b2 b3 m fr up hf (ls.set j x) pv (W.setCell ⟨b3, j, none⟩ (I (x : Int))) := by
  obtain ⟨⟨n0, n1, n2, n3⟩, n4, n5, n6, n7, n8, n9⟩ := And.intro h.nc h.nb
  exact ⟨h.blk.setOther n3 _ _, h.k0.setOther n6 _ _, h.k1.setOther n8 _ _, h.k2.setOther n9 _ _, by have := h.k3.set j (I (x : Int)); rw [arrN_set] at this; exact this, h.lc, h.l0, h.l1, h.l2, h.l3, h.nc, h.nb, h.e0, h.e1, h.e2, by rw [List.length_set]; exact h.e3⟩
theorem ClimbG.setP (h : ClimbG base bc b0 b1 b2 b3 m fr up hf ls pv W) (u : Value) : ClimbG base bc b0 b1 b2 b3 m fr up hf ls u (W.setCell ⟨bc, 4, none⟩ u) := by
  obtain ⟨n0, n1, n2, n3⟩ := h.nc
  exact ⟨h.blk.set 4 u, h.k0.setOther (Ne.symm n0) _ _, h.k1.setOther (Ne.symm n1) _ _, h.k2.setOther (Ne.symm n2) _ _, h.k3.setOther (Ne.symm n3) _ _, h.lc, h.l0, h.l1, h.l2, h.l3, h.nc, h.nb, h.e0, h.e1, h.e2, h.e3⟩
theorem ClimbG.grown {row : Option Nat} (h : ClimbG base bc b0 b1 b2 b3 m fr up hf ls pv W) (hg : W.grownBy W' row) (h0 : some bc ≠ row) (h1 : some b0 ≠ row) (h2 : some b1 ≠ row) (h3 : some b2 ≠ row) (h4 : some b3 ≠ row) : ClimbG base bc b0 b1 b2 b3 m fr up hf ls pv W' :=
  ⟨h.blk.other hg h0, h.k0.other hg h1, h.k1.other hg h2, h.k2.other hg h3, h.k3.other hg h4, h.lc, h.l0, h.l1, h.l2, h.l3, h.nc, h.nb, h.e0, h.e1, h.e2, h.e3⟩
end

def zerosN (m : Nat) : Obj := .cells (arrZ (List.replicate m 0)) 3
def fourV (w : World) (m : Nat) (v0 v1 v2 v3 : Value) : World :=
  (((((w.alloc (zerosN m)).alloc (zerosN m)).alloc (zerosN m)).alloc (zerosN m)).alloc (.cells #[v0, v1, v2, v3, .slice none 0 0] 110)).drew
theorem zerosN_blk (w : World) (b m : Nat) (h : w.heap[b]? = some (zerosN m)) : Blk b (arrN (List.replicate m 0)) 3 w := by
  rw [show arrN (List.replicate m 0) = arrZ (List.replicate m 0) by apply Array.toList_inj.1; simp]
  exact h
theorem fourG (w : World) (m bc b0 b1 b2 b3 : Nat) (hc : bc = w.heap.size + 4) (h0 : w.heap.size ≤ b0 ∧ b0 < w.heap.size + 4) (h1 : w.heap.size ≤ b1 ∧ b1 < w.heap.size + 4) (h2 : w.heap.size ≤ b2 ∧ b2 < w.heap.size + 4) (h3 : w.heap.size ≤ b3 ∧ b3 < w.heap.size + 4)
    (n : b0 ≠ b1 ∧ b0 ≠ b2 ∧ b0 ≠ b3 ∧ b1 ≠ b2 ∧ b1 ≠ b3 ∧ b2 ≠ b3) :
    ClimbG w.heap.size bc b0 b1 b2 b3 m (List.replicate m 0) (List.replicate m 0) (List.replicate m 0) (List.replicate m 0) (.slice none 0 0) (fourV w m (.slice (some ⟨b0, 0, none⟩) m m) (.slice (some ⟨b1, 0, none⟩) m m) (.slice (some ⟨b2, 0, none⟩) m m) (.slice (some ⟨b3, 0, none⟩) m m)) ∧
    Below w.heap.size w (fourV w m (.slice (some ⟨b0, 0, none⟩) m m) (.slice (some ⟨b1, 0, none⟩) m m) (.slice (some ⟨b2, 0, none⟩) m m) (.slice (some ⟨b3, 0, none⟩) m m)) := by
  have key : ∀ b, w.heap.size ≤ b ∧ b < w.heap.size + 4 → ∀ o, ((((((w.alloc (zerosN m)).alloc (zerosN m)).alloc (zerosN m)).alloc (zerosN m)).alloc o).drew).heap[b]? = some (zerosN m) := by
    intro b hb o
    obtain ⟨i, rfl⟩ : ∃ i, b = w.heap.size + i := ⟨b - w.heap.size, by omega⟩
    have hi : i < 4 := by omega
    refine five_get w _ _ _ _ _ i _ ?_
    match i, hi with
    | 0, _ => rfl
    | 1, _ => rfl
    | 2, _ => rfl
    | 3, _ => rfl
    | n + 4, h => exact absurd h (by omega)
  subst hc
  refine ⟨⟨five_get w _ _ _ _ _ 4 _ rfl, zerosN_blk _ _ _ (key b0 h0 _), zerosN_blk _ _ _ (key b1 h1 _), zerosN_blk _ _ _ (key b2 h2 _), zerosN_blk _ _ _ (key b3 h3 _), by omega, h0.1, h1.1, h2.1, h3.1, by omega, n, by simp, by simp, by simp, by simp⟩, ?_⟩
  exact ((((((Below.refl _ _).alloc (Nat.le_refl _) _).alloc (by simp) _).alloc (by simp; omega) _).alloc (by simp; omega) _).alloc (by simp; omega) _).drew

namespace Fl
/-- From which number each number's node was come to. -/
def fromF (ent : List Nat) (frm : List Int) (nums : List Nat) (i : Nat) : Nat := if i = 0 then 0 else nums.getD (frm.getD (ent.getD i 0) 0).toNat 0
def fromL (ent : List Nat) (frm : List Int) (nums : List Nat) (j : Nat) : List Nat := (List.range ent.length).map (fun i => if i < j then fromF ent frm nums i else 0)
def idL (m j : Nat) : List Nat := (List.range m).map (fun i => if i < j then i else 0)
theorem map_if_set {m j : Nat} {f : Nat → Nat} (hj : j < m) : ((List.range m).map (fun i => if i < j then f i else 0)).set j (f j) = (List.range m).map (fun i => if i < j + 1 then f i else 0) := by
  apply List.ext_getElem
  · simp
  · intro i h1 h2
    rw [List.getElem_set]
    simp
    by_cases e : j = i
    · subst e; rw [if_pos rfl, if_pos (by omega)]
    · rw [if_neg e]
      by_cases e2 : i < j
      · rw [if_pos e2, if_pos (by omega)]
      · rw [if_neg e2, if_neg (by omega)]
theorem map_if_zero (m : Nat) (f : Nat → Nat) : (List.range m).map (fun i => if i < 0 then f i else 0) = List.replicate m 0 := by
  apply List.ext_getElem
  · simp
  · intro i h1 h2; simp
theorem map_if_all (m : Nat) (f : Nat → Nat) : (List.range m).map (fun i => if i < m then f i else 0) = (List.range m).map f := by
  apply List.map_congr_left
  intro i hi
  rw [if_pos (List.mem_range.1 hi)]
end Fl
end Go.Proofs.Ytjlmkcamefaodaa
