/-
  Graphs of one node that goes on nowhere: the nearest above.
-/
import Derived.Test.YtiimcckajjpbjaaFOne3
namespace Go.Proofs.Ytiimcckajjpbjaa
open Go Go.RowKit

def NearT (w : World) (p : Value) (W : World) : Prop := ∃ a b, p = .pointer (some ⟨a, 0, none⟩) ∧ Blk a #[.slice (some ⟨b, 0, none⟩) 1 1] 47 W ∧ Blk b #[I 0] 3 W ∧ w.heap.size ≤ b ∧ Below w.heap.size w W

theorem five_get (w : World) (o1 o2 o3 o4 o5 : Obj) (i : Nat) (o : Obj) (hi : [o1, o2, o3, o4, o5][i]? = some o) : ((((((w.alloc o1).alloc o2).alloc o3).alloc o4).alloc o5).drew).heap[w.heap.size + i]? = some o := by
  show (((((w.alloc o1).alloc o2).alloc o3).alloc o4).alloc o5).heap[w.heap.size + i]? = some o
  match i, hi with
  | 0, hi =>
    obtain rfl : o1 = o := by simpa using hi
    rw [heap_alloc_old _ _ (by simp <;> omega), heap_alloc_old _ _ (by simp <;> omega), heap_alloc_old _ _ (by simp <;> omega), heap_alloc_old _ _ (by simp)]
    exact heap_alloc_new w _
  | 1, hi =>
    obtain rfl : o2 = o := by simpa using hi
    rw [heap_alloc_old _ _ (by simp <;> omega), heap_alloc_old _ _ (by simp <;> omega), heap_alloc_old _ _ (by simp)]
    have := heap_alloc_new (w.alloc o1) o2
    simpa using this
  | 2, hi =>
    obtain rfl : o3 = o := by simpa using hi
    rw [heap_alloc_old _ _ (by simp <;> omega), heap_alloc_old _ _ (by simp)]
    have := heap_alloc_new ((w.alloc o1).alloc o2) o3
    simpa using this
  | 3, hi =>
    obtain rfl : o4 = o := by simpa using hi
    rw [heap_alloc_old _ _ (by simp)]
    have := heap_alloc_new (((w.alloc o1).alloc o2).alloc o3) o4
    simpa using this
  | 4, hi =>
    obtain rfl : o5 = o := by simpa using hi
    have := heap_alloc_new ((((w.alloc o1).alloc o2).alloc o3).alloc o4) o5
    simpa using this
  | n + 5, hi => simp at hi
theorem near_five (w : World) (o1 o2 o3 o4 o5 : Obj) (i j : Nat) (a b : Nat) (ha : a = w.heap.size + i) (hb : b = w.heap.size + j) (hi : [o1, o2, o3, o4, o5][i]? = some (.cells #[.slice (some ⟨b, 0, none⟩) 1 1] 47))
    (hj : [o1, o2, o3, o4, o5][j]? = some (.cells #[I 0] 3)) : NearT w (.pointer (some ⟨a, 0, none⟩)) ((((((w.alloc o1).alloc o2).alloc o3).alloc o4).alloc o5).drew) := by
  subst ha hb
  exact ⟨_, _, rfl, five_get w o1 o2 o3 o4 o5 i _ hi, five_get w o1 o2 o3 o4 o5 j _ hj, by omega, ((((((Below.refl _ _).alloc (Nat.le_refl _) _).alloc (by simp) _).alloc (by simp; omega) _).alloc (by simp; omega) _).alloc (by simp; omega) _).drew⟩

set_option maxRecDepth 100000 in
set_option maxHeartbeats 4000000 in
theorem nearest_one (w0 : World) (bc b0 b1 b2 b3 : Nat) (w : World) (h : ClimbA w0 bc b0 b1 b2 b3 w) :
    Calls Try.prog 81 #[.pointer (some ⟨bc, 0, none⟩)] w fun e w' => Told w w' [0] e := by
  have hmk := fun w => mkI1 w
  have c0 := h.blk.get 0 (.slice (some ⟨b0, 0, none⟩) 1 1) rfl
  have HF := Lib.hid (near_five w)
  clear h
  go_enter Try.func81, Try.ntmps81
  go_upto_region 2 with (fail)
  go_cut [4, 5, 6] from 16 to 21 (fun p q r W => NearT w p W)
  case first =>
    go_region
    all_goals (go_wp2_with fail; go_meet; case rel => first | exact HF.out _ _ _ _ _ 0 1 _ _ rfl rfl rfl rfl | exact HF.out _ _ _ _ _ 0 2 _ _ rfl rfl rfl rfl | exact HF.out _ _ _ _ _ 0 3 _ _ rfl rfl rfl rfl | exact HF.out _ _ _ _ _ 0 4 _ _ rfl rfl rfl rfl | exact HF.out _ _ _ _ _ 1 0 _ _ rfl rfl rfl rfl | exact HF.out _ _ _ _ _ 1 2 _ _ rfl rfl rfl rfl | exact HF.out _ _ _ _ _ 1 3 _ _ rfl rfl rfl rfl | exact HF.out _ _ _ _ _ 1 4 _ _ rfl rfl rfl rfl | exact HF.out _ _ _ _ _ 2 0 _ _ rfl rfl rfl rfl | exact HF.out _ _ _ _ _ 2 1 _ _ rfl rfl rfl rfl | exact HF.out _ _ _ _ _ 2 3 _ _ rfl rfl rfl rfl | exact HF.out _ _ _ _ _ 2 4 _ _ rfl rfl rfl rfl | exact HF.out _ _ _ _ _ 3 0 _ _ rfl rfl rfl rfl | exact HF.out _ _ _ _ _ 3 1 _ _ rfl rfl rfl rfl | exact HF.out _ _ _ _ _ 3 2 _ _ rfl rfl rfl rfl | exact HF.out _ _ _ _ _ 3 4 _ _ rfl rfl rfl rfl | exact HF.out _ _ _ _ _ 4 0 _ _ rfl rfl rfl rfl | exact HF.out _ _ _ _ _ 4 1 _ _ rfl rfl rfl rfl | exact HF.out _ _ _ _ _ 4 2 _ _ rfl rfl rfl rfl | exact HF.out _ _ _ _ _ 4 3 _ _ rfl rfl rfl rfl)
  case rest =>
    obtain ⟨a, b, rfl, h1, h2, h3, h4⟩ := hcut
    obtain ⟨W, rfl⟩ : ∃ W, W = wc := ⟨_, rfl⟩
    have c1 := h1.get 0 (.slice (some ⟨b, 0, none⟩) 1 1) rfl
    have FIN := Lib.hid (show Told w W [0] (.returned (.slice (some ⟨b, 0, none⟩) 1 1)) from ⟨_, rfl, h2.owns h3 (by unfold maxLen; omega) rfl, h4⟩)
    clear h1 h2 h3 h4
    go_wp2_with fail
    refine wp_loop_rounds 1 ?_
    rw [rounds_succ]
    go_wp2_with fail
    go_ret
    exact FIN.out

theorem WalkA.below {w0 : World} {bw bf br : Nat} {v0 v1 : Value} {f : Int} {r : Bool} {w W : World} (h : WalkA w0 bw bf br v0 v1 f r w) (hb : Below w.heap.size w W) : WalkA w0 bw bf br v0 v1 f r W :=
  ⟨h.blk.below hb h.blk.lt, h.frm.below hb h.frm.lt, h.rch.below hb h.rch.lt, h.bel.trans (hb.mono h.bel.size), h.lw, h.lf, h.lr, h.nf, h.nr, h.fr⟩

/-- What an answer of one node says of what stands above it: nothing. -/
def ToldNone (w w' : World) (e : Ending) : Prop := ∃ b, e = .returned (.slice (some ⟨b, 0, none⟩) 1 1) ∧ Blk b #[I (-1)] 3 w' ∧ w.heap.size ≤ b ∧ Below w.heap.size w w'
def TwoT (w : World) (p q : Value) (W : World) : Prop := ∃ a b, p = .slice (some ⟨a, 0, none⟩) 1 1 ∧ q = .slice (some ⟨b, 0, none⟩) 1 1 ∧ Blk a #[I 0] 3 W ∧ Blk b #[I 0] 3 W ∧ w.heap.size ≤ a ∧ w.heap.size ≤ b ∧ a ≠ b ∧ Below w.heap.size w W

set_option maxRecDepth 100000 in
set_option maxHeartbeats 4000000 in
theorem above_one (w0 : World) (bw bf br bi : Nat) (v1 : Value) (g cap : Nat) (base : Nat) (w : World) (h : WalkA w0 bw bf br (.slice (some ⟨g, 0, none⟩) 1 cap) v1 (-1) true w) (hn : Nums w base (.slice (some ⟨g, 0, none⟩) 1 cap) [0]) :
    Calls Try.prog 68 #[.pointer (some ⟨bw, 0, none⟩), oneV bi] w fun e w' => ToldNone w w' e := by
  have hmk := fun w => mkI1 w
  have H := Lib.hid (And.intro h hn)
  clear h hn
  go_enter Try.func68, Try.ntmps68
  go_upto_region 1 with (fail)
  go_cut [5, 6] from 17 to 22 (fun p q W => TwoT w p q W)
  case first =>
    go_region
    · go_wp2_with fail
      go_meet
      case rel => exact ⟨_, _, rfl, rfl, ((Blk.new _ _ _).alloc _), (Blk.new' _ _ _ (by simp)), by omega, by omega, by omega, (((Below.refl _ _).alloc (Nat.le_refl _) _).alloc (by simp) _).drew⟩
    · go_wp2_with fail
      go_meet
      case rel => exact ⟨_, _, rfl, rfl, (Blk.new' _ _ _ (by simp)), ((Blk.new _ _ _).alloc _), by omega, by omega, by omega, (((Below.refl _ _).alloc (Nat.le_refl _) _).alloc (by simp) _).drew⟩
  case rest =>
    obtain ⟨a, b, rfl, rfl, h1, h2, h3, h4, h5, h6⟩ := hcut
    obtain ⟨W, rfl⟩ : ∃ W, W = wc := ⟨_, rfl⟩
    have c1 := h1.get 0 (I 0) rfl
    have f1 := h1.free 0
    obtain ⟨W1, hW1⟩ : ∃ W1, W1 = W.setCell ⟨a, 0, none⟩ (I (-1)) := ⟨_, rfl⟩
    have k1 : Blk a #[I (-1)] 3 W1 := by rw [hW1]; exact h1.set 0 _
    have k2 : Blk b #[I 0] 3 W1 := by rw [hW1]; exact h2.setOther (Ne.symm h5) _ _
    have k6 : Below w.heap.size w W1 := by rw [hW1]; exact h6.setCell (p := ⟨a, 0, none⟩) h3 _
    have c2 := k2.get 0 (I 0) rfl
    have f2 := k2.free 0
    have hlw := H.out.1.blk.lt
    have hlg := (H.out.2.lt g rfl).2
    have cw : W1.cell? ⟨bw, 0, none⟩ = some (.slice (some ⟨g, 0, none⟩) 1 cap) := (H.out.1.blk.below k6 hlw).get 0 (.slice (some ⟨g, 0, none⟩) 1 cap) rfl
    have cg : W1.cell? ⟨g, 0, none⟩ = some (I 0) := cell_below k6 hlg (H.out.2.cells (g := g) rfl 0 (I 0) rfl)
    have hab := h5
    have HA := Lib.hid h3
    have H1 := Lib.hid (And.intro k1 (And.intro k2 (And.intro k6 (And.intro h3 h4))))
    have HW1 := Lib.hid hW1
    clear h1 h2 h3 h4 h5 h6 k1 k2 k6 hW1 hlw hlg
    go_wp2_with fail
    refine wp_loop_rounds 2 ?_
    rw [rounds_succ]
    go_wp2_with fail
    rw [rounds_succ]
    go_upto_region 7 with (fail)
    change Code.wp _ _ _ _ (W.setCell ⟨a, 0, none⟩ (I (-1)))
    rw [← HW1.out]
    clear HW1 c1 f1
    obtain ⟨W2, hW2⟩ : ∃ W2, W2 = W1.setCell ⟨b, 0, none⟩ (I 0) := ⟨_, rfl⟩
    have k1 : Blk a #[I (-1)] 3 W2 := by rw [hW2]; exact H1.out.1.setOther hab _ _
    have k2 : Blk b #[I 0] 3 W2 := by rw [hW2]; exact H1.out.2.1.set 0 _
    have k6 : Below w.heap.size w W2 := by rw [hW2]; exact H1.out.2.2.1.setCell (p := ⟨b, 0, none⟩) H1.out.2.2.2.2 _
    have cw2 : W2.cell? ⟨bw, 0, none⟩ = some (.slice (some ⟨g, 0, none⟩) 1 cap) := (H.out.1.blk.below k6 H.out.1.blk.lt).get 0 (.slice (some ⟨g, 0, none⟩) 1 cap) rfl
    have H2 := Lib.hid (And.intro k1 (And.intro k2 (And.intro k6 (H.out.1.below k6))))
    have HW2 := Lib.hid hW2
    clear k1 k2 k6 hW2
    go_wp2_with fail
    refine wp_loop_rounds 2 ?_
    rw [rounds_succ]
    go_wp2_with fail
    rw [rounds_succ]
    go_upto_region 12 with (fail)
    change Code.wp _ _ _ _ (W1.setCell ⟨b, 0, none⟩ (I 0))
    rw [← HW2.out]
    clear HW2 c2 f2 cw cg H1
    go_wp2_with fail
    refine (newClimb_one w0 bw bf br b v1 g cap W2 H2.out.2.2.2).mono ?_
    rintro e W3 ⟨bc, b0, b1, b2, b3, rfl, hc⟩
    have k1 := H2.out.1.below hc.bel H2.out.1.lt
    have k6 := H2.out.2.2.1.trans (hc.bel.mono H2.out.2.2.1.size)
    have cw3 : W3.cell? ⟨bw, 0, none⟩ = some (.slice (some ⟨g, 0, none⟩) 1 cap) := (H.out.1.blk.below k6 H.out.1.blk.lt).get 0 (.slice (some ⟨g, 0, none⟩) 1 cap) rfl
    have H3 := Lib.hid (And.intro k1 (And.intro k6 hc))
    clear k1 k6 hc cw2
    go_wp2_with fail
    refine wp_loop_rounds 1 ?_
    rw [rounds_succ]
    go_wp2_with fail
    refine (nearest_one W2 bc b0 b1 b2 b3 W3 H3.out.2.2).mono ?_
    rintro e W4 ⟨v, rfl, ho, hb⟩
    obtain ⟨g1, cap1, rfl⟩ : ∃ g cap, v = .slice (some ⟨g, 0, none⟩) 1 cap := by
      rcases own_slice ho with ⟨_, h⟩ | ⟨g, cap, h⟩
      · exact absurd h (by decide)
      · exact ⟨g, cap, h⟩
    have cn : W4.cell? ⟨g1, 0, none⟩ = some (I 0) := ho.cells (g := g1) rfl 0 (I 0) rfl
    have FIN := Lib.hid (show ToldNone w W4 (.returned (.slice (some ⟨a, 0, none⟩) 1 1)) from ⟨a, rfl, H3.out.1.below hb H3.out.1.lt, HA.out, H3.out.2.1.trans (hb.mono H3.out.2.1.size)⟩)
    clear ho hb cw3
    go_wp2_with fail
    refine wp_loop_rounds 2 ?_
    rw [rounds_succ]
    go_wp2_with fail
    rw [rounds_succ]
    go_wp2_with fail
    go_ret
    exact FIN.out
end Go.Proofs.Ytiimcckajjpbjaa
