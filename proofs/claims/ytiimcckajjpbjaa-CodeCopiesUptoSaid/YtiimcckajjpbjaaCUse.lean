/-
  A checker's question whether an instruction may use what it uses: of none, of one.
-/
import Derived.Test.YtiimcckajjpbjaaCInst
namespace Go.Proofs.Ytiimcckajjpbjaa
open Go Go.RowKit Go.Maps Cd

set_option maxRecDepth 100000 in
set_option maxHeartbeats 800000 in
theorem mayUse_none (kv : Value) (dst imm hb ha : Int) (w : World) : Calls Try.prog 61 #[kv, instV 30 dst (.slice none 0 0) imm, placeV hb ha] w fun e w' => e = .returned (.bool true) ∧ Below w.heap.size w w' := by
  have HB := Lib.hid (((Below.refl w.heap.size w).alloc (Nat.le_refl _) (instC 30 dst (.slice none 0 0) imm)).alloc (by simp) (.cells #[I hb, I ha] 100))
  go_enter Try.func61, Try.ntmps61
  go_wp2_with fail
  refine wp_loop_rounds 1 ?_
  rw [rounds_succ]
  go_wp2_with fail
  go_ret
  exact ⟨rfl, HB.out⟩

/-- Of one Arg: a copy, a print. -/
def OneUse (op : Nat) : Prop := op = 31 ∨ op = 40

set_option maxRecDepth 100000 in
set_option maxHeartbeats 1600000 in
theorem mayUse_one (op : Nat) (hop : OneUse op) (ba : Nat) (x : Int) (bk bm : Nat) (c0 c1 c2 c3 c4 c5 c6 c7 c8 c9 : Value) (f : Int → Option (Int × Int)) (n : Nat) (dst imm hb ha : Int) (hx : (Lit.int .i64 x).wf = true) (w : World) (h : CkB bk bm c0 c1 c2 c3 c4 c5 c6 c7 c8 c9 w) (hm : MadeW bm f n w) (hba : Blk ba #[I x] 3 w) (pb pa : Int) (hp : (f x).getD (0, 0) = (pb, pa)) (hn : pb = hb) :
    Calls Try.prog 61 #[.pointer (some ⟨bk, 0, none⟩), instV op dst (.slice (some ⟨ba, 0, none⟩) 1 1) imm, placeV hb ha] w fun e w' => e = .returned (.bool ((f x).isSome && decide (pa < ha))) ∧ Below w.heap.size w w' := by
  obtain ⟨W, hW⟩ : ∃ W, W = (w.alloc (instC op dst (.slice (some ⟨ba, 0, none⟩) 1 1) imm)).alloc (.cells #[I hb, I ha] 100) := ⟨_, rfl⟩
  have hbel : Below w.heap.size w W := by rw [hW]; exact ((Below.refl _ _).alloc (Nat.le_refl _) _).alloc (by simp) _
  obtain ⟨b4, hb4⟩ : ∃ b, b = w.heap.size := ⟨_, rfl⟩
  obtain ⟨b5, hb5⟩ : ∃ b, b = w.heap.size + 1 := ⟨_, rfl⟩
  have k4 : Blk b4 #[.int .u8 (op : Int), I dst, .slice (some ⟨ba, 0, none⟩) 1 1, I imm, I 0, .slice none 0 0] 50 W := by rw [hW, hb4]; exact (Blk.new w _ _).alloc _
  have k5 : Blk b5 #[I hb, I ha] 100 W := by rw [hW, hb5]; exact Blk.new' _ _ _ (by simp)
  have hmd : MadeW bm f n W := by
    obtain ⟨D, ho, hD⟩ := hm
    exact ⟨D, ho.kept (grown_of_below hbel) (by simp), hD⟩
  have HC := Lib.hid (isMade_near bk bm c0 c1 c2 c3 c4 c5 c6 c7 c8 c9 f n x hb ha hx W (h.below hbel h.lt) hmd pb pa hp hn)
  have ca := (hba.below hbel hba.lt).get 0 (I x) rfl
  have x0 := k4.get 0 (.int .u8 (op : Int)) rfl
  have x2 := k4.get 2 (.slice (some ⟨ba, 0, none⟩) 1 1) rfl
  have y0 := k5.get 0 (I hb) rfl
  have y1 := k5.get 1 (I ha) rfl
  have HW := Lib.hid (And.intro hW (And.intro hb4 hb5))
  have HK := Lib.hid (And.intro hbel k4)
  have h42 : ((op : Int) == 42) = false := by rcases hop with rfl | rfl <;> rfl
  have h39 : ((op : Int) == 39) = false := by rcases hop with rfl | rfl <;> rfl
  have g42 : ((op : Int) != 42) = true := by rcases hop with rfl | rfl <;> rfl
  have g39 : ((op : Int) != 39) = true := by rcases hop with rfl | rfl <;> rfl
  obtain ⟨r, hr⟩ : ∃ r, r = ((f x).isSome && decide (pa < ha)) := ⟨_, rfl⟩
  rw [← hr] at HC ⊢
  clear hr h hm hba hx hp hn hW hb4 hb5 hbel k4 k5 hmd
  go_enter Try.func61, Try.ntmps61
  go_upto_region 1 with (fail)
  rw [← HW.out.2.2, ← HW.out.2.1]
  change Code.wp _ _ _ _ ((w.alloc (instC op dst (.slice (some ⟨ba, 0, none⟩) 1 1) imm)).alloc (.cells #[I hb, I ha] 100))
  rw [← HW.out.1]
  go_wp2_with fail
  refine wp_loop_rounds 2 ?_
  rw [rounds_succ]
  go_wp2_with fail
  refine HC.out.mono ?_
  rintro e w1 ⟨rfl, hb1⟩
  have x0 := (HK.out.2.below hb1 HK.out.2.lt).get 0 (.int .u8 (op : Int)) rfl
  have FIN := Lib.hid (HK.out.1.trans (hb1.mono HK.out.1.size))
  clear hb1
  cases r
  · go_wp2_with fail
    go_ret
    exact ⟨rfl, FIN.out⟩
  · go_wp2_with fail
    rw [rounds_succ]
    go_wp2_with fail
    go_ret
    exact ⟨rfl, FIN.out⟩
end Go.Proofs.Ytiimcckajjpbjaa
