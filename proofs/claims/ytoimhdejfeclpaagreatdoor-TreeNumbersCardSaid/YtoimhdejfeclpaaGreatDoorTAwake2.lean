/-
  The statement's own 'awake' says true.
-/
import Derived.Test.YtoimhdejfeclpaaGreatDoorTAwake
namespace Go.Proofs.YtoimhdejfeclpaaGreatDoor
open Go Go.RowKit Px

set_option maxRecDepth 100000 in
set_option maxHeartbeats 2000000 in
theorem awake_tree (w : World) (hT : Tabs w.heap.size w) : Calls Tryz.prog 11 #[] w fun e w' => e = .returned (.bool true) ∧ Below w.heap.size w w' := by
  have HT := Lib.hid hT
  clear hT
  go_enter Tryz.func11, Tryz.ntmps11
  go_wp2_with fail
  refine (par1 w HT.out).mono ?_
  rintro e w1 ⟨a1, c1, rfl, hb1, hr1⟩
  obtain ⟨W1, hW1⟩ : ∃ W, W = w1.alloc (.cells #[.slice a1 1 c1] 24) := ⟨_, rfl⟩
  have hbW1 : Below w.heap.size w W1 := by rw [hW1]; exact hb1.alloc hb1.size _
  have hP1 : Blk w1.heap.size #[.slice a1 1 c1] 24 W1 := by rw [hW1]; exact Blk.new _ _ _
  have hR1 : FuRow W1 (fun h => w.heap.size ≤ h) [f1] (.slice a1 1 c1) := hr1.stays (stays_of_below (show Below w1.heap.size w1 W1 by rw [hW1]; exact (Below.refl _ _).alloc (Nat.le_refl _) _) fun _ h => h)
  have H1 := Lib.hid (And.intro hbW1 (And.intro hP1 hR1))
  have HW1 := Lib.hid hW1
  clear hb1 hr1 hbW1 hP1 hR1 hW1
  go_upto_region 2 with (fail)
  rw [← HW1.out]
  clear HW1
  generalize w1.heap.size = M1 at *
  go_wp2_with fail
  refine (par2 W1 ((HT.out.below H1.out.1).mono H1.out.1.size)).mono ?_
  rintro e w2 ⟨rfl, hb2⟩
  obtain ⟨W2, hW2⟩ : ∃ W, W = w2.alloc (.cells #[.slice none 0 0] 24) := ⟨_, rfl⟩
  have hb12 : Below W1.heap.size W1 W2 := by rw [hW2]; exact hb2.alloc hb2.size _
  have H2 := Lib.hid (And.intro (H1.out.1.trans (hb12.mono H1.out.1.size)) (And.intro (H1.out.2.1.below hb12 H1.out.2.1.lt) (show FuRow W2 (fun h => w.heap.size ≤ h) [f1] (.slice a1 1 c1) from H1.out.2.2.stays (stays_of_below hb12 fun _ h => h))))
  have HW2 := Lib.hid hW2
  clear hb2 hb12 hW2
  go_upto_region 3 with (fail)
  rw [← HW2.out]
  clear HW2 H1
  generalize w2.heap.size = M2 at *
  go_wp2_with fail
  refine (par3 W2 ((HT.out.below H2.out.1).mono H2.out.1.size)).mono ?_
  rintro e w3 ⟨a3, c3, rfl, hb3, hr3⟩
  obtain ⟨W3, hW3⟩ : ∃ W, W = w3.alloc (.cells #[.slice a3 1 c3] 24) := ⟨_, rfl⟩
  have hb23 : Below W2.heap.size W2 W3 := by rw [hW3]; exact hb3.alloc hb3.size _
  have hP3 : Blk w3.heap.size #[.slice a3 1 c3] 24 W3 := by rw [hW3]; exact Blk.new _ _ _
  have hR3 : FuRow W3 (fun h => W2.heap.size ≤ h) [f3] (.slice a3 1 c3) := hr3.stays (stays_of_below (show Below w3.heap.size w3 W3 by rw [hW3]; exact (Below.refl _ _).alloc (Nat.le_refl _) _) fun _ h => h)
  have hP1 := H2.out.2.1.below hb23 H2.out.2.1.lt
  have H3 := Lib.hid (And.intro (H2.out.1.trans (hb23.mono H2.out.1.size)) (And.intro hP1 (And.intro (show FuRow W3 (fun h => w.heap.size ≤ h) [f1] (.slice a1 1 c1) from H2.out.2.2.stays (stays_of_below hb23 fun _ h => h)) (And.intro hP3 hR3))))
  have HW3 := Lib.hid hW3
  have c1' := hP1.get 0 (.slice a1 1 c1) rfl
  have c3' := hP3.get 0 (.slice a3 1 c3) rfl
  clear hb3 hb23 hW3 hP3 hR3 hP1 hr3
  go_upto_region 4 with (fail)
  rw [← HW3.out]
  clear HW3 H2
  generalize w3.heap.size = M3 at *
  go_wp2_with fail
  refine (show1 W3 _ a1 c1 H3.out.2.2.1).mono ?_
  rintro e w4 ⟨rfl, hb4⟩
  have c4 := (H3.out.2.2.2.1.below hb4 H3.out.2.2.2.1.lt).get 0 (.slice a3 1 c3) rfl
  have H4 := Lib.hid (And.intro (H3.out.1.trans (hb4.mono H3.out.1.size)) (show FuRow w4 (fun h => W2.heap.size ≤ h) [f3] (.slice a3 1 c3) from H3.out.2.2.2.2.stays (stays_of_below hb4 fun _ h => h)))
  clear hb4 c1' c3'
  go_wp2_with fail
  refine (show3 w4 _ a3 c3 H4.out.2).mono ?_
  rintro e w5 ⟨rfl, hb5⟩
  have FIN := Lib.hid (H4.out.1.trans (hb5.mono H4.out.1.size))
  clear hb5 c4
  go_wp2_with fail
  go_ret
  exact ⟨rfl, FIN.out⟩
end Go.Proofs.YtoimhdejfeclpaaGreatDoor
