/-
  TreeSigns: the statement's own body says true at every operation.
-/
import Derived.Test.YtknmmjfpipobdaaGreatDoorTAwake2
import Derived.Test.YtknmmjfpipobdaaGreatDoorTRefS
namespace Go.Proofs.YtknmmjfpipobdaaGreatDoor
open Go Go.RowKit Px

set_option maxRecDepth 100000 in
set_option maxHeartbeats 2000000 in
theorem treeSigns_any (op : Nat) (ho : op < 256) (w : World) (hT : Tabs w.heap.size w) : Calls Tryz.prog 5 #[.int .u8 (op : Int)] w fun e w' => e = .returned (.bool true) ∧ Below w.heap.size w w' := by
  have HT := Lib.hid hT
  have HS := Lib.hid fun w => signs_any op ho w
  have HR := Lib.hid fun w => refSigns_any op ho w
  have HN := Lib.hid fun w => name_any' op w
  have HM := Lib.hid fun w => refName_any op w
  clear hT
  go_enter Tryz.func5, Tryz.ntmps5
  go_wp2_with fail
  refine (HS.out w).mono ?_
  rintro e w' ⟨rfl, rfl⟩
  unfold signV
  go_wp2_with fail
  refine (HR.out w).mono ?_
  rintro e w1 ⟨rfl, hb1⟩
  have H1 := Lib.hid hb1
  clear hb1
  unfold signV
  go_wp2_with fail
  refine (awake_tree w1 ((HT.out.below H1.out).mono H1.out.size)).mono ?_
  rintro e w2 ⟨rfl, hb2⟩
  have H2 := Lib.hid (H1.out.trans (hb2.mono H1.out.size))
  clear hb2
  go_wp2_with fail
  refine (HN.out w2).mono ?_
  rintro e w2' ⟨rfl, rfl⟩
  go_wp2_with fail
  refine (HM.out w2).mono ?_
  rintro e w2' ⟨rfl, rfl⟩
  go_wp2_with fail
  go_ret
  exact ⟨rfl, H2.out⟩
end Go.Proofs.YtknmmjfpipobdaaGreatDoor
