/-
  VmNil's body, walked.
-/
import Derived.Test.YtepnjhbolaebmaaDoorVmI
namespace Go.Proofs.YtepnjhbolaebmaaDoor
open Go Go.RowKit Ib

set_option maxRecDepth 100000 in
set_option maxHeartbeats 3200000 in
theorem vmNil_body (st : Int) (a0 a1 a3 pa : Option Addr) (n0 c0 n1 c1 n3 c3 pn pc : Nat) (mn : Int) (w : World) (h0 : RawZ 5 w a0 n0) (h1 : RawZ 2 w a1 n1) (h3 : RawZ 1 w a3 n3) (l0 : n0 * 16 ≤ 140737488355328) (l1 : n1 * 16 ≤ 140737488355328) (l3 : n3 * 1 ≤ 140737488355328) :
    Calls Tryd.prog 5 #[I st, .agg #[.slice a0 n0 c0, .slice a1 n1 c1, I mn, .slice a3 n3 c3], .slice pa pn pc] w fun e w' => LawV w w' e := by
  obtain ⟨W1, hW1⟩ : ∃ W, W = w.alloc (.cells #[.slice a0 n0 c0, .slice a1 n1 c1, I (-1), .slice a3 n3 c3] 26) := ⟨_, rfl⟩
  obtain ⟨b1, hb1⟩ : ∃ b, b = w.heap.size := ⟨_, rfl⟩
  have hB1 : Below w.heap.size w W1 := by rw [hW1]; exact (Below.refl _ _).alloc (Nat.le_refl _) _
  have k1 : Blk b1 #[.slice a0 n0 c0, .slice a1 n1 c1, I (-1), .slice a3 n3 c3] 26 W1 := by rw [hW1, hb1]; exact Blk.new _ _ _
  have HT := Lib.hid (twin_any a0 a1 a3 n0 c0 n1 c1 n3 c3 (-1) W1 (h0.below hB1) (h1.below hB1) (h3.below hB1) l0 l1 l3)
  have x0 := k1.get 0 (.slice a0 n0 c0) rfl
  have x1 := k1.get 1 (.slice a1 n1 c1) rfl
  have x2 := k1.get 2 (I (-1)) rfl
  have x3 := k1.get 3 (.slice a3 n3 c3) rfl
  have H1 := Lib.hid hB1
  have HW1 := Lib.hid (And.intro hW1 hb1)
  clear h0 h1 h3 l0 l1 l3 hW1 hb1 hB1 k1
  go_enter Tryd.func5, Tryd.ntmps5
  go_upto_region 3 with (fail)
  rw [← HW1.out.2]
  change Code.wp _ _ _ _ (w.alloc (.cells #[.slice a0 n0 c0, .slice a1 n1 c1, I (-1), .slice a3 n3 c3] 26))
  rw [← HW1.out.1]
  go_wp2_with fail
  refine HT.out.mono ?_
  rintro e w2 ⟨b0, m0, d0, b1', m1, d1, b3, m3, d3, rfl, hb2⟩
  have HLd := Lib.hid (load_err b0 b1' b3 m0 d0 m1 d1 m3 d3 (.slice pa pn pc) w2)
  have H2 := Lib.hid (below_tr H1.out hb2)
  clear hb2 HT x0 x1 x2 x3
  go_wp2_with fail
  refine HLd.out.mono ?_
  rintro e w3 ⟨rfl, hb3⟩
  have HA := Lib.hid (awake_vm w3)
  have H3 := Lib.hid (below_tr H2.out hb3)
  clear hb3 HLd
  go_wp2_with fail
  refine HA.out.mono ?_
  rintro e w4 ⟨rfl, hb4⟩
  have HR := Lib.hid (run_nil st w4)
  have HM := Lib.hid (toMark_nil st w4)
  have HS := Lib.hid (status_nil w4)
  have H4 := Lib.hid (below_tr H3.out hb4)
  clear hb4 HA
  go_wp2_with fail
  refine HR.out.mono ?_
  rintro e w5 ⟨rfl, rfl⟩
  go_wp2_with fail
  refine HM.out.mono ?_
  rintro e w5 ⟨rfl, rfl⟩
  go_wp2_with fail
  refine HS.out.mono ?_
  rintro e w5 ⟨rfl, hb5⟩
  have HZ := Lib.hid (sameSt_zero w5)
  have H5 := Lib.hid (below_tr H4.out hb5)
  clear hb5 HR HM HS
  go_wp2_with fail
  refine HZ.out.mono ?_
  rintro e w6 ⟨rfl, hb6⟩
  have HC := Lib.hid (calls_nil w6)
  have HH := Lib.hid (heap_nil w6)
  have HV := Lib.hid (save_nil w6)
  have FIN := Lib.hid (show LawV w w6 (.returned (.bool true)) from ⟨rfl, below_tr H5.out hb6⟩)
  clear hb6 HZ
  go_wp2_with fail
  refine HC.out.mono ?_
  rintro e w7 ⟨rfl, rfl⟩
  go_wp2_with fail
  refine HH.out.mono ?_
  rintro e w7 ⟨rfl, rfl⟩
  go_wp2_with fail
  refine HV.out.mono ?_
  rintro e w7 ⟨rfl, rfl⟩
  go_wp2_with fail
  go_ret
  exact FIN.out
end Go.Proofs.YtepnjhbolaebmaaDoor
