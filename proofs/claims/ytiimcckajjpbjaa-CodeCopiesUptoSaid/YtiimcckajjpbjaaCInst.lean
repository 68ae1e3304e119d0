/-
  A checker's questions of one instruction: a number, a copy, a print.
-/
import Derived.Test.YtiimcckajjpbjaaCMade
namespace Go.Proofs.Ytiimcckajjpbjaa
open Go Go.RowKit Go.Maps Cd

/-- An instruction by value. -/
abbrev instV (op : Nat) (dst : Int) (av : Value) (imm : Int) : Value := .agg #[.int .u8 (op : Int), I dst, av, I imm, I 0, .slice none 0 0]
abbrev instC (op : Nat) (dst : Int) (av : Value) (imm : Int) : Obj := .cells #[.int .u8 (op : Int), I dst, av, I imm, I 0, .slice none 0 0] 50

set_option maxRecDepth 100000 in
set_option maxHeartbeats 800000 in
theorem hasImm_const (kv av : Value) (dst imm blk : Int) (w : World) : Calls Try.prog 71 #[kv, instV 30 dst av imm, I blk] w fun e w' => e = .returned (.bool true) ∧ Below w.heap.size w w' := by
  have HB := Lib.hid ((Below.refl w.heap.size w).alloc (Nat.le_refl _) (instC 30 dst av imm))
  go_enter Try.func71, Try.ntmps71
  go_wp2_with fail
  go_ret
  exact ⟨rfl, HB.out⟩

set_option maxRecDepth 100000 in
set_option maxHeartbeats 800000 in
theorem hasSite_const (kv av : Value) (dst imm : Int) (w : World) : Calls Try.prog 72 #[kv, instV 30 dst av imm] w fun e w' => e = .returned (.bool true) ∧ Below w.heap.size w w' := by
  have HB := Lib.hid ((Below.refl w.heap.size w).alloc (Nat.le_refl _) (instC 30 dst av imm))
  go_enter Try.func72, Try.ntmps72
  go_wp2_with (go_at_call 83; refine (traps_any 30 _).mono ?_; rintro e w' ⟨rfl, rfl⟩)
  go_ret
  exact ⟨rfl, HB.out⟩

set_option maxRecDepth 100000 in
set_option maxHeartbeats 800000 in
theorem hasImm_copy (kv av : Value) (dst imm blk : Int) (w : World) : Calls Try.prog 71 #[kv, instV 31 dst av imm, I blk] w fun e w' => e = .returned (.bool true) ∧ Below w.heap.size w w' := by
  have HB := Lib.hid ((Below.refl w.heap.size w).alloc (Nat.le_refl _) (instC 31 dst av imm))
  go_enter Try.func71, Try.ntmps71
  go_wp2_with fail
  go_ret
  exact ⟨rfl, HB.out⟩

set_option maxRecDepth 100000 in
set_option maxHeartbeats 800000 in
theorem hasSite_copy (kv av : Value) (dst imm : Int) (w : World) : Calls Try.prog 72 #[kv, instV 31 dst av imm] w fun e w' => e = .returned (.bool true) ∧ Below w.heap.size w w' := by
  have HB := Lib.hid ((Below.refl w.heap.size w).alloc (Nat.le_refl _) (instC 31 dst av imm))
  go_enter Try.func72, Try.ntmps72
  go_wp2_with (go_at_call 83; refine (traps_any 31 _).mono ?_; rintro e w' ⟨rfl, rfl⟩)
  go_ret
  exact ⟨rfl, HB.out⟩

set_option maxRecDepth 100000 in
set_option maxHeartbeats 800000 in
theorem hasImm_print (kv av : Value) (dst imm blk : Int) (w : World) : Calls Try.prog 71 #[kv, instV 40 dst av imm, I blk] w fun e w' => e = .returned (.bool true) ∧ Below w.heap.size w w' := by
  have HB := Lib.hid ((Below.refl w.heap.size w).alloc (Nat.le_refl _) (instC 40 dst av imm))
  go_enter Try.func71, Try.ntmps71
  go_wp2_with fail
  go_ret
  exact ⟨rfl, HB.out⟩

set_option maxRecDepth 100000 in
set_option maxHeartbeats 800000 in
theorem hasSite_print (kv av : Value) (dst imm : Int) (w : World) : Calls Try.prog 72 #[kv, instV 40 dst av imm] w fun e w' => e = .returned (.bool true) ∧ Below w.heap.size w w' := by
  have HB := Lib.hid ((Below.refl w.heap.size w).alloc (Nat.le_refl _) (instC 40 dst av imm))
  go_enter Try.func72, Try.ntmps72
  go_wp2_with (go_at_call 83; refine (traps_any 40 _).mono ?_; rintro e w' ⟨rfl, rfl⟩)
  go_ret
  exact ⟨rfl, HB.out⟩

set_option maxRecDepth 100000 in
set_option maxHeartbeats 800000 in
theorem isInst_const (bk bm : Nat) (c0 c1 c3 c4 c5 c6 c7 c8 c9 : Value) (vals : Int) (f : Int → Option (Int × Int)) (n : Nat) (hn : n < 1000000) (v imm hb ha : Int) (hvs : 0 ≤ vals ∧ vals ≤ 60000) (hv : (Lit.int .i64 v).wf = true) (w : World) (h : CkB bk bm c0 c1 (I vals) c3 c4 c5 c6 c7 c8 c9 w) (hm : MadeW bm f n w) (hbk : bk ≠ bm) :
    Calls Try.prog 59 #[.pointer (some ⟨bk, 0, none⟩), instV 30 v (.slice none 0 0) imm, placeV hb ha] w fun e w' => e = .returned (.bool (!(f v).isSome && decide (0 ≤ v ∧ v ≤ vals - 1))) ∧ Noted bk bm c0 c1 (I vals) c3 c4 c5 c6 c7 c8 c9 f n v hb ha w w' := by
  have H := Lib.hid (And.intro h (And.intro hm (And.intro hbk (And.intro hn (And.intro hvs hv)))))
  obtain ⟨W, hW⟩ : ∃ W, W = (w.alloc (instC 30 v (.slice none 0 0) imm)).alloc (.cells #[I hb, I ha] 100) := ⟨_, rfl⟩
  have hbel : Below w.heap.size w W := by rw [hW]; exact ((Below.refl _ _).alloc (Nat.le_refl _) _).alloc (by simp) _
  obtain ⟨b4, hb4⟩ : ∃ b, b = w.heap.size := ⟨_, rfl⟩
  obtain ⟨b5, hb5⟩ : ∃ b, b = w.heap.size + 1 := ⟨_, rfl⟩
  have k4 : Blk b4 #[.int .u8 30, I v, .slice none 0 0, I imm, I 0, .slice none 0 0] 50 W := by rw [hW, hb4]; exact (Blk.new w _ _).alloc _
  have k5 : Blk b5 #[I hb, I ha] 100 W := by rw [hW, hb5]; exact Blk.new' _ _ _ (by simp)
  have HW := Lib.hid (And.intro hW (And.intro hb4 hb5))
  have HK := Lib.hid (And.intro hbel (And.intro k4 k5))
  clear h hm hbk hn hvs hv hW hb4 hb5 hbel k4 k5
  have x0 := HK.out.2.1.get 0 (.int .u8 30) rfl
  have x1 := HK.out.2.1.get 1 (I v) rfl
  have x2 := HK.out.2.1.get 2 (.slice none 0 0) rfl
  have x3 := HK.out.2.1.get 3 (I imm) rfl
  have x4 := HK.out.2.1.get 4 (I 0) rfl
  have x5 := HK.out.2.1.get 5 (.slice none 0 0) rfl
  have y0 := HK.out.2.2.get 0 (I hb) rfl
  have y1 := HK.out.2.2.get 1 (I ha) rfl
  go_enter Try.func59, Try.ntmps59
  go_upto_region 1 with (fail)
  rw [← HW.out.2.2, ← HW.out.2.1]
  change Code.wp _ _ _ _ ((w.alloc (instC 30 v (.slice none 0 0) imm)).alloc (.cells #[I hb, I ha] 100))
  rw [← HW.out.1]
  go_wp2_with (go_at_call 21; refine (shape_any 30 _).mono ?_; rintro e w' ⟨rfl, rfl⟩; unfold shapeV)
  refine (hasImm_const _ _ _ _ _ _).mono ?_
  rintro e w1 ⟨rfl, hb1⟩
  have k4 := HK.out.2.1.below hb1 HK.out.2.1.lt
  have k5 := HK.out.2.2.below hb1 HK.out.2.2.lt
  have x0 := k4.get 0 (.int .u8 30) rfl
  have x1 := k4.get 1 (I v) rfl
  have x2 := k4.get 2 (.slice none 0 0) rfl
  have x3 := k4.get 3 (I imm) rfl
  have x4 := k4.get 4 (I 0) rfl
  have x5 := k4.get 5 (.slice none 0 0) rfl
  have H1 := Lib.hid (And.intro (HK.out.1.trans (hb1.mono HK.out.1.size)) (And.intro k4 k5))
  clear hb1 k4 k5 y0 y1
  go_wp2_with fail
  refine (hasSite_const _ _ _ _ _).mono ?_
  rintro e w2 ⟨rfl, hb2⟩
  have k4 := H1.out.2.1.below hb2 H1.out.2.1.lt
  have k5 := H1.out.2.2.below hb2 H1.out.2.2.lt
  have x0 := k4.get 0 (.int .u8 30) rfl
  have x1 := k4.get 1 (I v) rfl
  have x2 := k4.get 2 (.slice none 0 0) rfl
  have y0 := k5.get 0 (I hb) rfl
  have y1 := k5.get 1 (I ha) rfl
  have hbl := H1.out.1.trans (hb2.mono H1.out.1.size)
  have hck := H.out.1.below hbl H.out.1.lt
  have hmd : MadeW bm f n w2 := by
    obtain ⟨D, ho, hD⟩ := H.out.2.1
    exact ⟨D, ho.kept (grown_of_below hbl) (by simp), hD⟩
  have HC := Lib.hid (makes_any bk bm c0 c1 c3 c4 c5 c6 c7 c8 c9 vals f n H.out.2.2.2.1 v hb ha H.out.2.2.2.2.1 H.out.2.2.2.2.2 w2 hck hmd H.out.2.2.1)
  have HL := Lib.hid hbl
  clear hb2 k4 k5 hbl hck hmd
  go_wp2_with fail
  refine HC.out.mono ?_
  rintro e w3 ⟨rfl, hN⟩
  have FIN := Lib.hid (show Noted bk bm c0 c1 (I vals) c3 c4 c5 c6 c7 c8 c9 f n v hb ha w w3 from ⟨hN.1, ⟨hN.2.os.trans HL.out.os, hN.2.tape.trans HL.out.tape, hN.2.output.trans HL.out.output, Nat.le_trans HL.out.size hN.2.size, fun i hi hne => (hN.2.block i (Nat.lt_of_lt_of_le hi HL.out.size) hne).trans (HL.out.block i hi)⟩⟩)
  clear hN
  obtain ⟨r, hr⟩ : ∃ r, r = (!(f v).isSome && decide (0 ≤ v ∧ v ≤ vals - 1)) := ⟨_, rfl⟩
  rw [← hr]
  have HR := Lib.hid hr
  clear hr
  go_wp2_with fail
  go_ret
  exact ⟨by rw [← HR.out]; rfl, FIN.out⟩

set_option maxRecDepth 100000 in
set_option maxHeartbeats 800000 in
theorem isInst_copy (ba : Nat) (bk bm : Nat) (c0 c1 c3 c4 c5 c6 c7 c8 c9 : Value) (vals : Int) (f : Int → Option (Int × Int)) (n : Nat) (hn : n < 1000000) (v imm hb ha : Int) (hvs : 0 ≤ vals ∧ vals ≤ 60000) (hv : (Lit.int .i64 v).wf = true) (w : World) (h : CkB bk bm c0 c1 (I vals) c3 c4 c5 c6 c7 c8 c9 w) (hm : MadeW bm f n w) (hbk : bk ≠ bm) :
    Calls Try.prog 59 #[.pointer (some ⟨bk, 0, none⟩), instV 31 v (.slice (some ⟨ba, 0, none⟩) 1 1) imm, placeV hb ha] w fun e w' => e = .returned (.bool (!(f v).isSome && decide (0 ≤ v ∧ v ≤ vals - 1))) ∧ Noted bk bm c0 c1 (I vals) c3 c4 c5 c6 c7 c8 c9 f n v hb ha w w' := by
  have H := Lib.hid (And.intro h (And.intro hm (And.intro hbk (And.intro hn (And.intro hvs hv)))))
  obtain ⟨W, hW⟩ : ∃ W, W = (w.alloc (instC 31 v (.slice (some ⟨ba, 0, none⟩) 1 1) imm)).alloc (.cells #[I hb, I ha] 100) := ⟨_, rfl⟩
  have hbel : Below w.heap.size w W := by rw [hW]; exact ((Below.refl _ _).alloc (Nat.le_refl _) _).alloc (by simp) _
  obtain ⟨b4, hb4⟩ : ∃ b, b = w.heap.size := ⟨_, rfl⟩
  obtain ⟨b5, hb5⟩ : ∃ b, b = w.heap.size + 1 := ⟨_, rfl⟩
  have k4 : Blk b4 #[.int .u8 31, I v, .slice (some ⟨ba, 0, none⟩) 1 1, I imm, I 0, .slice none 0 0] 50 W := by rw [hW, hb4]; exact (Blk.new w _ _).alloc _
  have k5 : Blk b5 #[I hb, I ha] 100 W := by rw [hW, hb5]; exact Blk.new' _ _ _ (by simp)
  have HW := Lib.hid (And.intro hW (And.intro hb4 hb5))
  have HK := Lib.hid (And.intro hbel (And.intro k4 k5))
  clear h hm hbk hn hvs hv hW hb4 hb5 hbel k4 k5
  have x0 := HK.out.2.1.get 0 (.int .u8 31) rfl
  have x1 := HK.out.2.1.get 1 (I v) rfl
  have x2 := HK.out.2.1.get 2 (.slice (some ⟨ba, 0, none⟩) 1 1) rfl
  have x3 := HK.out.2.1.get 3 (I imm) rfl
  have x4 := HK.out.2.1.get 4 (I 0) rfl
  have x5 := HK.out.2.1.get 5 (.slice none 0 0) rfl
  have y0 := HK.out.2.2.get 0 (I hb) rfl
  have y1 := HK.out.2.2.get 1 (I ha) rfl
  go_enter Try.func59, Try.ntmps59
  go_upto_region 1 with (fail)
  rw [← HW.out.2.2, ← HW.out.2.1]
  change Code.wp _ _ _ _ ((w.alloc (instC 31 v (.slice (some ⟨ba, 0, none⟩) 1 1) imm)).alloc (.cells #[I hb, I ha] 100))
  rw [← HW.out.1]
  go_wp2_with (go_at_call 21; refine (shape_any 31 _).mono ?_; rintro e w' ⟨rfl, rfl⟩; unfold shapeV)
  refine (hasImm_copy _ _ _ _ _ _).mono ?_
  rintro e w1 ⟨rfl, hb1⟩
  have k4 := HK.out.2.1.below hb1 HK.out.2.1.lt
  have k5 := HK.out.2.2.below hb1 HK.out.2.2.lt
  have x0 := k4.get 0 (.int .u8 31) rfl
  have x1 := k4.get 1 (I v) rfl
  have x2 := k4.get 2 (.slice (some ⟨ba, 0, none⟩) 1 1) rfl
  have x3 := k4.get 3 (I imm) rfl
  have x4 := k4.get 4 (I 0) rfl
  have x5 := k4.get 5 (.slice none 0 0) rfl
  have H1 := Lib.hid (And.intro (HK.out.1.trans (hb1.mono HK.out.1.size)) (And.intro k4 k5))
  clear hb1 k4 k5 y0 y1
  go_wp2_with fail
  refine (hasSite_copy _ _ _ _ _).mono ?_
  rintro e w2 ⟨rfl, hb2⟩
  have k4 := H1.out.2.1.below hb2 H1.out.2.1.lt
  have k5 := H1.out.2.2.below hb2 H1.out.2.2.lt
  have x0 := k4.get 0 (.int .u8 31) rfl
  have x1 := k4.get 1 (I v) rfl
  have x2 := k4.get 2 (.slice (some ⟨ba, 0, none⟩) 1 1) rfl
  have y0 := k5.get 0 (I hb) rfl
  have y1 := k5.get 1 (I ha) rfl
  have hbl := H1.out.1.trans (hb2.mono H1.out.1.size)
  have hck := H.out.1.below hbl H.out.1.lt
  have hmd : MadeW bm f n w2 := by
    obtain ⟨D, ho, hD⟩ := H.out.2.1
    exact ⟨D, ho.kept (grown_of_below hbl) (by simp), hD⟩
  have HC := Lib.hid (makes_any bk bm c0 c1 c3 c4 c5 c6 c7 c8 c9 vals f n H.out.2.2.2.1 v hb ha H.out.2.2.2.2.1 H.out.2.2.2.2.2 w2 hck hmd H.out.2.2.1)
  have HL := Lib.hid hbl
  clear hb2 k4 k5 hbl hck hmd
  go_wp2_with fail
  refine HC.out.mono ?_
  rintro e w3 ⟨rfl, hN⟩
  have FIN := Lib.hid (show Noted bk bm c0 c1 (I vals) c3 c4 c5 c6 c7 c8 c9 f n v hb ha w w3 from ⟨hN.1, ⟨hN.2.os.trans HL.out.os, hN.2.tape.trans HL.out.tape, hN.2.output.trans HL.out.output, Nat.le_trans HL.out.size hN.2.size, fun i hi hne => (hN.2.block i (Nat.lt_of_lt_of_le hi HL.out.size) hne).trans (HL.out.block i hi)⟩⟩)
  clear hN
  obtain ⟨r, hr⟩ : ∃ r, r = (!(f v).isSome && decide (0 ≤ v ∧ v ≤ vals - 1)) := ⟨_, rfl⟩
  rw [← hr]
  have HR := Lib.hid hr
  clear hr
  go_wp2_with fail
  go_ret
  exact ⟨by rw [← HR.out]; rfl, FIN.out⟩

set_option maxRecDepth 100000 in
set_option maxHeartbeats 800000 in
theorem isInst_print (ba : Nat) (kv : Value) (imm hb ha : Int) (w : World) :
    Calls Try.prog 59 #[kv, instV 40 (-1) (.slice (some ⟨ba, 0, none⟩) 1 1) imm, placeV hb ha] w fun e w' => e = .returned (.bool true) ∧ Below w.heap.size w w' := by
  obtain ⟨W, hW⟩ : ∃ W, W = (w.alloc (instC 40 (-1) (.slice (some ⟨ba, 0, none⟩) 1 1) imm)).alloc (.cells #[I hb, I ha] 100) := ⟨_, rfl⟩
  have hbel : Below w.heap.size w W := by rw [hW]; exact ((Below.refl _ _).alloc (Nat.le_refl _) _).alloc (by simp) _
  obtain ⟨b4, hb4⟩ : ∃ b, b = w.heap.size := ⟨_, rfl⟩
  obtain ⟨b5, hb5⟩ : ∃ b, b = w.heap.size + 1 := ⟨_, rfl⟩
  have k4 : Blk b4 #[.int .u8 40, I (-1), .slice (some ⟨ba, 0, none⟩) 1 1, I imm, I 0, .slice none 0 0] 50 W := by rw [hW, hb4]; exact (Blk.new w _ _).alloc _
  have k5 : Blk b5 #[I hb, I ha] 100 W := by rw [hW, hb5]; exact Blk.new' _ _ _ (by simp)
  have HW := Lib.hid (And.intro hW (And.intro hb4 hb5))
  have HK := Lib.hid (And.intro hbel (And.intro k4 k5))
  clear hW hb4 hb5 hbel k4 k5
  have x0 := HK.out.2.1.get 0 (.int .u8 40) rfl
  have x1 := HK.out.2.1.get 1 (I (-1)) rfl
  have x2 := HK.out.2.1.get 2 (.slice (some ⟨ba, 0, none⟩) 1 1) rfl
  have x3 := HK.out.2.1.get 3 (I imm) rfl
  have x4 := HK.out.2.1.get 4 (I 0) rfl
  have x5 := HK.out.2.1.get 5 (.slice none 0 0) rfl
  have y0 := HK.out.2.2.get 0 (I hb) rfl
  have y1 := HK.out.2.2.get 1 (I ha) rfl
  go_enter Try.func59, Try.ntmps59
  go_upto_region 1 with (fail)
  rw [← HW.out.2.2, ← HW.out.2.1]
  change Code.wp _ _ _ _ ((w.alloc (instC 40 (-1) (.slice (some ⟨ba, 0, none⟩) 1 1) imm)).alloc (.cells #[I hb, I ha] 100))
  rw [← HW.out.1]
  go_wp2_with (go_at_call 21; refine (shape_any 40 _).mono ?_; rintro e w' ⟨rfl, rfl⟩; unfold shapeV)
  refine (hasImm_print _ _ _ _ _ _).mono ?_
  rintro e w1 ⟨rfl, hb1⟩
  have k4 := HK.out.2.1.below hb1 HK.out.2.1.lt
  have k5 := HK.out.2.2.below hb1 HK.out.2.2.lt
  have x0 := k4.get 0 (.int .u8 40) rfl
  have x1 := k4.get 1 (I (-1)) rfl
  have x2 := k4.get 2 (.slice (some ⟨ba, 0, none⟩) 1 1) rfl
  have x3 := k4.get 3 (I imm) rfl
  have x4 := k4.get 4 (I 0) rfl
  have x5 := k4.get 5 (.slice none 0 0) rfl
  have H1 := Lib.hid (And.intro (HK.out.1.trans (hb1.mono HK.out.1.size)) (And.intro k4 k5))
  clear hb1 k4 k5 y0 y1
  go_wp2_with fail
  refine (hasSite_print _ _ _ _ _).mono ?_
  rintro e w2 ⟨rfl, hb2⟩
  have k4 := H1.out.2.1.below hb2 H1.out.2.1.lt
  have x0 := k4.get 0 (.int .u8 40) rfl
  have x1 := k4.get 1 (I (-1)) rfl
  have x2 := k4.get 2 (.slice (some ⟨ba, 0, none⟩) 1 1) rfl
  have FIN := Lib.hid (H1.out.1.trans (hb2.mono H1.out.1.size))
  clear hb2 k4
  go_wp2_with fail
  go_ret
  exact ⟨rfl, FIN.out⟩
end Go.Proofs.Ytiimcckajjpbjaa
