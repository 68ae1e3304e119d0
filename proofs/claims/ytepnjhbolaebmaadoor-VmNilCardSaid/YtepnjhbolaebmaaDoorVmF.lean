/-
  The instructions of the document's example are all right; its machine is made.
-/
import Derived.Test.YtepnjhbolaebmaaDoorVmE
import Derived.Laws.MakeOwn
namespace Go.Proofs.YtepnjhbolaebmaaDoor
open Go Go.RowKit Ib

abbrev zW : Array Value := #[.int .u8 0, .int .u8 0, .int .u8 0, .int .u8 0, .int .i64 0]
abbrev pa0 : Array Value := #[.int .u8 0, .int .u8 0, .int .u8 0, .int .u8 0, .int .i64 0, .int .u8 0, .int .u8 0, .int .u8 0, .int .u8 0, .int .i64 0, .int .u8 0, .int .u8 0, .int .u8 0, .int .u8 0, .int .i64 0, .int .u8 0, .int .u8 0, .int .u8 0, .int .u8 0, .int .i64 0]
abbrev pa1 : Array Value := #[.int .u8 30, .int .u8 0, .int .u8 0, .int .u8 0, .int .i64 7, .int .u8 0, .int .u8 0, .int .u8 0, .int .u8 0, .int .i64 0, .int .u8 0, .int .u8 0, .int .u8 0, .int .u8 0, .int .i64 0, .int .u8 0, .int .u8 0, .int .u8 0, .int .u8 0, .int .i64 0]
abbrev pa2 : Array Value := #[.int .u8 30, .int .u8 0, .int .u8 0, .int .u8 0, .int .i64 7, .int .u8 42, .int .u8 0, .int .u8 0, .int .u8 0, .int .i64 0, .int .u8 0, .int .u8 0, .int .u8 0, .int .u8 0, .int .i64 0, .int .u8 0, .int .u8 0, .int .u8 0, .int .u8 0, .int .i64 0]
abbrev pa3 : Array Value := #[.int .u8 30, .int .u8 0, .int .u8 0, .int .u8 0, .int .i64 7, .int .u8 42, .int .u8 0, .int .u8 0, .int .u8 0, .int .i64 0, .int .u8 44, .int .u8 0, .int .u8 0, .int .u8 0, .int .i64 0, .int .u8 0, .int .u8 0, .int .u8 0, .int .u8 0, .int .i64 0]
abbrev pa4 : Array Value := #[.int .u8 30, .int .u8 0, .int .u8 0, .int .u8 0, .int .i64 7, .int .u8 42, .int .u8 0, .int .u8 0, .int .u8 0, .int .i64 0, .int .u8 44, .int .u8 0, .int .u8 0, .int .u8 0, .int .i64 0, .int .u8 47, .int .u8 0, .int .u8 0, .int .u8 0, .int .i64 0]
theorem infoWo : (Tryd.prog.info? 69).map (fun i => (i.zero, i.size, i.bytes)) = some (some (.agg zW), 5, 16) := by kernel_rfl
theorem made20 : madeCells zW 20 = pa0 := by kernel_rfl
theorem mk4 (u : World) : (Instr.makeSlice 22 (I 4) (I 4)).run Tryd.prog u = .ok (.slice (some ⟨u.heap.size, 0, none⟩) 4 4) (u.alloc (.cells pa0 69)) := by
  obtain ⟨i0, hi, hz0, hz1, hz2⟩ := info_parts infoWo
  have h := run_makeSlice (P := Tryd.prog) (w := u) 22 69 i0 _ Tryd.underlying22 hi hz0 .i64 .i64 4 4 (by omega) (Int.le_refl _) (by rw [hz1]; decide) (by rw [hz2]; decide) (by omega)
  rw [hz1, show (Value.agg zW).cells = zW from rfl, show Int.toNat 4 * 5 = 20 from rfl, made20] at h
  exact h
theorem fo0 : FormW ⟨30, 0, 0, 0, 7⟩ := ⟨1, true, by decide, by unfold RegOk; decide, by decide, by decide⟩
theorem form0 (w : World) : Calls Tryd.prog 57 #[wagg 30 7] w fun e w' => e = .returned (.bool true) ∧ Below w.heap.size w w' :=
  (form_any ⟨30, 0, 0, 0, 7⟩ ⟨by decide, by decide, by decide, by decide, by unfold In64; decide⟩ w).mono fun e w' h => by
    obtain ⟨b, rfl, hb, hB⟩ := h
    exact ⟨by rw [hb.2 fo0], hB⟩
theorem fo1 : FormW ⟨42, 0, 0, 0, 0⟩ := ⟨1, false, by decide, by unfold RegOk; decide, by decide, by decide⟩
theorem form1 (w : World) : Calls Tryd.prog 57 #[wagg 42 0] w fun e w' => e = .returned (.bool true) ∧ Below w.heap.size w w' :=
  (form_any ⟨42, 0, 0, 0, 0⟩ ⟨by decide, by decide, by decide, by decide, by unfold In64; decide⟩ w).mono fun e w' h => by
    obtain ⟨b, rfl, hb, hB⟩ := h
    exact ⟨by rw [hb.2 fo1], hB⟩
theorem fo2 : FormW ⟨44, 0, 0, 0, 0⟩ := ⟨0, true, by decide, by unfold RegOk; decide, by decide, by decide⟩
theorem form2 (w : World) : Calls Tryd.prog 57 #[wagg 44 0] w fun e w' => e = .returned (.bool true) ∧ Below w.heap.size w w' :=
  (form_any ⟨44, 0, 0, 0, 0⟩ ⟨by decide, by decide, by decide, by decide, by unfold In64; decide⟩ w).mono fun e w' h => by
    obtain ⟨b, rfl, hb, hB⟩ := h
    exact ⟨by rw [hb.2 fo2], hB⟩
theorem fo3 : FormW ⟨47, 0, 0, 0, 0⟩ := ⟨1, false, by decide, by unfold RegOk; decide, by decide, by decide⟩
theorem form3 (w : World) : Calls Tryd.prog 57 #[wagg 47 0] w fun e w' => e = .returned (.bool true) ∧ Below w.heap.size w w' :=
  (form_any ⟨47, 0, 0, 0, 0⟩ ⟨by decide, by decide, by decide, by decide, by unfold In64; decide⟩ w).mono fun e w' h => by
    obtain ⟨b, rfl, hb, hB⟩ := h
    exact ⟨by rw [hb.2 fo3], hB⟩
set_option maxRecDepth 100000 in
theorem room_zero (bm be ec : Nat) (cs : Array Value) (w : World) (hm : Blk bm cs Mt w) (h1 : cs[1]? = some (.slice (some ⟨be, 0, none⟩) 1 ec)) (he : w.cell? ⟨be, 1, none⟩ = some (I 0)) :
    Calls Tryd.prog 36 #[.pointer (some ⟨bm, 0, none⟩), I 0] w fun e w' => e = .returned (.tuple #[I 0, .bool true]) ∧ w = w' := by
  have y1 := hm.get 1 _ h1
  clear hm h1
  go_enter Tryd.func36, Tryd.ntmps36
  go_wp2_with fail
  go_ret2
  exact ⟨rfl, rfl⟩
set_option maxRecDepth 100000 in
set_option maxHeartbeats 3200000 in
theorem right_four (bi : Nat) (w : World) (hb : Blk bi wcA 69 w) :
    Calls Tryd.prog 37 #[.slice (some ⟨bi, 0, none⟩) 4 4] w fun e w' => ∃ bw, e = .returned (.slice (some ⟨bw, 0, none⟩) 4 4) ∧ w.heap.size ≤ bw ∧ Blk bw wcA 69 w' ∧ Below w.heap.size w w' := by
  have hmk := mk4
  obtain ⟨W1, hW1⟩ : ∃ W, W = w.alloc (.cells pa0 69) := ⟨_, rfl⟩
  obtain ⟨bw, hbw⟩ : ∃ b, b = w.heap.size := ⟨_, rfl⟩
  have hB : Below w.heap.size w W1 := by rw [hW1]; exact (Below.refl _ _).alloc (Nat.le_refl _) _
  have kw : Blk bw pa0 69 W1 := by rw [hW1, hbw]; exact Blk.new _ _ _
  have hbi := hb.below hB hb.lt
  have m1 : ¬ bw = bi := by rw [hbw]; have := hb.lt; omega
  have m2 : ¬ bi = bw := fun e => m1 e.symm
  have HST := Lib.hid (And.intro kw (And.intro hB hbi))
  have HLE := Lib.hid (show w.heap.size ≤ bw by omega)
  have HW1 := Lib.hid (And.intro hW1 hbw)
  clear hb hW1 hbw hB kw hbi
  go_enter Tryd.func37, Tryd.ntmps37
  go_upto_region 2 with (fail)
  rw [← HW1.out.2]
  change Code.wp _ _ _ _ (w.alloc (.cells pa0 69))
  rw [← HW1.out.1]
  clear hmk
  go_wp2_with fail
  refine wp_loop_rounds 5 ?_
  obtain ⟨h0, hB0, hi0⟩ := HST.out
  have G0 := Lib.hid (And.intro hB0 (And.intro hi0 h0))
  clear h0 hB0 hi0 HST
  obtain ⟨A0, hA0⟩ : ∃ W, W = W1.alloc (.cells #[.int .u8 30, .int .u8 0, .int .u8 0, .int .u8 0, .int .i64 7] 69) := ⟨_, rfl⟩
  obtain ⟨t0, ht0⟩ : ∃ b, b = W1.heap.size := ⟨_, rfl⟩
  have hBA : Below w.heap.size w A0 := by rw [hA0]; exact G0.out.1.alloc G0.out.1.size _
  have kt : Blk t0 #[.int .u8 30, .int .u8 0, .int .u8 0, .int .u8 0, .int .i64 7] 69 A0 := by rw [hA0, ht0]; exact Blk.new _ _ _
  have kiA : Blk bi wcA 69 A0 := by rw [hA0]; exact G0.out.2.1.alloc _
  have kwA : Blk bw pa0 69 A0 := by rw [hA0]; exact G0.out.2.2.alloc _
  have HA := Lib.hid (And.intro hA0 ht0)
  have HB := Lib.hid (And.intro hBA (And.intro kt (And.intro kiA kwA)))
  have HFm := Lib.hid (form0 A0)
  have x0 := G0.out.2.1.get 0 (.int .u8 30) rfl
  have x1 := G0.out.2.1.get 1 (.int .u8 0) rfl
  have x2 := G0.out.2.1.get 2 (.int .u8 0) rfl
  have x3 := G0.out.2.1.get 3 (.int .u8 0) rfl
  have x4 := G0.out.2.1.get 4 (.int .i64 7) rfl
  have y0 := kt.get 0 (.int .u8 30) rfl
  have y1 := kt.get 1 (.int .u8 0) rfl
  have y2 := kt.get 2 (.int .u8 0) rfl
  have y3 := kt.get 3 (.int .u8 0) rfl
  have y4 := kt.get 4 (.int .i64 7) rfl
  clear hA0 ht0 hBA kt kiA kwA
  rw [rounds_succ]
  go_upto_region 5 with (fail)
  rw [← HA.out.2]
  change Code.wp _ _ _ _ (W1.alloc (.cells #[.int .u8 30, .int .u8 0, .int .u8 0, .int .u8 0, .int .i64 7] 69))
  rw [← HA.out.1]
  clear x0 x1 x2 x3 x4
  go_wp2_with fail
  refine HFm.out.mono ?_
  rintro e w0' ⟨rfl, hbF⟩
  clear y0 y1 y2 y3 y4
  have kt := HB.out.2.1.below hbF HB.out.2.1.lt
  have kw := HB.out.2.2.2.below hbF HB.out.2.2.2.lt
  have y0 := kt.get 0 (.int .u8 30) rfl
  have y1 := kt.get 1 (.int .u8 0) rfl
  have y2 := kt.get 2 (.int .u8 0) rfl
  have y3 := kt.get 3 (.int .u8 0) rfl
  have y4 := kt.get 4 (.int .i64 7) rfl
  have z0 := kw.get 0 (.int .u8 0) rfl
  have z1 := kw.get 1 (.int .u8 0) rfl
  have z2 := kw.get 2 (.int .u8 0) rfl
  have z3 := kw.get 3 (.int .u8 0) rfl
  have z4 := kw.get 4 (.int .i64 0) rfl
  have v0 := kw.free 0
  have v1 := kw.free 1
  have v2 := kw.free 2
  have v3 := kw.free 3
  have v4 := kw.free 4
  obtain ⟨V1, hV⟩ : ∃ W, W = ((((w0'.setCell ⟨bw, 0, none⟩ (.int .u8 30)).setCell ⟨bw, 1, none⟩ (.int .u8 0)).setCell ⟨bw, 2, none⟩ (.int .u8 0)).setCell ⟨bw, 3, none⟩ (.int .u8 0)).setCell ⟨bw, 4, none⟩ (.int .i64 7) := ⟨_, rfl⟩
  have G1 := Lib.hid (show Below w.heap.size w V1 ∧ Blk bi wcA 69 V1 ∧ Blk bw pa1 69 V1 from by
    rw [hV]
    exact ⟨below1 HLE.out (below1 HLE.out (below1 HLE.out (below1 HLE.out (below1 HLE.out (below_tr HB.out.1 hbF) _) _) _) _) _, (((((HB.out.2.2.1.below hbF HB.out.2.2.1.lt).setOther m2 _ _).setOther m2 _ _).setOther m2 _ _).setOther m2 _ _).setOther m2 _ _,
      ((((kw.set 0 (.int .u8 30)).set 1 (.int .u8 0)).set 2 (.int .u8 0)).set 3 (.int .u8 0)).set 4 (.int .i64 7)⟩)
  have HV := Lib.hid hV
  clear hV kt kw hbF HB HFm HA
  go_wp2_with fail
  rw [← HV.out]
  clear y0 y1 y2 y3 y4 z0 z1 z2 z3 z4 v0 v1 v2 v3 v4 HV
  obtain ⟨A1, hA1⟩ : ∃ W, W = V1.alloc (.cells #[.int .u8 42, .int .u8 0, .int .u8 0, .int .u8 0, .int .i64 0] 69) := ⟨_, rfl⟩
  obtain ⟨t1, ht1⟩ : ∃ b, b = V1.heap.size := ⟨_, rfl⟩
  have hBA : Below w.heap.size w A1 := by rw [hA1]; exact G1.out.1.alloc G1.out.1.size _
  have kt : Blk t1 #[.int .u8 42, .int .u8 0, .int .u8 0, .int .u8 0, .int .i64 0] 69 A1 := by rw [hA1, ht1]; exact Blk.new _ _ _
  have kiA : Blk bi wcA 69 A1 := by rw [hA1]; exact G1.out.2.1.alloc _
  have kwA : Blk bw pa1 69 A1 := by rw [hA1]; exact G1.out.2.2.alloc _
  have HA := Lib.hid (And.intro hA1 ht1)
  have HB := Lib.hid (And.intro hBA (And.intro kt (And.intro kiA kwA)))
  have HFm := Lib.hid (form1 A1)
  have x0 := G1.out.2.1.get 5 (.int .u8 42) rfl
  have x1 := G1.out.2.1.get 6 (.int .u8 0) rfl
  have x2 := G1.out.2.1.get 7 (.int .u8 0) rfl
  have x3 := G1.out.2.1.get 8 (.int .u8 0) rfl
  have x4 := G1.out.2.1.get 9 (.int .i64 0) rfl
  have y0 := kt.get 0 (.int .u8 42) rfl
  have y1 := kt.get 1 (.int .u8 0) rfl
  have y2 := kt.get 2 (.int .u8 0) rfl
  have y3 := kt.get 3 (.int .u8 0) rfl
  have y4 := kt.get 4 (.int .i64 0) rfl
  clear hA1 ht1 hBA kt kiA kwA
  rw [rounds_succ]
  go_upto_region 5 with (fail)
  rw [← HA.out.2]
  change Code.wp _ _ _ _ (V1.alloc (.cells #[.int .u8 42, .int .u8 0, .int .u8 0, .int .u8 0, .int .i64 0] 69))
  rw [← HA.out.1]
  clear x0 x1 x2 x3 x4
  go_wp2_with fail
  refine HFm.out.mono ?_
  rintro e w1' ⟨rfl, hbF⟩
  clear y0 y1 y2 y3 y4
  have kt := HB.out.2.1.below hbF HB.out.2.1.lt
  have kw := HB.out.2.2.2.below hbF HB.out.2.2.2.lt
  have y0 := kt.get 0 (.int .u8 42) rfl
  have y1 := kt.get 1 (.int .u8 0) rfl
  have y2 := kt.get 2 (.int .u8 0) rfl
  have y3 := kt.get 3 (.int .u8 0) rfl
  have y4 := kt.get 4 (.int .i64 0) rfl
  have z0 := kw.get 5 (.int .u8 0) rfl
  have z1 := kw.get 6 (.int .u8 0) rfl
  have z2 := kw.get 7 (.int .u8 0) rfl
  have z3 := kw.get 8 (.int .u8 0) rfl
  have z4 := kw.get 9 (.int .i64 0) rfl
  have v0 := kw.free 5
  have v1 := kw.free 6
  have v2 := kw.free 7
  have v3 := kw.free 8
  have v4 := kw.free 9
  obtain ⟨V2, hV⟩ : ∃ W, W = ((((w1'.setCell ⟨bw, 5, none⟩ (.int .u8 42)).setCell ⟨bw, 6, none⟩ (.int .u8 0)).setCell ⟨bw, 7, none⟩ (.int .u8 0)).setCell ⟨bw, 8, none⟩ (.int .u8 0)).setCell ⟨bw, 9, none⟩ (.int .i64 0) := ⟨_, rfl⟩
  have G2 := Lib.hid (show Below w.heap.size w V2 ∧ Blk bi wcA 69 V2 ∧ Blk bw pa2 69 V2 from by
    rw [hV]
    exact ⟨below1 HLE.out (below1 HLE.out (below1 HLE.out (below1 HLE.out (below1 HLE.out (below_tr HB.out.1 hbF) _) _) _) _) _, (((((HB.out.2.2.1.below hbF HB.out.2.2.1.lt).setOther m2 _ _).setOther m2 _ _).setOther m2 _ _).setOther m2 _ _).setOther m2 _ _,
      ((((kw.set 5 (.int .u8 42)).set 6 (.int .u8 0)).set 7 (.int .u8 0)).set 8 (.int .u8 0)).set 9 (.int .i64 0)⟩)
  have HV := Lib.hid hV
  clear hV kt kw hbF HB HFm HA
  go_wp2_with fail
  rw [← HV.out]
  clear y0 y1 y2 y3 y4 z0 z1 z2 z3 z4 v0 v1 v2 v3 v4 HV
  obtain ⟨A2, hA2⟩ : ∃ W, W = V2.alloc (.cells #[.int .u8 44, .int .u8 0, .int .u8 0, .int .u8 0, .int .i64 0] 69) := ⟨_, rfl⟩
  obtain ⟨t2, ht2⟩ : ∃ b, b = V2.heap.size := ⟨_, rfl⟩
  have hBA : Below w.heap.size w A2 := by rw [hA2]; exact G2.out.1.alloc G2.out.1.size _
  have kt : Blk t2 #[.int .u8 44, .int .u8 0, .int .u8 0, .int .u8 0, .int .i64 0] 69 A2 := by rw [hA2, ht2]; exact Blk.new _ _ _
  have kiA : Blk bi wcA 69 A2 := by rw [hA2]; exact G2.out.2.1.alloc _
  have kwA : Blk bw pa2 69 A2 := by rw [hA2]; exact G2.out.2.2.alloc _
  have HA := Lib.hid (And.intro hA2 ht2)
  have HB := Lib.hid (And.intro hBA (And.intro kt (And.intro kiA kwA)))
  have HFm := Lib.hid (form2 A2)
  have x0 := G2.out.2.1.get 10 (.int .u8 44) rfl
  have x1 := G2.out.2.1.get 11 (.int .u8 0) rfl
  have x2 := G2.out.2.1.get 12 (.int .u8 0) rfl
  have x3 := G2.out.2.1.get 13 (.int .u8 0) rfl
  have x4 := G2.out.2.1.get 14 (.int .i64 0) rfl
  have y0 := kt.get 0 (.int .u8 44) rfl
  have y1 := kt.get 1 (.int .u8 0) rfl
  have y2 := kt.get 2 (.int .u8 0) rfl
  have y3 := kt.get 3 (.int .u8 0) rfl
  have y4 := kt.get 4 (.int .i64 0) rfl
  clear hA2 ht2 hBA kt kiA kwA
  rw [rounds_succ]
  go_upto_region 5 with (fail)
  rw [← HA.out.2]
  change Code.wp _ _ _ _ (V2.alloc (.cells #[.int .u8 44, .int .u8 0, .int .u8 0, .int .u8 0, .int .i64 0] 69))
  rw [← HA.out.1]
  clear x0 x1 x2 x3 x4
  go_wp2_with fail
  refine HFm.out.mono ?_
  rintro e w2' ⟨rfl, hbF⟩
  clear y0 y1 y2 y3 y4
  have kt := HB.out.2.1.below hbF HB.out.2.1.lt
  have kw := HB.out.2.2.2.below hbF HB.out.2.2.2.lt
  have y0 := kt.get 0 (.int .u8 44) rfl
  have y1 := kt.get 1 (.int .u8 0) rfl
  have y2 := kt.get 2 (.int .u8 0) rfl
  have y3 := kt.get 3 (.int .u8 0) rfl
  have y4 := kt.get 4 (.int .i64 0) rfl
  have z0 := kw.get 10 (.int .u8 0) rfl
  have z1 := kw.get 11 (.int .u8 0) rfl
  have z2 := kw.get 12 (.int .u8 0) rfl
  have z3 := kw.get 13 (.int .u8 0) rfl
  have z4 := kw.get 14 (.int .i64 0) rfl
  have v0 := kw.free 10
  have v1 := kw.free 11
  have v2 := kw.free 12
  have v3 := kw.free 13
  have v4 := kw.free 14
  obtain ⟨V3, hV⟩ : ∃ W, W = ((((w2'.setCell ⟨bw, 10, none⟩ (.int .u8 44)).setCell ⟨bw, 11, none⟩ (.int .u8 0)).setCell ⟨bw, 12, none⟩ (.int .u8 0)).setCell ⟨bw, 13, none⟩ (.int .u8 0)).setCell ⟨bw, 14, none⟩ (.int .i64 0) := ⟨_, rfl⟩
  have G3 := Lib.hid (show Below w.heap.size w V3 ∧ Blk bi wcA 69 V3 ∧ Blk bw pa3 69 V3 from by
    rw [hV]
    exact ⟨below1 HLE.out (below1 HLE.out (below1 HLE.out (below1 HLE.out (below1 HLE.out (below_tr HB.out.1 hbF) _) _) _) _) _, (((((HB.out.2.2.1.below hbF HB.out.2.2.1.lt).setOther m2 _ _).setOther m2 _ _).setOther m2 _ _).setOther m2 _ _).setOther m2 _ _,
      ((((kw.set 10 (.int .u8 44)).set 11 (.int .u8 0)).set 12 (.int .u8 0)).set 13 (.int .u8 0)).set 14 (.int .i64 0)⟩)
  have HV := Lib.hid hV
  clear hV kt kw hbF HB HFm HA
  go_wp2_with fail
  rw [← HV.out]
  clear y0 y1 y2 y3 y4 z0 z1 z2 z3 z4 v0 v1 v2 v3 v4 HV
  obtain ⟨A3, hA3⟩ : ∃ W, W = V3.alloc (.cells #[.int .u8 47, .int .u8 0, .int .u8 0, .int .u8 0, .int .i64 0] 69) := ⟨_, rfl⟩
  obtain ⟨t3, ht3⟩ : ∃ b, b = V3.heap.size := ⟨_, rfl⟩
  have hBA : Below w.heap.size w A3 := by rw [hA3]; exact G3.out.1.alloc G3.out.1.size _
  have kt : Blk t3 #[.int .u8 47, .int .u8 0, .int .u8 0, .int .u8 0, .int .i64 0] 69 A3 := by rw [hA3, ht3]; exact Blk.new _ _ _
  have kiA : Blk bi wcA 69 A3 := by rw [hA3]; exact G3.out.2.1.alloc _
  have kwA : Blk bw pa3 69 A3 := by rw [hA3]; exact G3.out.2.2.alloc _
  have HA := Lib.hid (And.intro hA3 ht3)
  have HB := Lib.hid (And.intro hBA (And.intro kt (And.intro kiA kwA)))
  have HFm := Lib.hid (form3 A3)
  have x0 := G3.out.2.1.get 15 (.int .u8 47) rfl
  have x1 := G3.out.2.1.get 16 (.int .u8 0) rfl
  have x2 := G3.out.2.1.get 17 (.int .u8 0) rfl
  have x3 := G3.out.2.1.get 18 (.int .u8 0) rfl
  have x4 := G3.out.2.1.get 19 (.int .i64 0) rfl
  have y0 := kt.get 0 (.int .u8 47) rfl
  have y1 := kt.get 1 (.int .u8 0) rfl
  have y2 := kt.get 2 (.int .u8 0) rfl
  have y3 := kt.get 3 (.int .u8 0) rfl
  have y4 := kt.get 4 (.int .i64 0) rfl
  clear hA3 ht3 hBA kt kiA kwA
  rw [rounds_succ]
  go_upto_region 5 with (fail)
  rw [← HA.out.2]
  change Code.wp _ _ _ _ (V3.alloc (.cells #[.int .u8 47, .int .u8 0, .int .u8 0, .int .u8 0, .int .i64 0] 69))
  rw [← HA.out.1]
  clear x0 x1 x2 x3 x4
  go_wp2_with fail
  refine HFm.out.mono ?_
  rintro e w3' ⟨rfl, hbF⟩
  clear y0 y1 y2 y3 y4
  have kt := HB.out.2.1.below hbF HB.out.2.1.lt
  have kw := HB.out.2.2.2.below hbF HB.out.2.2.2.lt
  have y0 := kt.get 0 (.int .u8 47) rfl
  have y1 := kt.get 1 (.int .u8 0) rfl
  have y2 := kt.get 2 (.int .u8 0) rfl
  have y3 := kt.get 3 (.int .u8 0) rfl
  have y4 := kt.get 4 (.int .i64 0) rfl
  have z0 := kw.get 15 (.int .u8 0) rfl
  have z1 := kw.get 16 (.int .u8 0) rfl
  have z2 := kw.get 17 (.int .u8 0) rfl
  have z3 := kw.get 18 (.int .u8 0) rfl
  have z4 := kw.get 19 (.int .i64 0) rfl
  have v0 := kw.free 15
  have v1 := kw.free 16
  have v2 := kw.free 17
  have v3 := kw.free 18
  have v4 := kw.free 19
  obtain ⟨V4, hV⟩ : ∃ W, W = ((((w3'.setCell ⟨bw, 15, none⟩ (.int .u8 47)).setCell ⟨bw, 16, none⟩ (.int .u8 0)).setCell ⟨bw, 17, none⟩ (.int .u8 0)).setCell ⟨bw, 18, none⟩ (.int .u8 0)).setCell ⟨bw, 19, none⟩ (.int .i64 0) := ⟨_, rfl⟩
  have G4 := Lib.hid (show Below w.heap.size w V4 ∧ Blk bi wcA 69 V4 ∧ Blk bw pa4 69 V4 from by
    rw [hV]
    exact ⟨below1 HLE.out (below1 HLE.out (below1 HLE.out (below1 HLE.out (below1 HLE.out (below_tr HB.out.1 hbF) _) _) _) _) _, (((((HB.out.2.2.1.below hbF HB.out.2.2.1.lt).setOther m2 _ _).setOther m2 _ _).setOther m2 _ _).setOther m2 _ _).setOther m2 _ _,
      ((((kw.set 15 (.int .u8 47)).set 16 (.int .u8 0)).set 17 (.int .u8 0)).set 18 (.int .u8 0)).set 19 (.int .i64 0)⟩)
  have HV := Lib.hid hV
  clear hV kt kw hbF HB HFm HA
  go_wp2_with fail
  rw [← HV.out]
  clear y0 y1 y2 y3 y4 z0 z1 z2 z3 z4 v0 v1 v2 v3 v4 HV
  rw [rounds_succ]
  go_wp2_with fail
  go_ret
  exact ⟨bw, rfl, HLE.out, G4.out.2.2, G4.out.1⟩
end Go.Proofs.YtepnjhbolaebmaaDoor
