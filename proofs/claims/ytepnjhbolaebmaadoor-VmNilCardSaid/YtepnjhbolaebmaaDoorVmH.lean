/-
  The document's example of layer 22.
-/
import Derived.Test.YtepnjhbolaebmaaDoorVmG
namespace Go.Proofs.YtepnjhbolaebmaaDoor
open Go Go.RowKit Ib

def LawV (w W : World) (e : Ending) : Prop := e = .returned (.bool true) ∧ Below w.heap.size w W
theorem Fm.cell {bm bc g j : Nat} {W W' : World} {v : Value} (h : Fm bm bc W W') (hc : W.cell? ⟨g, j, none⟩ = some v) (h1 : g ≠ bm) (h2 : g ≠ bc) : W'.cell? ⟨g, j, none⟩ = some v := by
  have h3 := h.block g (lt_of_cell hc) h1 h2
  unfold World.cell? at hc ⊢
  rw [h3]
  exact hc
theorem fSt2 : ∀ (v0 v1 v2 v3 v4 v5 v6 : Value) (w : World), (Instr.field 39 (.agg #[v0, v1, v2, v3, v4, v5, v6]) 2).run Tryd.prog w = .ok v2 w := fun _ _ _ _ _ _ _ _ => by kernel_rfl
set_option maxRecDepth 100000 in
set_option maxHeartbeats 3200000 in
theorem awake_vm (w : World) : Calls Tryd.prog 10 #[] w fun e w' => LawV w w' e := by
  obtain ⟨W1, hW1⟩ : ∃ W, W = ((w.alloc (.cells wcA 69)).alloc (.cells #[I 0, I 0] 76)).alloc (.cells (imA w.heap.size (w.heap.size + 1)) 26) := ⟨_, rfl⟩
  obtain ⟨b1, hb1⟩ : ∃ b, b = w.heap.size + 1 + 1 := ⟨_, rfl⟩
  obtain ⟨bi, hbi⟩ : ∃ b, b = w.heap.size := ⟨_, rfl⟩
  obtain ⟨bj, hbj⟩ : ∃ b, b = w.heap.size + 1 := ⟨_, rfl⟩
  have hB1 : Below w.heap.size w W1 := by rw [hW1]; exact (((Below.refl _ _).alloc (Nat.le_refl _) _).alloc (by simp) _).alloc (by simp; omega) _
  have ki : Blk bi wcA 69 W1 := by rw [hW1, hbi]; exact ((Blk.new _ _ _).alloc _).alloc _
  have kj : Blk bj #[I 0, I 0] 76 W1 := by rw [hW1, hbj]; exact (Blk.new' _ _ _ (by simp)).alloc _
  have k1 : Blk b1 (imA bi bj) 26 W1 := by rw [hW1, hb1, hbi, hbj]; exact Blk.new' _ _ _ (by simp)
  have HN := Lib.hid (new_ex bi bj W1 ki kj)
  have x0 := k1.get 0 (.slice (some ⟨bi, 0, none⟩) 4 4) rfl
  have x1 := k1.get 1 (.slice (some ⟨bj, 0, none⟩) 1 1) rfl
  have x2 := k1.get 2 (I 0) rfl
  have x3 := k1.get 3 nilS rfl
  have H1 := Lib.hid hB1
  have HW1 := Lib.hid (And.intro hW1 hb1)
  clear hW1 hb1 hbi hbj hB1 ki kj k1
  have hfs := fSt2
  go_enter Tryd.func10, Tryd.ntmps10
  go_upto_region 2 with (fail)
  rw [← HW1.out.2]
  change Code.wp _ _ _ _ (((w.alloc (.cells wcA 69)).alloc (.cells #[I 0, I 0] 76)).alloc (.cells (imA w.heap.size (w.heap.size + 1)) 26))
  rw [← HW1.out.1]
  go_wp2_with fail
  refine HN.out.mono ?_
  rintro e w2 ⟨bm, bw, be, ec, bc, rfl, hb2, hm2, hc2, hw2, n1, n2, n3, hle1, hle2⟩
  have hB2 := below_tr H1.out hb2
  have hl1 : w.heap.size ≤ bm := Nat.le_trans H1.out.size hle1
  have hl2 : w.heap.size ≤ bc := Nat.le_trans H1.out.size hle2
  have HR := Lib.hid (Run_any bm 2 2 w2 _ (run_two bm bw be bc ec w.heap.size w2 hm2 hc2 hw2 n1 n2 n3 hB2.size))
  have H2 := Lib.hid (And.intro hB2 (And.intro hw2 (And.intro n1 (And.intro n2 (And.intro n3 (And.intro hl1 hl2))))))
  clear x0 x1 x2 x3 hb2 hm2 hc2 hw2 n1 n2 n3 hle1 hle2 hB2 hl1 hl2 HN
  go_wp2_with fail
  refine HR.out.mono ?_
  rintro e w3 ⟨rfl, hf3, g, cap, hg1, hg2, hg3, hcap, hgc, hm3, hc3⟩
  have hw3 := hf3.blk H2.out.2.1 H2.out.2.2.2.1 H2.out.2.2.2.2.1
  have HS := Lib.hid (status_one bm bw be bc ec g cap 2 0 0 1 0 1 w3 hm3 hgc)
  have H3 := Lib.hid (And.intro (H2.out.1.trans (hf3.below H2.out.2.2.2.2.2.1 H2.out.2.2.2.2.2.2 H2.out.1.size)) (And.intro hm3 (And.intro hc3 (And.intro hw3 (And.intro hgc (And.intro hg2 hg3))))))
  clear hf3 hg1 hg2 hg3 hcap hgc hm3 hc3 hw3 HR
  go_wp2_with fail
  refine HS.out.mono ?_
  rintro e w4 ⟨g', cap', rfl, hg4, hb4⟩
  obtain ⟨W5, hW5⟩ : ∃ W, W = w4.alloc (.cells #[I 7] 2) := ⟨_, rfl⟩
  obtain ⟨b5, hb5⟩ : ∃ b, b = w4.heap.size := ⟨_, rfl⟩
  have hB5 : Below w3.heap.size w3 W5 := by rw [hW5]; exact hb4.alloc hb4.size _
  have k5 : Blk b5 #[I 7] 2 W5 := by rw [hW5, hb5]; exact Blk.new _ _ _
  have hg5 : W5.cell? ⟨g', 0, none⟩ = some (I 7) := by rw [hW5]; exact cellA_below ((Below.refl _ _).alloc (Nat.le_refl _) _) (lt_of_cell hg4) hg4
  have HQ := Lib.hid (same_one g' cap' b5 1 W5 hg5 (k5.get 0 _ rfl))
  have H5 := Lib.hid (show Below w.heap.size w W5 ∧ Below w3.heap.size w3 W5 from ⟨below_tr H3.out.1 hB5, hB5⟩)
  have HW5 := Lib.hid (And.intro hW5 hb5)
  clear hg4 hb4 hW5 hb5 hB5 k5 hg5 HS
  go_wp2_with fail
  rw [← HW5.out.2]
  change Calls _ _ _ (w4.alloc (.cells #[I 7] 2)) _
  rw [← HW5.out.1]
  refine HQ.out.mono ?_
  rintro e w6 ⟨rfl, q, hq⟩
  have hb36 : Below w3.heap.size w3 w6 := by rw [hq]; exact below_drewN H5.out.2 q
  have hB6 : Below w.heap.size w w6 := by rw [hq]; exact below_drewN H5.out.1 q
  have hm6 := H3.out.2.1.below hb36 H3.out.2.1.lt
  have hc6 := H3.out.2.2.1.below hb36 H3.out.2.2.1.lt
  have hw6 := H3.out.2.2.2.1.below hb36 H3.out.2.2.2.1.lt
  have hg6 := cellA_below hb36 (lt_of_cell H3.out.2.2.2.2.1) H3.out.2.2.2.2.1
  have HT := Lib.hid (toMark_nine bm bw be bc ec _ w6 hm6 hc6 hw6 H2.out.2.2.1 H2.out.2.2.2.1 H2.out.2.2.2.2.1)
  have H6 := Lib.hid (And.intro hB6 (And.intro hw6 hg6))
  clear hq hb36 hB6 hm6 hc6 hw6 hg6 HQ
  go_wp2_with fail
  refine HT.out.mono ?_
  rintro e w7 ⟨rfl, hf7, hm7, hc7⟩
  have hw7 := hf7.blk H6.out.2.1 H2.out.2.2.2.1 H2.out.2.2.2.2.1
  have hg7 := hf7.cell H6.out.2.2 H3.out.2.2.2.2.2.1 H3.out.2.2.2.2.2.2
  have HR := Lib.hid (Run_any bm 9 1 w7 _ (run_end bm bw be bc ec _ w7 hm7 hc7 hw7 H2.out.2.2.1 H2.out.2.2.2.1 H2.out.2.2.2.2.1))
  have H7 := Lib.hid (And.intro (H6.out.1.trans (hf7.below H2.out.2.2.2.2.2.1 H2.out.2.2.2.2.2.2 H6.out.1.size)) hg7)
  clear hf7 hm7 hc7 hw7 hg7 HT
  go_wp2_with fail
  refine HR.out.mono ?_
  rintro e w8 ⟨rfl, hf8, hm8⟩
  have hg8 := hf8.cell H7.out.2 H3.out.2.2.2.2.2.1 H3.out.2.2.2.2.2.2
  have HS := Lib.hid (status_one bm bw be bc ec g cap 4 1 7 3 1 0 w8 hm8 hg8)
  have H8 := Lib.hid (H7.out.1.trans (hf8.below H2.out.2.2.2.2.2.1 H2.out.2.2.2.2.2.2 H7.out.1.size))
  clear hf8 hm8 hg8 HR
  go_wp2_with fail
  refine HS.out.mono ?_
  rintro e w9 ⟨g9, cap9, rfl, hg9, hb9⟩
  have FIN := Lib.hid (fun o => show LawV w (w9.alloc o) (.returned (.bool true)) from ⟨rfl, (below_tr H8.out hb9).alloc (below_tr H8.out hb9).size o⟩)
  clear hg9 hb9 HS
  go_wp2_with fail
  go_ret
  exact FIN.out _
end Go.Proofs.YtepnjhbolaebmaaDoor
