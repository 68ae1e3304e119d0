/-
  The machine of the document's example is made.
-/
import Derived.Test.YtepnjhbolaebmaaDoorVmF
namespace Go.Proofs.YtepnjhbolaebmaaDoor
open Go Go.RowKit Ib

abbrev m0A (be ec : Nat) : Array Value := #[nilS, .slice (some ⟨be, 0, none⟩) 1 ec, I 0, nilS, I 0, .int .u8 0, I 0, I 0, I 0, I 0, nilS, nilS, nilS]
abbrev m1A (bw be ec : Nat) : Array Value := #[.slice (some ⟨bw, 0, none⟩) 4 4, .slice (some ⟨be, 0, none⟩) 1 ec, I 0, nilS, I 0, .int .u8 0, I 0, I 0, I 0, I 0, nilS, nilS, nilS]
abbrev imA (bi bj : Nat) : Array Value := #[.slice (some ⟨bi, 0, none⟩) 4 4, .slice (some ⟨bj, 0, none⟩) 1 1, I 0, nilS]
set_option maxRecDepth 100000 in
set_option maxHeartbeats 3200000 in
theorem new_ex (bi bj : Nat) (w : World) (hi : Blk bi wcA 69 w) (hj : Blk bj #[I 0, I 0] 76 w) :
    Calls Tryd.prog 12 #[.agg (imA bi bj), nilS] w fun e w' => ∃ bm bw be ec bc, e = .returned (.tuple #[.pointer (some ⟨bm, 0, none⟩), I 0]) ∧ Below w.heap.size w w' ∧ Blk bm (mcA bw be ec bc 0 0 0 0 0 nilS 1) Mt w' ∧ Blk bc (ccA 0 0) Ct w' ∧ Blk bw wcA 69 w' ∧ bm ≠ bc ∧ bw ≠ bm ∧ bw ≠ bc ∧ w.heap.size ≤ bm ∧ w.heap.size ≤ bc := by
  obtain ⟨W1, hW1⟩ : ∃ W, W = w.alloc (.cells (imA bi bj) 26) := ⟨_, rfl⟩
  obtain ⟨bx, hbx⟩ : ∃ b, b = w.heap.size := ⟨_, rfl⟩
  have hB1 : Below w.heap.size w W1 := by rw [hW1]; exact (Below.refl _ _).alloc (Nat.le_refl _) _
  have kx : Blk bx (imA bi bj) 26 W1 := by rw [hW1, hbx]; exact Blk.new _ _ _
  have hi1 := hi.below hB1 hi.lt
  have hj1 := hj.below hB1 hj.lt
  have x1 := kx.get 1 (.slice (some ⟨bj, 0, none⟩) 1 1) rfl
  have x2 := kx.get 2 (I 0) rfl
  have H1 := Lib.hid (And.intro hB1 (And.intro kx (And.intro hi1 hj1)))
  have HW1 := Lib.hid (And.intro hW1 hbx)
  clear hi hj hW1 hbx hB1 kx hi1 hj1
  go_enter Tryd.func12, Tryd.ntmps12
  go_upto_region 1 with (fail)
  rw [← HW1.out.2]
  change Code.wp _ _ _ _ (w.alloc (.cells (imA bi bj) 26))
  rw [← HW1.out.1]
  go_upto_region 3 with (fail)
  obtain ⟨V, hV⟩ : ∃ V, V = W1.drew := ⟨_, rfl⟩
  have kV : Blk bx (imA bi bj) 26 V := by rw [hV]; exact H1.out.2.1.drewN 1
  have jV : Blk bj #[I 0, I 0] 76 V := by rw [hV]; exact H1.out.2.2.2.drewN 1
  have iV : Blk bi wcA 69 V := by rw [hV]; exact H1.out.2.2.1.drewN 1
  have bV : Below w.heap.size w V := by rw [hV]; exact below_drewN H1.out.1 1
  have hS : V.cell? ⟨bx, 1, none⟩ = some (.slice (some ⟨bj, 0, none⟩) 1 1) ∧ V.cell? ⟨bx, 2, none⟩ = some (I 0) := ⟨kV.get 1 _ rfl, kV.get 2 _ rfl⟩
  have HC := Lib.hid (cloneE_one bj V jV)
  have HN := Lib.hid cloneI_nil
  have HV := Lib.hid (And.intro kV (And.intro iV bV))
  refine wp_region_dep (S := fun W : World => W.cell? ⟨bx, 1, none⟩ = some (.slice (some ⟨bj, 0, none⟩) 1 1) ∧ W.cell? ⟨bx, 2, none⟩ = some (I 0)) (dep := []) (by kernel_rfl) ?_
  change wpAnyD _ _ _ _ _ _ _ _ _ (World.drew _)
  rw [← hV]
  clear hV kV jV iV bV x1 x2
  refine wpAnyD_take (i := 0) (v := ?_) rfl (by kernel_rfl) (by kernel_rfl) (by kernel_rfl) (by kernel_rfl) (by kernel_rfl) (fun _ _ _ h => h) hS (Or.inl ⟨by rfl, ?_⟩) ?_
  rotate_left
  · intro w hSw; obtain ⟨s1, s2⟩ := hSw; go_simp
    try with_reducible rfl
  try simp only [Act.put, List.setIfInBounds_toArray, List.set_cons_zero, List.set_cons_succ]
  refine wpAnyD_take (i := 1) (v := ?_) rfl (by kernel_rfl) (by kernel_rfl) (by kernel_rfl) (by kernel_rfl) (by kernel_rfl) (fun _ _ _ h => h) hS (Or.inl ⟨by rfl, ?_⟩) ?_
  rotate_left
  · intro w hSw; obtain ⟨s1, s2⟩ := hSw; go_simp
    try with_reducible rfl
  try simp only [Act.put, List.setIfInBounds_toArray, List.set_cons_zero, List.set_cons_succ]
  refine wpAnyD_take (i := 3) (v := ?_) rfl (by kernel_rfl) (by kernel_rfl) (by kernel_rfl) (by kernel_rfl) (by kernel_rfl) (fun _ _ _ h => h) hS (Or.inl ⟨by rfl, ?_⟩) ?_
  rotate_left
  · intro w hSw; obtain ⟨s1, s2⟩ := hSw; go_simp
    try with_reducible rfl
  try simp only [Act.put, List.setIfInBounds_toArray, List.set_cons_zero, List.set_cons_succ]
  refine wpAnyD_take (i := 4) (v := ?_) rfl (by kernel_rfl) (by kernel_rfl) (by kernel_rfl) (by kernel_rfl) (by kernel_rfl) (fun _ _ _ h => h) hS (Or.inl ⟨by rfl, ?_⟩) ?_
  rotate_left
  · intro w hSw; obtain ⟨s1, s2⟩ := hSw; go_simp
    try with_reducible rfl
  try simp only [Act.put, List.setIfInBounds_toArray, List.set_cons_zero, List.set_cons_succ]
  refine wpAnyD_take (i := 5) (v := ?_) rfl (by kernel_rfl) (by kernel_rfl) (by kernel_rfl) (by kernel_rfl) (by kernel_rfl) (fun _ _ _ h => h) hS (Or.inl ⟨by rfl, ?_⟩) ?_
  rotate_left
  · intro w hSw; obtain ⟨s1, s2⟩ := hSw; go_simp
    try with_reducible rfl
  try simp only [Act.put, List.setIfInBounds_toArray, List.set_cons_zero, List.set_cons_succ]
  clear hS
  refine wpAnyD_one (i := 2) rfl (by kernel_rfl) rfl (fun K hK => ?_)
  go_simp
  refine HC.out.mono ?_
  rintro e w2 ⟨be, ec, rfl, hbe, he0, he1, hb2⟩
  have kx2 := HV.out.1.below hb2 HV.out.1.lt
  have hS2 : w2.cell? ⟨bx, 1, none⟩ = some (.slice (some ⟨bj, 0, none⟩) 1 1) ∧ w2.cell? ⟨bx, 2, none⟩ = some (I 0) := ⟨kx2.get 1 _ rfl, kx2.get 2 _ rfl⟩
  have H2 := Lib.hid (And.intro kx2 (And.intro (HV.out.2.1.below hb2 HV.out.2.1.lt) (And.intro (below_tr HV.out.2.2 hb2) (And.intro he0 (And.intro he1 (And.intro (lt_of_cell he0) hbe))))))
  refine hK _ _ (Or.inr hS2) ?_
  clear hK K kx2 hb2 he0 he1 hbe HC
  try simp only [Act.put, List.setIfInBounds_toArray, List.set_cons_zero, List.set_cons_succ]
  refine wpAnyD_one (i := 6) rfl (by kernel_rfl) rfl (fun K hK => ?_)
  go_simp
  refine (HN.out w2).mono ?_
  rintro e w3 ⟨rfl, rfl⟩
  refine hK _ _ (Or.inr hS2) ?_
  clear hK K HN
  try simp only [Act.put, List.setIfInBounds_toArray, List.set_cons_zero, List.set_cons_succ]
  refine wpAnyD_one (i := 7) rfl (by kernel_rfl) rfl (fun K hK => ?_)
  go_simp
  refine hK _ _ (Or.inr hS2) ?_
  clear hK K
  try simp only [Act.put, List.setIfInBounds_toArray, List.set_cons_zero, List.set_cons_succ]
  refine wpAnyD_one (i := 8) rfl (by kernel_rfl) rfl (fun K hK => ?_)
  go_simp
  refine hK _ _ (Or.inr ⟨(H2.out.1.alloc _).get 1 _ rfl, (H2.out.1.alloc _).get 2 _ rfl⟩) ?_
  clear hK K
  try simp only [Act.put, List.setIfInBounds_toArray, List.set_cons_zero, List.set_cons_succ]
  refine wpAnyD_one (i := 9) rfl (by kernel_rfl) rfl (fun K hK => ?_)
  go_simp
  refine hK _ _ (Or.inr ⟨(H2.out.1.alloc _).get 1 _ rfl, (H2.out.1.alloc _).get 2 _ rfl⟩) ?_
  clear hK K hS2
  try simp only [Act.put, List.setIfInBounds_toArray, List.set_cons_zero, List.set_cons_succ]
  refine wpAnyD_done (by kernel_rfl) ?_ _
  obtain ⟨W3, hW3⟩ : ∃ W, W = w2.alloc (.cells (m0A be ec) Mt) := ⟨_, rfl⟩
  obtain ⟨bm, hbm⟩ : ∃ b, b = w2.heap.size := ⟨_, rfl⟩
  have hB3 : Below w2.heap.size w2 W3 := by rw [hW3]; exact (Below.refl _ _).alloc (Nat.le_refl _) _
  have km : Blk bm (m0A be ec) Mt W3 := by rw [hW3, hbm]; exact Blk.new _ _ _
  have kx3 := H2.out.1.below hB3 H2.out.1.lt
  have HRm := Lib.hid (room_zero bm be ec (m0A be ec) W3 km rfl (cellA_below hB3 (lt_of_cell H2.out.2.2.2.2.1) H2.out.2.2.2.2.1))
  have HRi := Lib.hid (right_four bi W3 (H2.out.2.1.below hB3 H2.out.2.1.lt))
  have y2 := km.get 2 (I 0) rfl
  have x0 := kx3.get 0 (.slice (some ⟨bi, 0, none⟩) 4 4) rfl
  have H3 := Lib.hid (And.intro hB3 (And.intro km (And.intro (below_tr H2.out.2.2.1 hB3) (show w.heap.size ≤ bm ∧ be < bm ∧ bx < bm by rw [hbm]; exact ⟨H2.out.2.2.1.size, H2.out.2.2.2.2.2.1, H2.out.1.lt⟩))))
  have HW3 := Lib.hid (And.intro hW3 hbm)
  clear hW3 hbm hB3 km kx3
  rw [← HW3.out.2]
  change Exit.then _ _ _ _ (w2.alloc (.cells (m0A be ec) Mt))
  rw [← HW3.out.1]
  go_wp2_with fail
  refine HRm.out.mono ?_
  rintro e w4 ⟨rfl, rfl⟩
  clear HRm
  go_wp2_with fail
  refine HRi.out.mono ?_
  rintro e w4 ⟨bw, rfl, hbw, kw4, hb4⟩
  have km4 := H3.out.2.1.below hb4 H3.out.2.1.lt
  have he4 := cellA_below (below_tr H3.out.1 hb4) (lt_of_cell H2.out.2.2.2.1) H2.out.2.2.2.1
  obtain ⟨W5, hW5⟩ : ∃ W, W = w4.setCell ⟨bm, 0, none⟩ (.slice (some ⟨bw, 0, none⟩) 4 4) := ⟨_, rfl⟩
  have km5 : Blk bm (m1A bw be ec) Mt W5 := by rw [hW5]; exact km4.set 0 _
  have n2 : bw ≠ bm := by have := H3.out.2.1.lt; omega
  have kw5 : Blk bw wcA 69 W5 := by rw [hW5]; exact kw4.setOther n2 0 _
  have he5 : W5.cell? ⟨be, 0, none⟩ = some (I 0) := by rw [hW5]; exact cell_other (by have := H3.out.2.2.2; omega) he4
  have hb5 : Below w.heap.size w W5 := by rw [hW5]; exact below1 H3.out.2.2.2.1 (below_tr H3.out.2.2.1 hb4) _
  have H5 := Lib.hid (And.intro km5 (And.intro kw5 (And.intro he5 (And.intro hb5 n2))))
  have z0 := km4.get 0 nilS rfl
  have v0 := km4.free 0
  have HW5 := Lib.hid hW5
  clear hbw kw4 hb4 km4 he4 hW5 km5 n2 kw5 he5 hb5 HRi x0 y2
  go_upto_region 7 with (fail)
  rw [← HW5.out]
  clear z0 v0
  obtain ⟨U, hU⟩ : ∃ U, U = W5.drew := ⟨_, rfl⟩
  have kmU : Blk bm (m1A bw be ec) Mt U := by rw [hU]; exact H5.out.1.drewN 1
  have kwU : Blk bw wcA 69 U := by rw [hU]; exact H5.out.2.1.drewN 1
  have heU : U.cell? ⟨be, 0, none⟩ = some (I 0) := by rw [hU]; exact H5.out.2.2.1
  have hbU : Below w.heap.size w U := by rw [hU]; exact below_drewN H5.out.2.2.2.1 1
  have hS : U.cell? ⟨bm, 2, none⟩ = some (I 0) ∧ U.cell? ⟨bm, 1, none⟩ = some (.slice (some ⟨be, 0, none⟩) 1 ec) ∧ U.cell? ⟨be, 0, none⟩ = some (I 0) := ⟨kmU.get 2 _ rfl, kmU.get 1 _ rfl, heU⟩
  have HU := Lib.hid (And.intro kmU (And.intro kwU (And.intro heU hbU)))
  refine wp_region_dep (S := fun W : World => W.cell? ⟨bm, 2, none⟩ = some (I 0) ∧ W.cell? ⟨bm, 1, none⟩ = some (.slice (some ⟨be, 0, none⟩) 1 ec) ∧ W.cell? ⟨be, 0, none⟩ = some (I 0)) (dep := [21]) (by kernel_rfl) ?_
  change wpAnyD _ _ _ _ _ _ _ _ _ (World.drew _)
  rw [← hU]
  clear hU kmU kwU heU hbU
  refine wpAnyD_take (i := 0) (v := ?_) rfl (by kernel_rfl) (by kernel_rfl) (by kernel_rfl) (by kernel_rfl) (by kernel_rfl) (fun _ _ _ h => h) hS (Or.inl ⟨by rfl, ?_⟩) ?_
  rotate_left
  · intro w hSw; obtain ⟨s1, s2, s3⟩ := hSw; go_simp
    try with_reducible rfl
  try simp only [Act.put, List.setIfInBounds_toArray, List.set_cons_zero, List.set_cons_succ]
  refine wpAnyD_take (i := 1) (v := ?_) rfl (by kernel_rfl) (by kernel_rfl) (by kernel_rfl) (by kernel_rfl) (by kernel_rfl) (fun _ _ _ h => h) hS (Or.inl ⟨by rfl, ?_⟩) ?_
  rotate_left
  · intro w hSw; obtain ⟨s1, s2, s3⟩ := hSw; go_simp
    try with_reducible rfl
  try simp only [Act.put, List.setIfInBounds_toArray, List.set_cons_zero, List.set_cons_succ]
  refine wpAnyD_take (i := 2) (v := ?_) rfl (by kernel_rfl) (by kernel_rfl) (by kernel_rfl) (by kernel_rfl) (by kernel_rfl) (fun _ _ _ h => h) hS (Or.inl ⟨by rfl, ?_⟩) ?_
  rotate_left
  · intro w hSw; obtain ⟨s1, s2, s3⟩ := hSw; go_simp
    try with_reducible rfl
  try simp only [Act.put, List.setIfInBounds_toArray, List.set_cons_zero, List.set_cons_succ]
  refine wpAnyD_take (i := 3) (v := ?_) rfl (by kernel_rfl) (by kernel_rfl) (by kernel_rfl) (by kernel_rfl) (by kernel_rfl) (fun _ _ _ h => h) hS (Or.inl ⟨by rfl, ?_⟩) ?_
  rotate_left
  · intro w hSw; obtain ⟨s1, s2, s3⟩ := hSw; go_simp
    try with_reducible rfl
  try simp only [Act.put, List.setIfInBounds_toArray, List.set_cons_zero, List.set_cons_succ]
  refine wpAnyD_take (i := 4) (v := ?_) rfl (by kernel_rfl) (by kernel_rfl) (by kernel_rfl) (by kernel_rfl) (by kernel_rfl) (fun _ _ _ h => h) hS (Or.inl ⟨by rfl, ?_⟩) ?_
  rotate_left
  · intro w hSw; obtain ⟨s1, s2, s3⟩ := hSw; go_simp
    try with_reducible rfl
  try simp only [Act.put, List.setIfInBounds_toArray, List.set_cons_zero, List.set_cons_succ]
  refine wpAnyD_take (i := 5) (v := ?_) rfl (by kernel_rfl) (by kernel_rfl) (by kernel_rfl) (by kernel_rfl) (by kernel_rfl) (fun _ _ _ h => h) hS (Or.inl ⟨by rfl, ?_⟩) ?_
  rotate_left
  · intro w hSw; obtain ⟨s1, s2, s3⟩ := hSw; go_simp
    try with_reducible rfl
  try simp only [Act.put, List.setIfInBounds_toArray, List.set_cons_zero, List.set_cons_succ]
  refine wpAnyD_take (i := 6) (v := ?_) rfl (by kernel_rfl) (by kernel_rfl) (by kernel_rfl) (by kernel_rfl) (by kernel_rfl) (fun _ _ _ h => h) hS (Or.inl ⟨by rfl, ?_⟩) ?_
  rotate_left
  · intro w hSw; obtain ⟨s1, s2, s3⟩ := hSw; go_simp
    try with_reducible rfl
  try simp only [Act.put, List.setIfInBounds_toArray, List.set_cons_zero, List.set_cons_succ]
  refine wpAnyD_take (i := 7) (v := ?_) rfl (by kernel_rfl) (by kernel_rfl) (by kernel_rfl) (by kernel_rfl) (by kernel_rfl) (fun _ _ _ h => h) hS (Or.inl ⟨by rfl, ?_⟩) ?_
  rotate_left
  · intro w hSw; obtain ⟨s1, s2, s3⟩ := hSw; go_simp
    try with_reducible rfl
  try simp only [Act.put, List.setIfInBounds_toArray, List.set_cons_zero, List.set_cons_succ]
  refine wpAnyD_take (i := 8) (v := ?_) rfl (by kernel_rfl) (by kernel_rfl) (by kernel_rfl) (by kernel_rfl) (by kernel_rfl) (fun _ _ _ h => h) hS (Or.inl ⟨by rfl, ?_⟩) ?_
  rotate_left
  · intro w hSw; obtain ⟨s1, s2, s3⟩ := hSw; go_simp
    try with_reducible rfl
  try simp only [Act.put, List.setIfInBounds_toArray, List.set_cons_zero, List.set_cons_succ]
  refine wpAnyD_take (i := 9) (v := ?_) rfl (by kernel_rfl) (by kernel_rfl) (by kernel_rfl) (by kernel_rfl) (by kernel_rfl) (fun _ _ _ h => h) hS (Or.inl ⟨by rfl, ?_⟩) ?_
  rotate_left
  · intro w hSw; obtain ⟨s1, s2, s3⟩ := hSw; go_simp
    try with_reducible rfl
  try simp only [Act.put, List.setIfInBounds_toArray, List.set_cons_zero, List.set_cons_succ]
  refine wpAnyD_take (i := 10) (v := ?_) rfl (by kernel_rfl) (by kernel_rfl) (by kernel_rfl) (by kernel_rfl) (by kernel_rfl) (fun _ _ _ h => h) hS (Or.inl ⟨by rfl, ?_⟩) ?_
  rotate_left
  · intro w hSw; obtain ⟨s1, s2, s3⟩ := hSw; go_simp
    try with_reducible rfl
  try simp only [Act.put, List.setIfInBounds_toArray, List.set_cons_zero, List.set_cons_succ]
  refine wpAnyD_take (i := 11) (v := ?_) rfl (by kernel_rfl) (by kernel_rfl) (by kernel_rfl) (by kernel_rfl) (by kernel_rfl) (fun _ _ _ h => h) hS (Or.inl ⟨by rfl, ?_⟩) ?_
  rotate_left
  · intro w hSw; obtain ⟨s1, s2, s3⟩ := hSw; go_simp
    try with_reducible rfl
  try simp only [Act.put, List.setIfInBounds_toArray, List.set_cons_zero, List.set_cons_succ]
  refine wpAnyD_take (i := 12) (v := ?_) rfl (by kernel_rfl) (by kernel_rfl) (by kernel_rfl) (by kernel_rfl) (by kernel_rfl) (fun _ _ _ h => h) hS (Or.inl ⟨by rfl, ?_⟩) ?_
  rotate_left
  · intro w hSw; obtain ⟨s1, s2, s3⟩ := hSw; go_simp
    try with_reducible rfl
  try simp only [Act.put, List.setIfInBounds_toArray, List.set_cons_zero, List.set_cons_succ]
  refine wpAnyD_take (i := 13) (v := ?_) rfl (by kernel_rfl) (by kernel_rfl) (by kernel_rfl) (by kernel_rfl) (by kernel_rfl) (fun _ _ _ h => h) hS (Or.inl ⟨by rfl, ?_⟩) ?_
  rotate_left
  · intro w hSw; obtain ⟨s1, s2, s3⟩ := hSw; go_simp
    try with_reducible rfl
  try simp only [Act.put, List.setIfInBounds_toArray, List.set_cons_zero, List.set_cons_succ]
  refine wpAnyD_take (i := 14) (v := ?_) rfl (by kernel_rfl) (by kernel_rfl) (by kernel_rfl) (by kernel_rfl) (by kernel_rfl) (fun _ _ _ h => h) hS (Or.inl ⟨by rfl, ?_⟩) ?_
  rotate_left
  · intro w hSw; obtain ⟨s1, s2, s3⟩ := hSw; go_simp
    try with_reducible rfl
  try simp only [Act.put, List.setIfInBounds_toArray, List.set_cons_zero, List.set_cons_succ]
  refine wpAnyD_take (i := 15) (v := ?_) rfl (by kernel_rfl) (by kernel_rfl) (by kernel_rfl) (by kernel_rfl) (by kernel_rfl) (fun _ _ _ h => h) hS (Or.inl ⟨by rfl, ?_⟩) ?_
  rotate_left
  · intro w hSw; obtain ⟨s1, s2, s3⟩ := hSw; go_simp
    try with_reducible rfl
  try simp only [Act.put, List.setIfInBounds_toArray, List.set_cons_zero, List.set_cons_succ]
  refine wpAnyD_take (i := 16) (v := ?_) rfl (by kernel_rfl) (by kernel_rfl) (by kernel_rfl) (by kernel_rfl) (by kernel_rfl) (fun _ _ _ h => h) hS (Or.inl ⟨by rfl, ?_⟩) ?_
  rotate_left
  · intro w hSw; obtain ⟨s1, s2, s3⟩ := hSw; go_simp
    try with_reducible rfl
  try simp only [Act.put, List.setIfInBounds_toArray, List.set_cons_zero, List.set_cons_succ]
  refine wpAnyD_one (i := 17) rfl (by kernel_rfl) rfl (fun K hK => ?_)
  go_simp
  refine hK _ _ (Or.inr ⟨(HU.out.1.alloc _).get 2 _ rfl, (HU.out.1.alloc _).get 1 _ rfl, cellA_below ((Below.refl U.heap.size U).alloc (Nat.le_refl _) _) (lt_of_cell HU.out.2.2.1) HU.out.2.2.1⟩) ?_
  clear hK K hS
  try simp only [Act.put, List.setIfInBounds_toArray, List.set_cons_zero, List.set_cons_succ]
  refine wpAnyD_one (i := 18) rfl (by kernel_rfl) rfl (fun K hK => ?_)
  go_simp
  refine hK _ _ (Or.inr ⟨(HU.out.1.alloc _).get 2 _ rfl, (HU.out.1.alloc _).get 1 _ rfl, cellA_below ((Below.refl U.heap.size U).alloc (Nat.le_refl _) _) (lt_of_cell HU.out.2.2.1) HU.out.2.2.1⟩) ?_
  clear hK K
  try simp only [Act.put, List.setIfInBounds_toArray, List.set_cons_zero, List.set_cons_succ]
  refine wpAnyD_one (i := 19) rfl (by kernel_rfl) rfl (fun K hK => ?_)
  go_simp
  refine hK _ _ (Or.inr ⟨(HU.out.1.alloc _).get 2 _ rfl, (HU.out.1.alloc _).get 1 _ rfl, cellA_below ((Below.refl U.heap.size U).alloc (Nat.le_refl _) _) (lt_of_cell HU.out.2.2.1) HU.out.2.2.1⟩) ?_
  clear hK K
  try simp only [Act.put, List.setIfInBounds_toArray, List.set_cons_zero, List.set_cons_succ]
  refine wpAnyD_one (i := 20) rfl (by kernel_rfl) rfl (fun K hK => ?_)
  go_simp
  refine hK _ _ (Or.inr ⟨(HU.out.1.alloc _).get 2 _ rfl, (HU.out.1.alloc _).get 1 _ rfl, cellA_below ((Below.refl U.heap.size U).alloc (Nat.le_refl _) _) (lt_of_cell HU.out.2.2.1) HU.out.2.2.1⟩) ?_
  clear hK K
  try simp only [Act.put, List.setIfInBounds_toArray, List.set_cons_zero, List.set_cons_succ]
  obtain ⟨W7, hW7⟩ : ∃ W, W = U.alloc (.cells (ccA 0 0) Ct) := ⟨_, rfl⟩
  obtain ⟨bc, hbc⟩ : ∃ b, b = U.heap.size := ⟨_, rfl⟩
  have hB7 : Below U.heap.size U W7 := by rw [hW7]; exact (Below.refl _ _).alloc (Nat.le_refl _) _
  have kc7 : Blk bc (ccA 0 0) Ct W7 := by rw [hW7, hbc]; exact Blk.new _ _ _
  have km7 := HU.out.1.below hB7 HU.out.1.lt
  have n1 : bm ≠ bc := by rw [hbc]; have := HU.out.1.lt; omega
  have n3 : bw ≠ bc := by rw [hbc]; have := HU.out.2.1.lt; omega
  have z12 := km7.get 12 nilS rfl
  have v12 := km7.free 12
  have H7 := Lib.hid (And.intro km7 (And.intro kc7 (And.intro (HU.out.2.1.below hB7 HU.out.2.1.lt) (And.intro (below_tr HU.out.2.2.2 hB7) (And.intro n1 (And.intro n3 (show w.heap.size ≤ bc by rw [hbc]; exact HU.out.2.2.2.size)))))))
  have HW7 := Lib.hid (And.intro hW7 hbc)
  clear hW7 hbc hB7 kc7 km7 n1 n3
  rw [← HW7.out.2]
  change wpAnyD _ _ _ _ _ _ _ _ _ (U.alloc (.cells (ccA 0 0) Ct))
  rw [← HW7.out.1]
  refine wpAnyD_one (i := 21) rfl (by kernel_rfl) rfl (fun K hK => ?_)
  go_simp
  refine hK _ _ (Or.inl rfl) ?_
  clear hK K
  try simp only [Act.put, List.setIfInBounds_toArray, List.set_cons_zero, List.set_cons_succ]
  refine wpAnyD_done (by kernel_rfl) ?_ _
  clear z12 v12
  go_wp2_with fail
  go_ret2
  exact ⟨bm, bw, be, ec, bc, rfl, below1 H3.out.2.2.2.1 H7.out.2.2.2.1 _, H7.out.1.set 12 (.slice (some ⟨bc, 0, none⟩) 1 1), H7.out.2.1.setOther (Ne.symm H7.out.2.2.2.2.1) 12 _, H7.out.2.2.1.setOther H5.out.2.2.2.2 12 _, H7.out.2.2.2.2.1, H5.out.2.2.2.2, H7.out.2.2.2.2.2.1, H3.out.2.2.2.1, H7.out.2.2.2.2.2.2⟩
end Go.Proofs.YtepnjhbolaebmaaDoor
