/-
  What the other three instructions of the document's example do.
-/
import Derived.Test.YtepnjhbolaebmaaDoorVmA
import Derived.StillTailTactics
namespace Go.Proofs.YtepnjhbolaebmaaDoor
open Go Go.RowKit Ib

theorem info64 : (Tryd.prog.info? 2).map (fun i => (i.zero, i.size, i.bytes)) = some (some (I 0), 1, 8) := by kernel_rfl
set_option maxRecDepth 100000 in
set_option maxHeartbeats 3200000 in
/-- A mark, done. -/
theorem do_mark (bm bc bw be ec : Nat) (st at' nx r0 : Int) (ov : Value) (w : World) (hm : Blk bm (mcA bw be ec bc st 0 0 at' 0 ov 1) Mt w) (hc : Blk bc (ccA nx r0) Ct w) (hne : bm ≠ bc) :
    Calls Tryd.prog 88 #[.pointer (some ⟨bm, 0, none⟩), .pointer (some ⟨bc, 0, none⟩), wagg 44 0] w fun e w' => e = .returned (.int .u8 0) ∧ Fm bm bc w w' ∧ Blk bm (mcA bw be ec bc st 0 0 at' 1 ov 1) Mt w' ∧ Blk bc (ccA nx r0) Ct w' := by
  obtain ⟨W1, hW1⟩ : ∃ W, W = w.alloc (.cells #[.int .u8 44, .int .u8 0, .int .u8 0, .int .u8 0, .int .i64 0] 69) := ⟨_, rfl⟩
  obtain ⟨b5, hb5⟩ : ∃ b, b = w.heap.size := ⟨_, rfl⟩
  have hB : Below w.heap.size w W1 := by rw [hW1]; exact (Below.refl _ _).alloc (Nat.le_refl _) _
  have k5 : Blk b5 #[.int .u8 44, .int .u8 0, .int .u8 0, .int .u8 0, .int .i64 0] 69 W1 := by rw [hW1, hb5]; exact Blk.new _ _ _
  have hm1 := hm.below hB hm.lt
  have hc1 := hc.below hB hc.lt
  have n1 : ¬ b5 = bm := by have := hm.lt; omega
  have n2 : ¬ b5 = bc := by have := hc.lt; omega
  have n3 : ¬ bm = b5 := fun e => n1 e.symm
  have n4 : ¬ bc = b5 := fun e => n2 e.symm
  have H1 := Lib.hid (And.intro hB (And.intro hm1 (And.intro hc1 (And.intro k5 hne))))
  have HW1 := Lib.hid (And.intro hW1 hb5)
  have y9 := hm1.get 9 (I 0) rfl
  have v9 := hm1.free 9
  clear hB hm hc hm1 hc1 hW1 hb5 hne
  go_enter Tryd.func88, Tryd.ntmps88
  go_upto_region 1 with (fail)
  rw [← HW1.out.2]
  change Code.wp _ _ _ _ (w.alloc (.cells #[.int .u8 44, .int .u8 0, .int .u8 0, .int .u8 0, .int .i64 0] 69))
  rw [← HW1.out.1]
  have x0 := k5.get 0 _ rfl
  have x1 := k5.get 1 _ rfl
  clear k5
  go_wp2_with fail
  go_ret
  exact ⟨rfl, (Fm.of_below bm bc H1.out.1).setM 9 (I 1), H1.out.2.1.set 9 (I 1), H1.out.2.2.1.setOther (Ne.symm H1.out.2.2.2.2) 9 (I 1)⟩
set_option maxRecDepth 100000 in
set_option maxHeartbeats 3200000 in
/-- A print of 7, done: the first one. -/
theorem do_print (bm bc bw be ec base : Nat) (st at' nx : Int) (w : World) (hm : Blk bm (mcA bw be ec bc st 0 0 at' 0 nilS 1) Mt w) (hc : Blk bc (ccA nx 7) Ct w) (hne : bm ≠ bc) (hb : base ≤ w.heap.size) :
    Calls Tryd.prog 88 #[.pointer (some ⟨bm, 0, none⟩), .pointer (some ⟨bc, 0, none⟩), wagg 42 0] w fun e w' => e = .returned (.int .u8 0) ∧ Fm bm bc w w' ∧ ∃ g cap, base ≤ g ∧ g ≠ bm ∧ g ≠ bc ∧ 1 ≤ cap ∧ w'.cell? ⟨g, 0, none⟩ = some (I 7) ∧ Blk bm (mcA bw be ec bc st 0 0 at' 0 (.slice (some ⟨g, 0, none⟩) 1 cap) 1) Mt w' ∧ Blk bc (ccA nx 7) Ct w' := by
  obtain ⟨i1, p1, p2, p3, p4⟩ := info_parts info64
  have HM := Lib.hid (And.intro p1 (And.intro p2 (And.intro p3 p4)))
  clear p1 p2 p3 p4
  obtain ⟨W1, hW1⟩ : ∃ W, W = w.alloc (.cells #[.int .u8 42, .int .u8 0, .int .u8 0, .int .u8 0, .int .i64 0] 69) := ⟨_, rfl⟩
  obtain ⟨b5, hb5⟩ : ∃ b, b = w.heap.size := ⟨_, rfl⟩
  have hB : Below w.heap.size w W1 := by rw [hW1]; exact (Below.refl _ _).alloc (Nat.le_refl _) _
  have k5 : Blk b5 #[.int .u8 42, .int .u8 0, .int .u8 0, .int .u8 0, .int .i64 0] 69 W1 := by rw [hW1, hb5]; exact Blk.new _ _ _
  have hm1 := hm.below hB hm.lt
  have hc1 := hc.below hB hc.lt
  have n1 : ¬ b5 = bm := by have := hm.lt; omega
  have n2 : ¬ b5 = bc := by have := hc.lt; omega
  have n3 : ¬ bm = b5 := fun e => n1 e.symm
  have n4 : ¬ bc = b5 := fun e => n2 e.symm
  have H1 := Lib.hid (And.intro hB (And.intro hm1 (And.intro hc1 (And.intro k5 hne))))
  have HW1 := Lib.hid (And.intro hW1 hb5)
  have HSZ := Lib.hid (show base ≤ W1.heap.size from by have := hB.size; omega)
  have hS1 : W1.cell? ⟨bm, 10, none⟩ = some nilS ∧ W1.cell? ⟨b5, 1, none⟩ = some (.int .u8 0) ∧ W1.cell? ⟨bc, 2, none⟩ = some (I 7) := ⟨hm1.get 10 _ rfl, k5.get 1 _ rfl, hc1.get 2 _ rfl⟩
  have HS1 := Lib.hid (fun o => show (W1.alloc o).cell? ⟨bm, 10, none⟩ = some nilS ∧ (W1.alloc o).cell? ⟨b5, 1, none⟩ = some (.int .u8 0) ∧ (W1.alloc o).cell? ⟨bc, 2, none⟩ = some (I 7) from ⟨(hm1.alloc o).get 10 _ rfl, (k5.alloc o).get 1 _ rfl, (hc1.alloc o).get 2 _ rfl⟩)
  have v10 := hm1.free 10
  clear hB hm hc hm1 hc1 hW1 hb5 hne hb
  go_enter Tryd.func88, Tryd.ntmps88
  go_upto_region 1 with (fail)
  rw [← HW1.out.2]
  change Code.wp _ _ _ _ (w.alloc (.cells #[.int .u8 42, .int .u8 0, .int .u8 0, .int .u8 0, .int .i64 0] 69))
  rw [← HW1.out.1]
  have x0 := k5.get 0 _ rfl
  have x1 := k5.get 1 _ rfl
  clear k5
  go_upto_region 20 with (fail)
  obtain ⟨V, hV⟩ : ∃ V, V = W1.drew := ⟨_, rfl⟩
  have HV := Lib.hid (show Blk bm (mcA bw be ec bc st 0 0 at' 0 nilS 1) Mt V ∧ Blk bc (ccA nx 7) Ct V ∧ Fm bm bc w V ∧ base ≤ V.heap.size ∧ bm < V.heap.size ∧ bc < V.heap.size ∧ Blk b5 #[.int .u8 42, .int .u8 0, .int .u8 0, .int .u8 0, .int .i64 0] 69 V from by
    rw [hV]; exact ⟨H1.out.2.1.drewN 1, H1.out.2.2.1.drewN 1, (Fm.of_below bm bc H1.out.1).drewN 1, HSZ.out, H1.out.2.1.lt, H1.out.2.2.1.lt, H1.out.2.2.2.1.drewN 1⟩)
  have hS : V.cell? ⟨bm, 10, none⟩ = some nilS ∧ V.cell? ⟨b5, 1, none⟩ = some (.int .u8 0) ∧ V.cell? ⟨bc, 2, none⟩ = some (I 7) := ⟨HV.out.1.get 10 _ rfl, HV.out.2.2.2.2.2.2.get 1 _ rfl, HV.out.2.1.get 2 _ rfl⟩
  refine wp_region_dep (S := (fun w' : World => w'.cell? ⟨bm, 10, none⟩ = some nilS ∧ w'.cell? ⟨b5, 1, none⟩ = some (.int .u8 0) ∧ w'.cell? ⟨bc, 2, none⟩ = some (I 7))) (dep := [18]) (by kernel_rfl) ?_
  change wpAnyD _ _ _ _ _ _ _ _ _ (World.drew _)
  rw [← hV]
  clear hV x0 x1 v10 HS1 hS1
  refine wpAnyD_take (i := 0) (v := ?_) rfl (by kernel_rfl) (by kernel_rfl) (by kernel_rfl) (by kernel_rfl) (by kernel_rfl) (fun _ _ _ h => h) hS (Or.inl ⟨by rfl, ?_⟩) ?_
  rotate_left
  · intro w hSw; have s1 := hSw.1; have s2 := hSw.2.1; have s3 := hSw.2.2; go_simp
    try with_reducible rfl
  try simp only [Act.put, List.setIfInBounds_toArray, List.set_cons_zero, List.set_cons_succ]
  refine wpAnyD_take (i := 1) (v := ?_) rfl (by kernel_rfl) (by kernel_rfl) (by kernel_rfl) (by kernel_rfl) (by kernel_rfl) (fun _ _ _ h => h) hS (Or.inl ⟨by rfl, ?_⟩) ?_
  rotate_left
  · intro w hSw; have s1 := hSw.1; have s2 := hSw.2.1; have s3 := hSw.2.2; go_simp
    try with_reducible rfl
  try simp only [Act.put, List.setIfInBounds_toArray, List.set_cons_zero, List.set_cons_succ]
  refine wpAnyD_take (i := 2) (v := ?_) rfl (by kernel_rfl) (by kernel_rfl) (by kernel_rfl) (by kernel_rfl) (by kernel_rfl) (fun _ _ _ h => h) hS (Or.inl ⟨by rfl, ?_⟩) ?_
  rotate_left
  · intro w hSw; have s1 := hSw.1; have s2 := hSw.2.1; have s3 := hSw.2.2; go_simp
    try with_reducible rfl
  try simp only [Act.put, List.setIfInBounds_toArray, List.set_cons_zero, List.set_cons_succ]
  refine wpAnyD_take (i := 3) (v := ?_) rfl (by kernel_rfl) (by kernel_rfl) (by kernel_rfl) (by kernel_rfl) (by kernel_rfl) (fun _ _ _ h => h) hS (Or.inl ⟨by rfl, ?_⟩) ?_
  rotate_left
  · intro w hSw; have s1 := hSw.1; have s2 := hSw.2.1; have s3 := hSw.2.2; go_simp
    try with_reducible rfl
  try simp only [Act.put, List.setIfInBounds_toArray, List.set_cons_zero, List.set_cons_succ]
  refine wpAnyD_take (i := 4) (v := ?_) rfl (by kernel_rfl) (by kernel_rfl) (by kernel_rfl) (by kernel_rfl) (by kernel_rfl) (fun _ _ _ h => h) hS (Or.inl ⟨by rfl, ?_⟩) ?_
  rotate_left
  · intro w hSw; have s1 := hSw.1; have s2 := hSw.2.1; have s3 := hSw.2.2; go_simp
    try with_reducible rfl
  try simp only [Act.put, List.setIfInBounds_toArray, List.set_cons_zero, List.set_cons_succ]
  refine wpAnyD_take (i := 5) (v := ?_) rfl (by kernel_rfl) (by kernel_rfl) (by kernel_rfl) (by kernel_rfl) (by kernel_rfl) (fun _ _ _ h => h) hS (Or.inl ⟨by rfl, ?_⟩) ?_
  rotate_left
  · intro w hSw; have s1 := hSw.1; have s2 := hSw.2.1; have s3 := hSw.2.2; go_simp
    try with_reducible rfl
  try simp only [Act.put, List.setIfInBounds_toArray, List.set_cons_zero, List.set_cons_succ]
  refine wpAnyD_take (i := 6) (v := ?_) rfl (by kernel_rfl) (by kernel_rfl) (by kernel_rfl) (by kernel_rfl) (by kernel_rfl) (fun _ _ _ h => h) hS (Or.inl ⟨by rfl, ?_⟩) ?_
  rotate_left
  · intro w hSw; have s1 := hSw.1; have s2 := hSw.2.1; have s3 := hSw.2.2; go_simp
    try with_reducible rfl
  try simp only [Act.put, List.setIfInBounds_toArray, List.set_cons_zero, List.set_cons_succ]
  refine wpAnyD_take (i := 7) (v := ?_) rfl (by kernel_rfl) (by kernel_rfl) (by kernel_rfl) (by kernel_rfl) (by kernel_rfl) (fun _ _ _ h => h) hS (Or.inl ⟨by rfl, ?_⟩) ?_
  rotate_left
  · intro w hSw; have s1 := hSw.1; have s2 := hSw.2.1; have s3 := hSw.2.2; go_simp
    try with_reducible rfl
  try simp only [Act.put, List.setIfInBounds_toArray, List.set_cons_zero, List.set_cons_succ]
  refine wpAnyD_take (i := 8) (v := ?_) rfl (by kernel_rfl) (by kernel_rfl) (by kernel_rfl) (by kernel_rfl) (by kernel_rfl) (fun _ _ _ h => h) hS (Or.inl ⟨by rfl, ?_⟩) ?_
  rotate_left
  · intro w hSw; have s1 := hSw.1; have s2 := hSw.2.1; have s3 := hSw.2.2; go_simp
    try with_reducible rfl
  try simp only [Act.put, List.setIfInBounds_toArray, List.set_cons_zero, List.set_cons_succ]
  refine wpAnyD_take (i := 9) (v := ?_) rfl (by kernel_rfl) (by kernel_rfl) (by kernel_rfl) (by kernel_rfl) (by kernel_rfl) (fun _ _ _ h => h) hS (Or.inl ⟨by rfl, ?_⟩) ?_
  rotate_left
  · intro w hSw; have s1 := hSw.1; have s2 := hSw.2.1; have s3 := hSw.2.2; go_simp
    try with_reducible rfl
  try simp only [Act.put, List.setIfInBounds_toArray, List.set_cons_zero, List.set_cons_succ]
  refine wpAnyD_take (i := 10) (v := ?_) rfl (by kernel_rfl) (by kernel_rfl) (by kernel_rfl) (by kernel_rfl) (by kernel_rfl) (fun _ _ _ h => h) hS (Or.inl ⟨by rfl, ?_⟩) ?_
  rotate_left
  · intro w hSw; have s1 := hSw.1; have s2 := hSw.2.1; have s3 := hSw.2.2; go_simp
    try with_reducible rfl
  try simp only [Act.put, List.setIfInBounds_toArray, List.set_cons_zero, List.set_cons_succ]
  refine wpAnyD_take (i := 11) (v := ?_) rfl (by kernel_rfl) (by kernel_rfl) (by kernel_rfl) (by kernel_rfl) (by kernel_rfl) (fun _ _ _ h => h) hS (Or.inl ⟨by rfl, ?_⟩) ?_
  rotate_left
  · intro w hSw; have s1 := hSw.1; have s2 := hSw.2.1; have s3 := hSw.2.2; go_simp
    try with_reducible rfl
  try simp only [Act.put, List.setIfInBounds_toArray, List.set_cons_zero, List.set_cons_succ]
  refine wpAnyD_take (i := 12) (v := ?_) rfl (by kernel_rfl) (by kernel_rfl) (by kernel_rfl) (by kernel_rfl) (by kernel_rfl) (fun _ _ _ h => h) hS (Or.inl ⟨by rfl, ?_⟩) ?_
  rotate_left
  · intro w hSw; have s1 := hSw.1; have s2 := hSw.2.1; have s3 := hSw.2.2; go_simp
    try with_reducible rfl
  try simp only [Act.put, List.setIfInBounds_toArray, List.set_cons_zero, List.set_cons_succ]
  have HS := Lib.hid hS
  clear hS
  refine wpAnyD_one (i := 13) rfl (by kernel_rfl) rfl (fun K hK => ?_)
  go_simp
  refine hK _ _ (Or.inr ⟨(HV.out.1.alloc _).get 10 _ rfl, (HV.out.2.2.2.2.2.2.alloc _).get 1 _ rfl, (HV.out.2.1.alloc _).get 2 _ rfl⟩) ?_
  clear hK K
  try simp only [Act.put, List.setIfInBounds_toArray, List.set_cons_zero, List.set_cons_succ]
  refine wpAnyD_one (i := 14) rfl (by kernel_rfl) rfl (fun K hK => ?_)
  refine wp_append_lies _ (.tmp 97) (.tmp 105) 27 rfl base 2 i1 (I 0) 1 8 Tryd.underlying27 HM.out.1 HM.out.2.1 HM.out.2.2.1 HM.out.2.2.2 rfl (by decide) nilS 0 [] rfl ⟨rfl, Or.inl ⟨rfl, rfl⟩⟩ ⟨V.heap.size, 0, none⟩ 1 1 [I 7] rfl rfl (World.news_of_block (heap_alloc_new V _)) (by simp [Value.oneCell']) (by decide) (by decide) (by decide) (by simp; have := HV.out.2.2.2.1; omega) _ rfl ?_
  intro g cap w2 hown hgr hat hlt
  have km2 := (HV.out.1.alloc (.cells #[I 7] 2)).other hgr (by simp [Value.ownBlock])
  have kc2 := (HV.out.2.1.alloc (.cells #[I 7] 2)).other hgr (by simp [Value.ownBlock])
  have kb2 := (HV.out.2.2.2.2.2.2.alloc (.cells #[I 7] 2)).other hgr (by simp [Value.ownBlock])
  have c9 := km2.get 10 nilS rfl
  have f9 := km2.free 10
  have hsx : w2.cell? ⟨bm, 10, none⟩ = some nilS ∧ w2.cell? ⟨b5, 1, none⟩ = some (.int .u8 0) ∧ w2.cell? ⟨bc, 2, none⟩ = some (I 7) := ⟨c9, kb2.get 1 _ rfl, kc2.get 2 _ rfl⟩
  have hbA : Below V.heap.size V (V.alloc (.cells #[I 7] 2)) := (Below.refl _ _).alloc (Nat.le_refl _) _
  have HR := Lib.hid (And.intro hown (And.intro km2 (And.intro kc2 (And.intro (hbA.grown hgr hbA.size (fun k hk => by cases hk)) (show V.heap.size ≤ g by
         rcases hat with h | h
         · cases h
         · rw [h]; simp)))))
  refine hK _ _ (Or.inr hsx) ?_
  have HX := Lib.hid hsx
  clear hK K hown hgr hat hlt km2 kc2 kb2 hbA hsx
  try simp only [Act.put, List.setIfInBounds_toArray, List.set_cons_zero, List.set_cons_succ]
  refine wpAnyD_one (i := 15) rfl (by kernel_rfl) rfl (fun K hK => ?_)
  go_simp
  refine hK _ _ (Or.inr HX.out) ?_
  clear hK K
  try simp only [Act.put, List.setIfInBounds_toArray, List.set_cons_zero, List.set_cons_succ]
  refine wpAnyD_one (i := 16) rfl (by kernel_rfl) rfl (fun K hK => ?_)
  go_simp
  refine hK _ _ (Or.inr HX.out) ?_
  clear hK K
  try simp only [Act.put, List.setIfInBounds_toArray, List.set_cons_zero, List.set_cons_succ]
  refine wpAnyD_one (i := 17) rfl (by kernel_rfl) rfl (fun K hK => ?_)
  go_simp
  refine hK _ _ (Or.inr HX.out) ?_
  clear hK K
  try simp only [Act.put, List.setIfInBounds_toArray, List.set_cons_zero, List.set_cons_succ]
  refine wpAnyD_one (i := 18) rfl (by kernel_rfl) rfl (fun K hK => ?_)
  go_simp
  refine hK _ _ (Or.inl rfl) ?_
  clear hK K c9 f9
  try simp only [Act.put, List.setIfInBounds_toArray, List.set_cons_zero, List.set_cons_succ]
  refine wpAnyD_done (by kernel_rfl) ?_ _
  go_wp2_with fail
  go_ret
  have hg := HR.out.2.2.2.2
  have h1 := HV.out.2.2.2.2.1
  have h2 := HV.out.2.2.2.2.2.1
  have hcell : w2.cell? ⟨g, 0, none⟩ = some (I 7) := HR.out.1.cellAt 0 (by decide)
  have hcap : 1 ≤ cap := by
    rcases HR.out.1.2 with ⟨e, _⟩ | ⟨_, _, _, e, _, _, h, _⟩
    · cases e
    · cases e; exact h
  have hf : Fm bm bc w w2 := HV.out.2.2.1.trans (Fm.of_below bm bc HR.out.2.2.2.1)
  refine ⟨rfl, hf.setM 10 _, g, cap, by have := HV.out.2.2.2.1; omega, by omega, by omega, hcap, ?_, HR.out.2.1.set 10 _, HR.out.2.2.1.setOther (Ne.symm H1.out.2.2.2.2) 10 _⟩
  unfold World.cell? at hcell ⊢
  rw [Below.heap_setCell _ _ _ _ (show g ≠ bm by omega)]
  exact hcell
set_option maxRecDepth 100000 in
set_option maxHeartbeats 1600000 in
theorem answer_last (bm bc bw be ec : Nat) (st at' mk : Int) (ov : Value) (w : World) (hm : Blk bm (mcA bw be ec bc st 0 0 at' mk ov 1) Mt w) :
    Calls Tryd.prog 106 #[.pointer (some ⟨bm, 0, none⟩), I 7] w fun e w' => e = .returned (.int .u8 1) ∧ w' = (w.setCell ⟨bm, 12, none⟩ (.slice (some ⟨bc, 0, none⟩) 0 1)).setCell ⟨bm, 6, none⟩ (I 7) := by
  have y12 := hm.get 12 _ rfl
  have y6 := hm.get 6 (I 0) rfl
  have v12 := hm.free 12
  have v6 := hm.free 6
  clear hm
  go_enter Tryd.func106, Tryd.ntmps106
  go_wp2_with fail
  go_ret
  exact ⟨rfl, rfl⟩
set_option maxRecDepth 100000 in
set_option maxHeartbeats 3200000 in
/-- The last return, done. -/
theorem do_ret (bm bc bw be ec : Nat) (st at' mk nx : Int) (ov : Value) (w : World) (hm : Blk bm (mcA bw be ec bc st 0 0 at' mk ov 1) Mt w) (hc : Blk bc (ccA nx 7) Ct w) (hne : bm ≠ bc) :
    Calls Tryd.prog 88 #[.pointer (some ⟨bm, 0, none⟩), .pointer (some ⟨bc, 0, none⟩), wagg 47 0] w fun e w' => e = .returned (.int .u8 1) ∧ Fm bm bc w w' ∧ Blk bm (mcA bw be ec bc st 0 7 at' mk ov 0) Mt w' := by
  obtain ⟨W1, hW1⟩ : ∃ W, W = w.alloc (.cells #[.int .u8 47, .int .u8 0, .int .u8 0, .int .u8 0, .int .i64 0] 69) := ⟨_, rfl⟩
  obtain ⟨b5, hb5⟩ : ∃ b, b = w.heap.size := ⟨_, rfl⟩
  have hB : Below w.heap.size w W1 := by rw [hW1]; exact (Below.refl _ _).alloc (Nat.le_refl _) _
  have k5 : Blk b5 #[.int .u8 47, .int .u8 0, .int .u8 0, .int .u8 0, .int .i64 0] 69 W1 := by rw [hW1, hb5]; exact Blk.new _ _ _
  have hm1 := hm.below hB hm.lt
  have hc1 := hc.below hB hc.lt
  have n1 : ¬ b5 = bm := by have := hm.lt; omega
  have n2 : ¬ b5 = bc := by have := hc.lt; omega
  have n3 : ¬ bm = b5 := fun e => n1 e.symm
  have n4 : ¬ bc = b5 := fun e => n2 e.symm
  have H1 := Lib.hid (And.intro hB (And.intro hm1 (And.intro hc1 (And.intro k5 hne))))
  have HW1 := Lib.hid (And.intro hW1 hb5)
  have y2 := hc1.get 2 (I 7) rfl
  have HA := Lib.hid (fun (W : World) (hW : W = W1.drew) => (by subst hW; exact answer_last bm bc bw be ec st at' mk ov W1.drew (hm1.drewN 1) : Calls Tryd.prog 106 #[.pointer (some ⟨bm, 0, none⟩), I 7] W fun e w' => e = .returned (.int .u8 1) ∧ w' = (W1.drew.setCell ⟨bm, 12, none⟩ (.slice (some ⟨bc, 0, none⟩) 0 1)).setCell ⟨bm, 6, none⟩ (I 7)))
  clear hB hm hc hm1 hc1 hW1 hb5 hne
  go_enter Tryd.func88, Tryd.ntmps88
  go_upto_region 1 with (fail)
  rw [← HW1.out.2]
  change Code.wp _ _ _ _ (w.alloc (.cells #[.int .u8 47, .int .u8 0, .int .u8 0, .int .u8 0, .int .i64 0] 69))
  rw [← HW1.out.1]
  have x0 := k5.get 0 _ rfl
  have x1 := k5.get 1 _ rfl
  clear k5
  go_upto_region 18 with (fail)
  go_region_with (
    refine (HA.out _ rfl).mono ?_
    rintro e w2 ⟨rfl, rfl⟩)
  all_goals (try (go_wp2_with fail))
  all_goals
    go_ret
    exact ⟨rfl, (((Fm.of_below bm bc H1.out.1).drewN 1).setM 12 _).setM 6 (I 7), ((H1.out.2.1.drewN 1).set 12 _).set 6 (I 7)⟩
end Go.Proofs.YtepnjhbolaebmaaDoor
