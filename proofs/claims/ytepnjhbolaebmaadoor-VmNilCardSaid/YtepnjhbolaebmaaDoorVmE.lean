/-
  Clones of short lists, whether two are alike, and where the machine of the example stands.
-/
import Derived.Test.YtepnjhbolaebmaaDoorVmD
import Derived.Lib.SmallJoins
import Derived.Laws.ResultCell
namespace Go.Proofs.YtepnjhbolaebmaaDoor
open Go Go.RowKit Ib

theorem lt_of_cell {W : World} {a : Addr} {v : Value} (h : W.cell? a = some v) : a.block < W.heap.size := by
  have := World.block_lt_of_cell? _ _ h
  exact this
theorem und {w w' : World} (h : Below w.drew.heap.size w.drew w') : Below w.heap.size w w' := ⟨h.os, h.tape, h.output, h.size, h.block⟩
abbrev L64 : TypeId := 27
theorem infoEn : (Tryd.prog.info? 76).map (fun i => (i.zero, i.size, i.bytes)) = some (some (.agg #[I 0, I 0]), 2, 16) := by kernel_rfl
set_option maxRecDepth 100000 in
theorem cloneI_nil (w : World) : Calls Tryd.prog 35 #[nilS] w fun e w' => e = .returned nilS ∧ w = w' := by
  have hnil : ∀ (w : World), (binOp .eql L64 nilS nilS).run Tryd.prog w = .ok (.bool true) w := fun w => Lib.run_eql_slice_nil w _ _ none 0 0 0 0 Tryd.underlying27
  go_enter Tryd.func35, Tryd.ntmps35
  go_wp2_with fail
  go_ret
  exact ⟨rfl, rfl⟩
set_option maxRecDepth 100000 in
set_option maxHeartbeats 1600000 in
theorem cloneI_one (g cap : Nat) (w : World) (hg : w.cell? ⟨g, 0, none⟩ = some (I 7)) : Calls Tryd.prog 35 #[.slice (some ⟨g, 0, none⟩) 1 cap] w fun e w' => ∃ g' cap', e = .returned (.slice (some ⟨g', 0, none⟩) 1 cap') ∧ w'.cell? ⟨g', 0, none⟩ = some (I 7) ∧ Below w.heap.size w w' ∧ w.heap.size ≤ g' := by
  obtain ⟨i1, p1, p2, p3, p4⟩ := info_parts info64
  have HM := Lib.hid (And.intro p1 (And.intro p2 (And.intro p3 p4)))
  clear p1 p2 p3 p4
  have hnil : ∀ (w : World), (binOp .eql L64 (.slice (some ⟨g, 0, none⟩) 1 cap) nilS).run Tryd.prog w = .ok (.bool false) w := fun w => Lib.run_eql_slice_nil w _ _ (some ⟨g, 0, none⟩) 1 cap 0 0 Tryd.underlying27
  have HG := Lib.hid hg
  clear hg
  go_enter Tryd.func35, Tryd.ntmps35
  go_wp2_with (at_builtin; refine Hid.out ?_)
  unfold Hid
  have hbA : Below w.heap.size w (w.alloc (.cells #[] 2)) := (Below.refl _ _).alloc (Nat.le_refl _) _
  refine wpList_append_lies _ rfl (.tmp 5) (.tmp 6) 27 rfl w.heap.size 2 i1 (I 0) 1 8 Tryd.underlying27 HM.out.1 HM.out.2.1 HM.out.2.2.1 HM.out.2.2.2 rfl (by decide) (.slice (some ⟨w.heap.size, 0, none⟩) 0 0) 0 [] rfl ((Blk.new w #[] 2).owns (Nat.le_refl _) (by decide) (by simp)) ⟨g, 0, none⟩ 1 cap [I 7] rfl rfl (fun j u hj => by
    have hj0 : j = 0 := by
      rcases j with _ | j
      · rfl
      · simp at hj
    subst hj0
    simp at hj
    subst hj
    rw [Addr.add_lit]
    exact cellA_below hbA (lt_of_cell HG.out) HG.out) (by simp [Value.oneCell']) (by decide) (by decide) (by decide) (by simp) _ rfl ?_
  intro g' cap' w2 hown hgr hat hlt
  have FIN := Lib.hid (And.intro (show w2.cell? ⟨g', 0, none⟩ = some (I 7) from hown.cellAt 0 (by decide)) (And.intro (hbA.grown hgr hbA.size (fun k hk => by cases hk; exact Nat.le_refl _)) (show w.heap.size ≤ g' by
    rcases hat with h | h
    · cases h; exact Nat.le_refl _
    · rw [h]; simp)))
  clear hown hgr hat hlt hbA
  go_wp2_with fail
  go_ret
  exact ⟨g', cap', rfl, FIN.out.1, FIN.out.2.1, FIN.out.2.2⟩
set_option maxRecDepth 100000 in
set_option maxHeartbeats 1600000 in
theorem cloneE_one (b : Nat) (w : World) (hb : Blk b #[I 0, I 0] 76 w) : Calls Tryd.prog 34 #[.slice (some ⟨b, 0, none⟩) 1 1] w fun e w' => ∃ be ec, e = .returned (.slice (some ⟨be, 0, none⟩) 1 ec) ∧ w.heap.size ≤ be ∧ w'.cell? ⟨be, 0, none⟩ = some (I 0) ∧ w'.cell? ⟨be, 1, none⟩ = some (I 0) ∧ Below w.heap.size w w' := by
  obtain ⟨i1, p1, p2, p3, p4⟩ := info_parts infoEn
  have HM := Lib.hid (And.intro p1 (And.intro p2 (And.intro p3 p4)))
  clear p1 p2 p3 p4
  have hnil : ∀ (w : World), (binOp .eql 23 (.slice (some ⟨b, 0, none⟩) 1 1) nilS).run Tryd.prog w = .ok (.bool false) w := fun w => Lib.run_eql_slice_nil w _ _ (some ⟨b, 0, none⟩) 1 1 0 0 Tryd.underlying23
  have HG := Lib.hid hb
  clear hb
  go_enter Tryd.func34, Tryd.ntmps34
  go_wp2_with (at_builtin; refine Hid.out ?_)
  unfold Hid
  have hbA : Below w.heap.size w (w.alloc (.cells #[] 76)) := (Below.refl _ _).alloc (Nat.le_refl _) _
  refine wpList_append_lies _ rfl (.tmp 5) (.tmp 6) 23 rfl w.heap.size 76 i1 (.agg #[I 0, I 0]) 2 16 Tryd.underlying23 HM.out.1 HM.out.2.1 HM.out.2.2.1 HM.out.2.2.2 rfl (by decide) (.slice (some ⟨w.heap.size, 0, none⟩) 0 0) 0 [] rfl ((Blk.new w #[] 76).owns (Nat.le_refl _) (by decide) (by simp)) ⟨b, 0, none⟩ 1 1 [I 0, I 0] rfl rfl (World.news_of_block (cs := #[I 0, I 0]) (t := 76) (fr := (0, 0)) (HG.out.alloc _)) (by simp [Value.oneCell']) (by decide) (by decide) (by decide) (by simp) _ rfl ?_
  intro g' cap' w2 hown hgr hat hlt
  have FIN := Lib.hid (And.intro (show w2.cell? ⟨g', 0, none⟩ = some (I 0) from hown.cellAt 0 (by decide)) (And.intro (show w2.cell? ⟨g', 1, none⟩ = some (I 0) from hown.cellAt 1 (by decide)) (And.intro (hbA.grown hgr hbA.size (fun k hk => by cases hk; exact Nat.le_refl _)) (show w.heap.size ≤ g' by
    rcases hat with h | h
    · cases h; exact Nat.le_refl _
    · rw [h]; simp))))
  clear hown hgr hat hlt hbA
  go_wp2_with fail
  go_ret
  exact ⟨g', cap', rfl, FIN.out.2.2.2, FIN.out.1, FIN.out.2.1, FIN.out.2.2.1⟩
set_option maxRecDepth 100000 in
theorem same_nil (w : World) : Calls Tryd.prog 24 #[nilS, nilS] w fun e w' => e = .returned (.bool true) ∧ w = w' := by
  go_enter Tryd.func24, Tryd.ntmps24
  go_wp2_with fail
  refine wp_loop_rounds 1 ?_
  rw [rounds_succ]
  go_wp2_with fail
  go_ret
  exact ⟨rfl, rfl⟩
set_option maxRecDepth 100000 in
theorem same_one (g c g' c' : Nat) (w : World) (hg : w.cell? ⟨g, 0, none⟩ = some (I 7)) (hg' : w.cell? ⟨g', 0, none⟩ = some (I 7)) : Calls Tryd.prog 24 #[.slice (some ⟨g, 0, none⟩) 1 c, .slice (some ⟨g', 0, none⟩) 1 c'] w fun e w' => e = .returned (.bool true) ∧ ∃ q, w' = w.drewN q := by
  go_enter Tryd.func24, Tryd.ntmps24
  go_wp2_with fail
  refine wp_loop_rounds 2 ?_
  rw [rounds_succ]
  go_wp2_with fail
  go_quiet (fail)
  go_wp2_with fail
  rw [rounds_succ]
  go_wp2_with fail
  go_ret
  exact ⟨rfl, _, rfl⟩
theorem below1 {B b j : Nat} {W W' : World} (h : B ≤ b) (hb : Below B W W') (v : Value) : Below B W (W'.setCell ⟨b, j, none⟩ v) :=
  ⟨hb.os, hb.tape, hb.output, by have := hb.size; simp [World.setCell]; exact this, fun k hk => (Below.heap_setCell _ _ _ _ (show k ≠ b by omega)).trans (hb.block k hk)⟩
theorem cell_other {W : World} {g b j : Nat} {v x : Value} (h : g ≠ b) (hc : W.cell? ⟨g, 0, none⟩ = some x) : (W.setCell ⟨b, j, none⟩ v).cell? ⟨g, 0, none⟩ = some x := by
  unfold World.cell? at hc ⊢
  rw [Below.heap_setCell _ _ _ _ h]
  exact hc
theorem infoSt : (Tryd.prog.info? 39).map (·.size) = some 7 := by kernel_rfl
set_option maxRecDepth 100000 in
set_option maxHeartbeats 3200000 in
theorem status_one (bm bw be bc ec g cap : Nat) (st en ex at' mk : Int) (cn : Nat) (w : World) (hm : Blk bm (mcA bw be ec bc st en ex at' mk (.slice (some ⟨g, 0, none⟩) 1 cap) cn) Mt w) (hg : w.cell? ⟨g, 0, none⟩ = some (I 7)) :
    Calls Tryd.prog 16 #[.pointer (some ⟨bm, 0, none⟩)] w fun e w' => ∃ g' cap', e = .returned (.agg #[.int .u8 en, I ex, .slice (some ⟨g', 0, none⟩) 1 cap', I 0, I st, I mk, I at']) ∧ w'.cell? ⟨g', 0, none⟩ = some (I 7) ∧ Below w.heap.size w w' := by
  obtain ⟨W1, hW1⟩ : ∃ W, W = w.alloc (.cells #[.int .u8 0, I 0, nilS, I 0, I 0, I 0, I 0] 39) := ⟨_, rfl⟩
  obtain ⟨b2, hb2⟩ : ∃ b, b = w.heap.size := ⟨_, rfl⟩
  have hB : Below w.heap.size w W1 := by rw [hW1]; exact (Below.refl _ _).alloc (Nat.le_refl _) _
  have k2 : Blk b2 #[.int .u8 0, I 0, nilS, I 0, I 0, I 0, I 0] 39 W1 := by rw [hW1, hb2]; exact Blk.new _ _ _
  have hm1 := hm.below hB hm.lt
  have hg1 := cellA_below hB (lt_of_cell hg) hg
  have m1 : ¬ b2 = bm := by rw [hb2]; have := hm.lt; omega
  have m2 : ¬ bm = b2 := fun e => m1 e.symm
  have H1 := Lib.hid (And.intro hB (And.intro hm1 (And.intro hg1 k2)))
  have HW1 := Lib.hid (And.intro hW1 hb2)
  have HSf := Lib.hid (fun (W : World) (h : Blk bm (mcA bw be ec bc st en ex at' mk (.slice (some ⟨g, 0, none⟩) 1 cap) cn) Mt W) => show W.cell? ⟨bm, 5, none⟩ = some (.int .u8 en) ∧ W.cell? ⟨bm, 6, none⟩ = some (I ex) ∧ W.cell? ⟨bm, 10, none⟩ = some (.slice (some ⟨g, 0, none⟩) 1 cap) ∧ W.cell? ⟨bm, 8, none⟩ = some (I 0) ∧ W.cell? ⟨bm, 9, none⟩ = some (I mk) ∧ W.cell? ⟨bm, 7, none⟩ = some (I at') from
    ⟨h.get 5 _ rfl, h.get 6 _ rfl, h.get 10 _ rfl, h.get 8 _ rfl, h.get 9 _ rfl, h.get 7 _ rfl⟩)
  have hS1 := HSf.out W1 hm1
  have hne : ∀ (w : World), (binOp .eql 31 (.pointer (some ⟨bm, 0, none⟩)) (.pointer none)).run Tryd.prog w = .ok (.bool false) w := fun w => by simp [go_sem]
  clear hm hg hB k2 hm1 hg1 hW1 hb2
  go_enter Tryd.func16, Tryd.ntmps16
  go_upto_region 1 with (fail)
  rw [← HW1.out.2]
  change Code.wp _ _ _ _ (w.alloc (.cells #[.int .u8 0, I 0, nilS, I 0, I 0, I 0, I 0] 39))
  rw [← HW1.out.1]
  go_upto_region 4 with (fail)
  obtain ⟨V, hV⟩ : ∃ V, V = W1.drew := ⟨_, rfl⟩
  have hmV : Blk bm (mcA bw be ec bc st en ex at' mk (.slice (some ⟨g, 0, none⟩) 1 cap) cn) Mt V := by rw [hV]; exact H1.out.2.1.drewN 1
  have hgV : V.cell? ⟨g, 0, none⟩ = some (I 7) := by rw [hV]; exact H1.out.2.2.1
  have hbV : Below w.heap.size w V := by rw [hV]; exact below_drewN H1.out.1 1
  have kV : Blk b2 #[.int .u8 0, I 0, nilS, I 0, I 0, I 0, I 0] 39 V := by rw [hV]; exact H1.out.2.2.2.drewN 1
  have hS := HSf.out V hmV
  have HC := Lib.hid (cloneI_one g cap V hgV)
  have HV := Lib.hid (And.intro hmV (And.intro hbV kV))
  refine wp_region_dep (S := (fun W : World => W.cell? ⟨bm, 5, none⟩ = some (.int .u8 en) ∧ W.cell? ⟨bm, 6, none⟩ = some (I ex) ∧ W.cell? ⟨bm, 10, none⟩ = some (.slice (some ⟨g, 0, none⟩) 1 cap) ∧ W.cell? ⟨bm, 8, none⟩ = some (I 0) ∧ W.cell? ⟨bm, 9, none⟩ = some (I mk) ∧ W.cell? ⟨bm, 7, none⟩ = some (I at'))) (dep := [30]) (by kernel_rfl) ?_
  change wpAnyD _ _ _ _ _ _ _ _ _ (World.drew _)
  rw [← hV]
  clear hV hmV hgV hbV kV hS1
  refine wpAnyD_take (i := 0) (v := ?_) rfl (by kernel_rfl) (by kernel_rfl) (by kernel_rfl) (by kernel_rfl) (by kernel_rfl) (fun _ _ _ h => h) hS (Or.inl ⟨by rfl, ?_⟩) ?_
  rotate_left
  · intro w hSw; obtain ⟨s1, s2, s3, s4, s5, s6⟩ := hSw; go_simp
    try with_reducible rfl
  try simp only [Act.put, List.setIfInBounds_toArray, List.set_cons_zero, List.set_cons_succ]
  refine wpAnyD_take (i := 1) (v := ?_) rfl (by kernel_rfl) (by kernel_rfl) (by kernel_rfl) (by kernel_rfl) (by kernel_rfl) (fun _ _ _ h => h) hS (Or.inl ⟨by rfl, ?_⟩) ?_
  rotate_left
  · intro w hSw; obtain ⟨s1, s2, s3, s4, s5, s6⟩ := hSw; go_simp
    try with_reducible rfl
  try simp only [Act.put, List.setIfInBounds_toArray, List.set_cons_zero, List.set_cons_succ]
  refine wpAnyD_take (i := 2) (v := ?_) rfl (by kernel_rfl) (by kernel_rfl) (by kernel_rfl) (by kernel_rfl) (by kernel_rfl) (fun _ _ _ h => h) hS (Or.inl ⟨by rfl, ?_⟩) ?_
  rotate_left
  · intro w hSw; obtain ⟨s1, s2, s3, s4, s5, s6⟩ := hSw; go_simp
    try with_reducible rfl
  try simp only [Act.put, List.setIfInBounds_toArray, List.set_cons_zero, List.set_cons_succ]
  refine wpAnyD_take (i := 3) (v := ?_) rfl (by kernel_rfl) (by kernel_rfl) (by kernel_rfl) (by kernel_rfl) (by kernel_rfl) (fun _ _ _ h => h) hS (Or.inl ⟨by rfl, ?_⟩) ?_
  rotate_left
  · intro w hSw; obtain ⟨s1, s2, s3, s4, s5, s6⟩ := hSw; go_simp
    try with_reducible rfl
  try simp only [Act.put, List.setIfInBounds_toArray, List.set_cons_zero, List.set_cons_succ]
  refine wpAnyD_take (i := 4) (v := ?_) rfl (by kernel_rfl) (by kernel_rfl) (by kernel_rfl) (by kernel_rfl) (by kernel_rfl) (fun _ _ _ h => h) hS (Or.inl ⟨by rfl, ?_⟩) ?_
  rotate_left
  · intro w hSw; obtain ⟨s1, s2, s3, s4, s5, s6⟩ := hSw; go_simp
    try with_reducible rfl
  try simp only [Act.put, List.setIfInBounds_toArray, List.set_cons_zero, List.set_cons_succ]
  refine wpAnyD_take (i := 5) (v := ?_) rfl (by kernel_rfl) (by kernel_rfl) (by kernel_rfl) (by kernel_rfl) (by kernel_rfl) (fun _ _ _ h => h) hS (Or.inl ⟨by rfl, ?_⟩) ?_
  rotate_left
  · intro w hSw; obtain ⟨s1, s2, s3, s4, s5, s6⟩ := hSw; go_simp
    try with_reducible rfl
  try simp only [Act.put, List.setIfInBounds_toArray, List.set_cons_zero, List.set_cons_succ]
  refine wpAnyD_take (i := 6) (v := ?_) rfl (by kernel_rfl) (by kernel_rfl) (by kernel_rfl) (by kernel_rfl) (by kernel_rfl) (fun _ _ _ h => h) hS (Or.inl ⟨by rfl, ?_⟩) ?_
  rotate_left
  · intro w hSw; obtain ⟨s1, s2, s3, s4, s5, s6⟩ := hSw; go_simp
    try with_reducible rfl
  try simp only [Act.put, List.setIfInBounds_toArray, List.set_cons_zero, List.set_cons_succ]
  refine wpAnyD_take (i := 7) (v := ?_) rfl (by kernel_rfl) (by kernel_rfl) (by kernel_rfl) (by kernel_rfl) (by kernel_rfl) (fun _ _ _ h => h) hS (Or.inl ⟨by rfl, ?_⟩) ?_
  rotate_left
  · intro w hSw; obtain ⟨s1, s2, s3, s4, s5, s6⟩ := hSw; go_simp
    try with_reducible rfl
  try simp only [Act.put, List.setIfInBounds_toArray, List.set_cons_zero, List.set_cons_succ]
  refine wpAnyD_take (i := 8) (v := ?_) rfl (by kernel_rfl) (by kernel_rfl) (by kernel_rfl) (by kernel_rfl) (by kernel_rfl) (fun _ _ _ h => h) hS (Or.inl ⟨by rfl, ?_⟩) ?_
  rotate_left
  · intro w hSw; obtain ⟨s1, s2, s3, s4, s5, s6⟩ := hSw; go_simp
    try with_reducible rfl
  try simp only [Act.put, List.setIfInBounds_toArray, List.set_cons_zero, List.set_cons_succ]
  refine wpAnyD_take (i := 9) (v := ?_) rfl (by kernel_rfl) (by kernel_rfl) (by kernel_rfl) (by kernel_rfl) (by kernel_rfl) (fun _ _ _ h => h) hS (Or.inl ⟨by rfl, ?_⟩) ?_
  rotate_left
  · intro w hSw; obtain ⟨s1, s2, s3, s4, s5, s6⟩ := hSw; go_simp
    try with_reducible rfl
  try simp only [Act.put, List.setIfInBounds_toArray, List.set_cons_zero, List.set_cons_succ]
  refine wpAnyD_take (i := 10) (v := ?_) rfl (by kernel_rfl) (by kernel_rfl) (by kernel_rfl) (by kernel_rfl) (by kernel_rfl) (fun _ _ _ h => h) hS (Or.inl ⟨by rfl, ?_⟩) ?_
  rotate_left
  · intro w hSw; obtain ⟨s1, s2, s3, s4, s5, s6⟩ := hSw; go_simp
    try with_reducible rfl
  try simp only [Act.put, List.setIfInBounds_toArray, List.set_cons_zero, List.set_cons_succ]
  refine wpAnyD_take (i := 11) (v := ?_) rfl (by kernel_rfl) (by kernel_rfl) (by kernel_rfl) (by kernel_rfl) (by kernel_rfl) (fun _ _ _ h => h) hS (Or.inl ⟨by rfl, ?_⟩) ?_
  rotate_left
  · intro w hSw; obtain ⟨s1, s2, s3, s4, s5, s6⟩ := hSw; go_simp
    try with_reducible rfl
  try simp only [Act.put, List.setIfInBounds_toArray, List.set_cons_zero, List.set_cons_succ]
  refine wpAnyD_take (i := 13) (v := ?_) rfl (by kernel_rfl) (by kernel_rfl) (by kernel_rfl) (by kernel_rfl) (by kernel_rfl) (fun _ _ _ h => h) hS (Or.inl ⟨by rfl, ?_⟩) ?_
  rotate_left
  · intro w hSw; obtain ⟨s1, s2, s3, s4, s5, s6⟩ := hSw; go_simp
    try with_reducible rfl
  try simp only [Act.put, List.setIfInBounds_toArray, List.set_cons_zero, List.set_cons_succ]
  refine wpAnyD_take (i := 14) (v := ?_) rfl (by kernel_rfl) (by kernel_rfl) (by kernel_rfl) (by kernel_rfl) (by kernel_rfl) (fun _ _ _ h => h) hS (Or.inl ⟨by rfl, ?_⟩) ?_
  rotate_left
  · intro w hSw; obtain ⟨s1, s2, s3, s4, s5, s6⟩ := hSw; go_simp
    try with_reducible rfl
  try simp only [Act.put, List.setIfInBounds_toArray, List.set_cons_zero, List.set_cons_succ]
  refine wpAnyD_take (i := 15) (v := ?_) rfl (by kernel_rfl) (by kernel_rfl) (by kernel_rfl) (by kernel_rfl) (by kernel_rfl) (fun _ _ _ h => h) hS (Or.inl ⟨by rfl, ?_⟩) ?_
  rotate_left
  · intro w hSw; obtain ⟨s1, s2, s3, s4, s5, s6⟩ := hSw; go_simp
    try with_reducible rfl
  try simp only [Act.put, List.setIfInBounds_toArray, List.set_cons_zero, List.set_cons_succ]
  refine wpAnyD_take (i := 16) (v := ?_) rfl (by kernel_rfl) (by kernel_rfl) (by kernel_rfl) (by kernel_rfl) (by kernel_rfl) (fun _ _ _ h => h) hS (Or.inl ⟨by rfl, ?_⟩) ?_
  rotate_left
  · intro w hSw; obtain ⟨s1, s2, s3, s4, s5, s6⟩ := hSw; go_simp
    try with_reducible rfl
  try simp only [Act.put, List.setIfInBounds_toArray, List.set_cons_zero, List.set_cons_succ]
  refine wpAnyD_take (i := 17) (v := ?_) rfl (by kernel_rfl) (by kernel_rfl) (by kernel_rfl) (by kernel_rfl) (by kernel_rfl) (fun _ _ _ h => h) hS (Or.inl ⟨by rfl, ?_⟩) ?_
  rotate_left
  · intro w hSw; obtain ⟨s1, s2, s3, s4, s5, s6⟩ := hSw; go_simp
    try with_reducible rfl
  try simp only [Act.put, List.setIfInBounds_toArray, List.set_cons_zero, List.set_cons_succ]
  refine wpAnyD_take (i := 18) (v := ?_) rfl (by kernel_rfl) (by kernel_rfl) (by kernel_rfl) (by kernel_rfl) (by kernel_rfl) (fun _ _ _ h => h) hS (Or.inl ⟨by rfl, ?_⟩) ?_
  rotate_left
  · intro w hSw; obtain ⟨s1, s2, s3, s4, s5, s6⟩ := hSw; go_simp
    try with_reducible rfl
  try simp only [Act.put, List.setIfInBounds_toArray, List.set_cons_zero, List.set_cons_succ]
  refine wpAnyD_take (i := 19) (v := ?_) rfl (by kernel_rfl) (by kernel_rfl) (by kernel_rfl) (by kernel_rfl) (by kernel_rfl) (fun _ _ _ h => h) hS (Or.inl ⟨by rfl, ?_⟩) ?_
  rotate_left
  · intro w hSw; obtain ⟨s1, s2, s3, s4, s5, s6⟩ := hSw; go_simp
    try with_reducible rfl
  try simp only [Act.put, List.setIfInBounds_toArray, List.set_cons_zero, List.set_cons_succ]
  refine wpAnyD_take (i := 21) (v := ?_) rfl (by kernel_rfl) (by kernel_rfl) (by kernel_rfl) (by kernel_rfl) (by kernel_rfl) (fun _ _ _ h => h) hS (Or.inl ⟨by rfl, ?_⟩) ?_
  rotate_left
  · intro w hSw; obtain ⟨s1, s2, s3, s4, s5, s6⟩ := hSw; go_simp
    try with_reducible rfl
  try simp only [Act.put, List.setIfInBounds_toArray, List.set_cons_zero, List.set_cons_succ]
  refine wpAnyD_take (i := 22) (v := ?_) rfl (by kernel_rfl) (by kernel_rfl) (by kernel_rfl) (by kernel_rfl) (by kernel_rfl) (fun _ _ _ h => h) hS (Or.inl ⟨by rfl, ?_⟩) ?_
  rotate_left
  · intro w hSw; obtain ⟨s1, s2, s3, s4, s5, s6⟩ := hSw; go_simp
    try with_reducible rfl
  try simp only [Act.put, List.setIfInBounds_toArray, List.set_cons_zero, List.set_cons_succ]
  refine wpAnyD_take (i := 23) (v := ?_) rfl (by kernel_rfl) (by kernel_rfl) (by kernel_rfl) (by kernel_rfl) (by kernel_rfl) (fun _ _ _ h => h) hS (Or.inl ⟨by rfl, ?_⟩) ?_
  rotate_left
  · intro w hSw; obtain ⟨s1, s2, s3, s4, s5, s6⟩ := hSw; go_simp
    try with_reducible rfl
  try simp only [Act.put, List.setIfInBounds_toArray, List.set_cons_zero, List.set_cons_succ]
  refine wpAnyD_take (i := 24) (v := ?_) rfl (by kernel_rfl) (by kernel_rfl) (by kernel_rfl) (by kernel_rfl) (by kernel_rfl) (fun _ _ _ h => h) hS (Or.inl ⟨by rfl, ?_⟩) ?_
  rotate_left
  · intro w hSw; obtain ⟨s1, s2, s3, s4, s5, s6⟩ := hSw; go_simp
    try with_reducible rfl
  try simp only [Act.put, List.setIfInBounds_toArray, List.set_cons_zero, List.set_cons_succ]
  refine wpAnyD_take (i := 25) (v := ?_) rfl (by kernel_rfl) (by kernel_rfl) (by kernel_rfl) (by kernel_rfl) (by kernel_rfl) (fun _ _ _ h => h) hS (Or.inl ⟨by rfl, ?_⟩) ?_
  rotate_left
  · intro w hSw; obtain ⟨s1, s2, s3, s4, s5, s6⟩ := hSw; go_simp
    try with_reducible rfl
  try simp only [Act.put, List.setIfInBounds_toArray, List.set_cons_zero, List.set_cons_succ]
  refine wpAnyD_take (i := 26) (v := ?_) rfl (by kernel_rfl) (by kernel_rfl) (by kernel_rfl) (by kernel_rfl) (by kernel_rfl) (fun _ _ _ h => h) hS (Or.inl ⟨by rfl, ?_⟩) ?_
  rotate_left
  · intro w hSw; obtain ⟨s1, s2, s3, s4, s5, s6⟩ := hSw; go_simp
    try with_reducible rfl
  try simp only [Act.put, List.setIfInBounds_toArray, List.set_cons_zero, List.set_cons_succ]
  refine wpAnyD_take (i := 27) (v := ?_) rfl (by kernel_rfl) (by kernel_rfl) (by kernel_rfl) (by kernel_rfl) (by kernel_rfl) (fun _ _ _ h => h) hS (Or.inl ⟨by rfl, ?_⟩) ?_
  rotate_left
  · intro w hSw; obtain ⟨s1, s2, s3, s4, s5, s6⟩ := hSw; go_simp
    try with_reducible rfl
  try simp only [Act.put, List.setIfInBounds_toArray, List.set_cons_zero, List.set_cons_succ]
  refine wpAnyD_take (i := 28) (v := ?_) rfl (by kernel_rfl) (by kernel_rfl) (by kernel_rfl) (by kernel_rfl) (by kernel_rfl) (fun _ _ _ h => h) hS (Or.inl ⟨by rfl, ?_⟩) ?_
  rotate_left
  · intro w hSw; obtain ⟨s1, s2, s3, s4, s5, s6⟩ := hSw; go_simp
    try with_reducible rfl
  try simp only [Act.put, List.setIfInBounds_toArray, List.set_cons_zero, List.set_cons_succ]
  clear hS
  refine wpAnyD_one (i := 12) rfl (by kernel_rfl) rfl (fun K hK => ?_)
  go_simp
  refine HC.out.mono ?_
  rintro e w2 ⟨g', cap', rfl, hg2, hb2, hge⟩
  have km2 := HV.out.1.below hb2 HV.out.1.lt
  have kb2 := HV.out.2.2.below hb2 HV.out.2.2.lt
  have hS2 := HSf.out w2 km2
  have HL := Lib.hid (load_any ⟨bm, 4, none⟩ st w2 (km2.get 4 (I st) rfl))
  have HR := Lib.hid (And.intro kb2 (And.intro hg2 (And.intro (below_tr HV.out.2.1 hb2) (show g' ≠ b2 by have := HV.out.2.2.lt; omega))))
  refine hK _ _ (Or.inr hS2) ?_
  clear hK K km2 kb2 hg2 hb2 hge HC
  try simp only [Act.put, List.setIfInBounds_toArray, List.set_cons_zero, List.set_cons_succ]
  refine wpAnyD_one (i := 20) rfl (by kernel_rfl) rfl (fun K hK => ?_)
  go_simp
  refine HL.out.mono ?_
  rintro e w3 ⟨rfl, rfl⟩
  refine hK _ _ (Or.inr hS2) ?_
  clear hK K HL
  try simp only [Act.put, List.setIfInBounds_toArray, List.set_cons_zero, List.set_cons_succ]
  refine wpAnyD_one (i := 29) rfl (by kernel_rfl) rfl (fun K hK => ?_)
  go_simp
  refine hK _ _ (Or.inr hS2) ?_
  clear hK K hS2
  try simp only [Act.put, List.setIfInBounds_toArray, List.set_cons_zero, List.set_cons_succ]
  have z0 := HR.out.1.get 0 (.int .u8 0) rfl
  have z1 := HR.out.1.get 1 (I 0) rfl
  have z2 := HR.out.1.get 2 nilS rfl
  have z3 := HR.out.1.get 3 (I 0) rfl
  have z4 := HR.out.1.get 4 (I 0) rfl
  have z5 := HR.out.1.get 5 (I 0) rfl
  have z6 := HR.out.1.get 6 (I 0) rfl
  have v0 := HR.out.1.free 0
  have v1 := HR.out.1.free 1
  have v2 := HR.out.1.free 2
  have v3 := HR.out.1.free 3
  have v4 := HR.out.1.free 4
  have v5 := HR.out.1.free 5
  have v6 := HR.out.1.free 6
  refine wpAnyD_one (i := 30) rfl (by kernel_rfl) rfl (fun K hK => ?_)
  go_simp
  refine hK _ _ (Or.inl rfl) ?_
  clear hK K
  try simp only [Act.put, List.setIfInBounds_toArray, List.set_cons_zero, List.set_cons_succ]
  refine wpAnyD_done (by kernel_rfl) ?_ _
  go_wp2_with fail
  have hk7 : Blk b2 #[.int .u8 en, I ex, .slice (some ⟨g', 0, none⟩) 1 cap', I 0, I st, I mk, I at'] 39 _ := ((((((HR.out.1.set 0 (.int .u8 en)).set 1 (I ex)).set 2 (.slice (some ⟨g', 0, none⟩) 1 cap')).set 3 (I 0)).set 4 (I st)).set 5 (I mk)).set 6 (I at')
  refine bodyPost_ret (results_cell_row rfl _ _ b2 39 _ (0, 0) _ rfl hk7 Tryd.underlying39 rfl infoSt) rfl ?_
  have hn := HR.out.2.2.2
  have hle : w.heap.size ≤ b2 := by rw [HW1.out.2]; exact Nat.le_refl _
  exact ⟨g', cap', rfl, cell_other hn (cell_other hn (cell_other hn (cell_other hn (cell_other hn (cell_other hn (cell_other hn HR.out.2.1)))))), below1 hle (below1 hle (below1 hle (below1 hle (below1 hle (below1 hle (below1 hle HR.out.2.2.1 _) _) _) _) _) _) _⟩
end Go.Proofs.YtepnjhbolaebmaaDoor
