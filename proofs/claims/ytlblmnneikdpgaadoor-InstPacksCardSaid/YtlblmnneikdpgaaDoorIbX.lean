/-
  The writer of instructions: one byte, a number with a sign, one without.
-/
import Derived.Test.YtlblmnneikdpgaaDoorIbW
import Derived.Test.YtlblmnneikdpgaaDoorCdM
namespace Go.Proofs.YtlblmnneikdpgaaDoor
open Go Go.RowKit Ib

theorem Fw.cell {bt : Nat} {v v' : Value} {W W' : World} (h : Fw bt v v' W W') {a : Addr} {x : Value} (hx : W.cell? a = some x) (h1 : a.block ≠ bt) (h2 : some a.block ≠ v.ownBlock) : W'.cell? a = some x := by
  have h3 := h.block a.block (lt_of_cell hx) h1 h2
  unfold World.cell? at hx ⊢
  rw [h3]
  exact hx
set_option maxRecDepth 100000 in
set_option maxHeartbeats 1600000 in
theorem one_w (bt base : Nat) (v : Value) (l : List Nat) (a : Addr) (x : Nat) (hl : l.length ≤ 1000000000) (w : World) (h : Wt bt base v l w) (hx : w.cell? a = some (B8 x)) (hna : some a.block ≠ v.ownBlock) :
    Calls Tryd.prog 56 #[.pointer (some ⟨bt, 0, none⟩), .pointer (some a)] w fun e w' => NumT bt base v l [x] w w' .nilIface e := by
  obtain ⟨i1, p1, p2, p3, p4⟩ := info_parts infoB
  have HM := Lib.hid (And.intro p1 (And.intro p2 (And.intro p3 p4)))
  clear p1 p2 p3 p4
  obtain ⟨va, vm, vk, rfl⟩ := h.sl
  have HH := Lib.hid (And.intro h (And.intro hl (And.intro hx hna)))
  clear h hl hx hna
  go_enter Tryd.func56, Tryd.ntmps56
  go_wp2_with fail
  obtain ⟨V, hV⟩ : ∃ V, V = w.drew := ⟨_, rfl⟩
  have hbV : Below w.heap.size w V := by rw [hV]; exact below_drewN (Below.refl _ _) 1
  have hWV := HH.out.1.below hbV
  have hS : V.cell? ⟨bt, 0, none⟩ = some (.slice va vm vk) ∧ V.cell? a = some (B8 x) := ⟨hWV.blk.get 0 _ rfl, by rw [hV]; exact HH.out.2.2.1⟩
  have HV := Lib.hid (And.intro hWV hbV)
  refine wp_region_dep (S := fun w' : World => w'.cell? ⟨bt, 0, none⟩ = some (.slice va vm vk) ∧ w'.cell? a = some (B8 x)) (dep := [12]) (by kernel_rfl) ?_
  change wpAnyD _ _ _ _ _ _ _ _ _ (World.drew _)
  rw [← hV]
  clear hV hbV hWV
  refine wpAnyD_take (i := 0) (v := ?_) rfl (by kernel_rfl) (by kernel_rfl) (by kernel_rfl) (by kernel_rfl) (by kernel_rfl) (fun _ _ _ h => h) hS (Or.inl ⟨by rfl, ?_⟩) ?_
  rotate_left
  · intro w hSw; have s1 := hSw.1; have s2 := hSw.2; go_simp
    try with_reducible rfl
  try simp only [Act.put, List.setIfInBounds_toArray, List.set_cons_zero, List.set_cons_succ]
  refine wpAnyD_take (i := 1) (v := ?_) rfl (by kernel_rfl) (by kernel_rfl) (by kernel_rfl) (by kernel_rfl) (by kernel_rfl) (fun _ _ _ h => h) hS (Or.inl ⟨by rfl, ?_⟩) ?_
  rotate_left
  · intro w hSw; have s1 := hSw.1; have s2 := hSw.2; go_simp
    try with_reducible rfl
  try simp only [Act.put, List.setIfInBounds_toArray, List.set_cons_zero, List.set_cons_succ]
  refine wpAnyD_take (i := 2) (v := ?_) rfl (by kernel_rfl) (by kernel_rfl) (by kernel_rfl) (by kernel_rfl) (by kernel_rfl) (fun _ _ _ h => h) hS (Or.inl ⟨by rfl, ?_⟩) ?_
  rotate_left
  · intro w hSw; have s1 := hSw.1; have s2 := hSw.2; go_simp
    try with_reducible rfl
  try simp only [Act.put, List.setIfInBounds_toArray, List.set_cons_zero, List.set_cons_succ]
  refine wpAnyD_take (i := 3) (v := ?_) rfl (by kernel_rfl) (by kernel_rfl) (by kernel_rfl) (by kernel_rfl) (by kernel_rfl) (fun _ _ _ h => h) hS (Or.inl ⟨by rfl, ?_⟩) ?_
  rotate_left
  · intro w hSw; have s1 := hSw.1; have s2 := hSw.2; go_simp
    try with_reducible rfl
  try simp only [Act.put, List.setIfInBounds_toArray, List.set_cons_zero, List.set_cons_succ]
  refine wpAnyD_take (i := 4) (v := ?_) rfl (by kernel_rfl) (by kernel_rfl) (by kernel_rfl) (by kernel_rfl) (by kernel_rfl) (fun _ _ _ h => h) hS (Or.inl ⟨by rfl, ?_⟩) ?_
  rotate_left
  · intro w hSw; have s1 := hSw.1; have s2 := hSw.2; go_simp
    try with_reducible rfl
  try simp only [Act.put, List.setIfInBounds_toArray, List.set_cons_zero, List.set_cons_succ]
  refine wpAnyD_take (i := 5) (v := ?_) rfl (by kernel_rfl) (by kernel_rfl) (by kernel_rfl) (by kernel_rfl) (by kernel_rfl) (fun _ _ _ h => h) hS (Or.inl ⟨by rfl, ?_⟩) ?_
  rotate_left
  · intro w hSw; have s1 := hSw.1; have s2 := hSw.2; go_simp
    try with_reducible rfl
  try simp only [Act.put, List.setIfInBounds_toArray, List.set_cons_zero, List.set_cons_succ]
  refine wpAnyD_take (i := 6) (v := ?_) rfl (by kernel_rfl) (by kernel_rfl) (by kernel_rfl) (by kernel_rfl) (by kernel_rfl) (fun _ _ _ h => h) hS (Or.inl ⟨by rfl, ?_⟩) ?_
  rotate_left
  · intro w hSw; have s1 := hSw.1; have s2 := hSw.2; go_simp
    try with_reducible rfl
  try simp only [Act.put, List.setIfInBounds_toArray, List.set_cons_zero, List.set_cons_succ]
  refine wpAnyD_take (i := 7) (v := ?_) rfl (by kernel_rfl) (by kernel_rfl) (by kernel_rfl) (by kernel_rfl) (by kernel_rfl) (fun _ _ _ h => h) hS (Or.inl ⟨by rfl, ?_⟩) ?_
  rotate_left
  · intro w hSw; have s1 := hSw.1; have s2 := hSw.2; go_simp
    try with_reducible rfl
  try simp only [Act.put, List.setIfInBounds_toArray, List.set_cons_zero, List.set_cons_succ]
  have HS := Lib.hid hS
  clear hS
  refine wpAnyD_one (i := 8) rfl (by kernel_rfl) rfl (fun K hK => ?_)
  go_simp
  refine hK _ _ (Or.inr ⟨(HV.out.1.blk.alloc _).get 0 _ rfl, cellA_below ((Below.refl _ _).alloc (Nat.le_refl _) _) (lt_of_cell HS.out.2) HS.out.2⟩) ?_
  clear hK K
  try simp only [Act.put, List.setIfInBounds_toArray, List.set_cons_zero, List.set_cons_succ]
  refine wpAnyD_one (i := 9) rfl (by kernel_rfl) rfl (fun K hK => ?_)
  refine wp_append_lies _ (.tmp 9) (.tmp 13) 24 rfl base 5 i1 (B8 0) 1 1 Tryd.underlying24 HM.out.1 HM.out.2.1 HM.out.2.2.1 HM.out.2.2.2 rfl (by decide) (.slice va vm vk) l.length (bys l) rfl (HV.out.1.own.alloc _) ⟨V.heap.size, 0, none⟩ 1 1 [B8 x] rfl rfl (World.news_of_block (heap_alloc_new V _)) (by simp [Value.oneCell']) (by decide) (by have := HH.out.2.1; unfold maxLen; omega) (by have := HH.out.2.1; omega) (by have := HV.out.1.lo; have := HV.out.1.blk.lt; simp; omega) _ rfl ?_
  intro g cg w9 hown hgr hat hlt
  have hA := HV.out.1.app hgr hown hat
  have hk9 := (HV.out.1.blk.alloc (.cells #[B8 x] 5)).other hgr HV.out.1.ne
  have c9 := hk9.get 0 (.slice va vm vk) rfl
  have f9 := hk9.free 0
  have hsx : w9.cell? ⟨bt, 0, none⟩ = some (.slice va vm vk) ∧ w9.cell? a = some (B8 x) := ⟨c9, by
    have h1 := hgr.block a.block (by have := lt_of_cell HS.out.2; simp; omega) HH.out.2.2.2
    have h2 := HS.out.2
    unfold World.cell? at h2 ⊢
    rw [h1, heap_alloc_old V _ (lt_of_cell HS.out.2)]
    exact h2⟩
  have FIN := Lib.hid (show NumT bt base (.slice va vm vk) l [x] w _ .nilIface (.returned .nilIface) from ⟨rfl, _, hA.1, (Fw.of_below bt (.slice va vm vk) HV.out.2).trans hA.2⟩)
  refine hK _ _ (Or.inr hsx) ?_
  have HX := Lib.hid hsx
  clear hK K hown hgr hat hlt hA hk9 hsx
  try simp only [Act.put, List.setIfInBounds_toArray, List.set_cons_zero, List.set_cons_succ]
  refine wpAnyD_one (i := 10) rfl (by kernel_rfl) rfl (fun K hK => ?_)
  go_simp
  refine hK _ _ (Or.inr HX.out) ?_
  clear hK K
  try simp only [Act.put, List.setIfInBounds_toArray, List.set_cons_zero, List.set_cons_succ]
  refine wpAnyD_one (i := 11) rfl (by kernel_rfl) rfl (fun K hK => ?_)
  go_simp
  refine hK _ _ (Or.inr HX.out) ?_
  clear hK K
  try simp only [Act.put, List.setIfInBounds_toArray, List.set_cons_zero, List.set_cons_succ]
  refine wpAnyD_one (i := 12) rfl (by kernel_rfl) rfl (fun K hK => ?_)
  go_simp
  refine hK _ _ (Or.inl rfl) ?_
  clear hK K c9 f9
  refine wpAnyD_done (by kernel_rfl) ?_ _
  go_wp2_with fail
  go_ret
  exact FIN.out

set_option maxRecDepth 100000 in
set_option maxHeartbeats 1600000 in
theorem signed_w (bt base : Nat) (v : Value) (l : List Nat) (a : Addr) (n : Int) (hn : In64 n) (hl : l.length ≤ 1000000000) (w : World) (h : Wt bt base v l w) (hx : w.cell? a = some (I n)) (hna : some a.block ≠ v.ownBlock) (hnb : a.block ≠ bt) :
    Calls Tryd.prog 57 #[.pointer (some ⟨bt, 0, none⟩), .pointer (some a)] w fun e w' => NumT bt base v l (nmB true n) w w' .nilIface e := by
  have HH := Lib.hid (And.intro h (And.intro hl (And.intro hx (And.intro hn (And.intro hna hnb)))))
  have hwr : IntKind.u64.wrap n = (u64 n : Int) := by rw [IntKind.wrap_u64]; unfold u64; omega
  clear h hl hx hn hna hnb
  go_enter Tryd.func57, Tryd.ntmps57
  go_wp2_with fail
  obtain ⟨V, hV⟩ : ∃ V, V = w.drew := ⟨_, rfl⟩
  have hbV : Below w.heap.size w V := by rw [hV]; exact below_drewN (Below.refl _ _) 1
  have hWV := HH.out.1.below hbV
  have hS : V.cell? a = some (I n) := by rw [hV]; exact HH.out.2.2.1
  have HV := Lib.hid (And.intro hWV hbV)
  refine wp_region_dep (S := fun w' : World => w'.cell? a = some (I n)) (dep := []) (by kernel_rfl) ?_
  change wpAnyD _ _ _ _ _ _ _ _ _ (World.drew _)
  rw [← hV]
  clear hV hbV hWV
  refine wpAnyD_take (i := 0) (v := ?_) rfl (by kernel_rfl) (by kernel_rfl) (by kernel_rfl) (by kernel_rfl) (by kernel_rfl) (fun _ _ _ h => h) hS (Or.inl ⟨by rfl, ?_⟩) ?_
  rotate_left
  · intro w hSw; go_simp
    try with_reducible rfl
  try simp only [Act.put, List.setIfInBounds_toArray, List.set_cons_zero, List.set_cons_succ]
  refine wpAnyD_take (i := 1) (v := ?_) rfl (by kernel_rfl) (by kernel_rfl) (by kernel_rfl) (by kernel_rfl) (by kernel_rfl) (fun _ _ _ h => h) hS (Or.inl ⟨by rfl, ?_⟩) ?_
  rotate_left
  · intro w hSw; go_simp
    try with_reducible rfl
  try simp only [Act.put, List.setIfInBounds_toArray, List.set_cons_zero, List.set_cons_succ]
  refine wpAnyD_take (i := 2) (v := ?_) rfl (by kernel_rfl) (by kernel_rfl) (by kernel_rfl) (by kernel_rfl) (by kernel_rfl) (fun _ _ _ h => h) hS (Or.inl ⟨by rfl, ?_⟩) ?_
  rotate_left
  · intro w hSw; go_simp
    try with_reducible rfl
  try simp only [Act.put, List.setIfInBounds_toArray, List.set_cons_zero, List.set_cons_succ]
  refine wpAnyD_take (i := 3) (v := ?_) rfl (by kernel_rfl) (by kernel_rfl) (by kernel_rfl) (by kernel_rfl) (by kernel_rfl) (fun _ _ _ h => h) hS (Or.inl ⟨by rfl, ?_⟩) ?_
  rotate_left
  · intro w hSw; go_simp
    try with_reducible rfl
  try simp only [Act.put, List.setIfInBounds_toArray, List.set_cons_zero, List.set_cons_succ]
  refine wpAnyD_take (i := 4) (v := ?_) rfl (by kernel_rfl) (by kernel_rfl) (by kernel_rfl) (by kernel_rfl) (by kernel_rfl) (fun _ _ _ h => h) hS (Or.inl ⟨by rfl, ?_⟩) ?_
  rotate_left
  · intro w hSw; go_simp
    try with_reducible rfl
  try simp only [Act.put, List.setIfInBounds_toArray, List.set_cons_zero, List.set_cons_succ]
  refine wpAnyD_take (i := 5) (v := ?_) rfl (by kernel_rfl) (by kernel_rfl) (by kernel_rfl) (by kernel_rfl) (by kernel_rfl) (fun _ _ _ h => h) hS (Or.inl ⟨by rfl, ?_⟩) ?_
  rotate_left
  · intro w hSw; go_simp
    try with_reducible rfl
  try simp only [Act.put, List.setIfInBounds_toArray, List.set_cons_zero, List.set_cons_succ]
  refine wpAnyD_take (i := 6) (v := ?_) rfl (by kernel_rfl) (by kernel_rfl) (by kernel_rfl) (by kernel_rfl) (by kernel_rfl) (fun _ _ _ h => h) hS (Or.inl ⟨by rfl, ?_⟩) ?_
  rotate_left
  · intro w hSw; go_simp
    try with_reducible rfl
  try simp only [Act.put, List.setIfInBounds_toArray, List.set_cons_zero, List.set_cons_succ]
  refine wpAnyD_take (i := 7) (v := ?_) rfl (by kernel_rfl) (by kernel_rfl) (by kernel_rfl) (by kernel_rfl) (by kernel_rfl) (fun _ _ _ h => h) hS (Or.inl ⟨by rfl, ?_⟩) ?_
  rotate_left
  · intro w hSw; go_simp
    try with_reducible rfl
  try simp only [Act.put, List.setIfInBounds_toArray, List.set_cons_zero, List.set_cons_succ]
  have HS := Lib.hid hS
  clear hS
  refine wpAnyD_one (i := 8) rfl (by kernel_rfl) rfl (fun K hK => ?_)
  go_simp
  refine (ssize_any n HH.out.2.2.2.1 V).mono ?_
  rintro e w1 ⟨rfl, rfl⟩
  refine hK _ _ (Or.inr HS.out) ?_
  clear hK K
  try simp only [Act.put, List.setIfInBounds_toArray, List.set_cons_zero, List.set_cons_succ]
  refine wpAnyD_one (i := 9) rfl (by kernel_rfl) rfl (fun K hK => ?_)
  go_simp
  refine (number_w bt base v l (u64 n) (sizeS n) (u64_lt n) (sizeS_8 n HH.out.2.2.2.1) HH.out.2.1 w1 HV.out.1).mono ?_
  rintro e w2 ⟨rfl, v', h1, h2⟩
  have FIN := Lib.hid (show NumT bt base v l (nmB true n) w w2 .nilIface (.returned .nilIface) from ⟨rfl, v', h1, (Fw.of_below bt v HV.out.2).trans h2⟩)
  refine hK _ _ (Or.inr (h2.cell HS.out HH.out.2.2.2.2.2 HH.out.2.2.2.2.1)) ?_
  clear hK K h1 h2
  try simp only [Act.put, List.setIfInBounds_toArray, List.set_cons_zero, List.set_cons_succ]
  refine wpAnyD_done (by kernel_rfl) ?_ _
  go_wp2_with fail
  go_ret
  exact FIN.out

set_option maxRecDepth 100000 in
set_option maxHeartbeats 1600000 in
theorem unsigned_w (bt base : Nat) (v : Value) (l : List Nat) (a : Addr) (n : Int) (hn : In64 n) (hl : l.length ≤ 1000000000) (w : World) (h : Wt bt base v l w) (hx : w.cell? a = some (I n)) (hna : some a.block ≠ v.ownBlock) (hnb : a.block ≠ bt) :
    Calls Tryd.prog 58 #[.pointer (some ⟨bt, 0, none⟩), .pointer (some a)] w fun e w' => NumT bt base v l (nmB false n) w w' .nilIface e := by
  have HH := Lib.hid (And.intro h (And.intro hl (And.intro hx (And.intro hn (And.intro hna hnb)))))
  have hwr : IntKind.u64.wrap n = (u64 n : Int) := by rw [IntKind.wrap_u64]; unfold u64; omega
  clear h hl hx hn hna hnb
  go_enter Tryd.func58, Tryd.ntmps58
  go_wp2_with fail
  obtain ⟨V, hV⟩ : ∃ V, V = w.drew := ⟨_, rfl⟩
  have hbV : Below w.heap.size w V := by rw [hV]; exact below_drewN (Below.refl _ _) 1
  have hWV := HH.out.1.below hbV
  have hS : V.cell? a = some (I n) := by rw [hV]; exact HH.out.2.2.1
  have HV := Lib.hid (And.intro hWV hbV)
  refine wp_region_dep (S := fun w' : World => w'.cell? a = some (I n)) (dep := []) (by kernel_rfl) ?_
  change wpAnyD _ _ _ _ _ _ _ _ _ (World.drew _)
  rw [← hV]
  clear hV hbV hWV
  refine wpAnyD_take (i := 0) (v := ?_) rfl (by kernel_rfl) (by kernel_rfl) (by kernel_rfl) (by kernel_rfl) (by kernel_rfl) (fun _ _ _ h => h) hS (Or.inl ⟨by rfl, ?_⟩) ?_
  rotate_left
  · intro w hSw; go_simp
    try with_reducible rfl
  try simp only [Act.put, List.setIfInBounds_toArray, List.set_cons_zero, List.set_cons_succ]
  refine wpAnyD_take (i := 1) (v := ?_) rfl (by kernel_rfl) (by kernel_rfl) (by kernel_rfl) (by kernel_rfl) (by kernel_rfl) (fun _ _ _ h => h) hS (Or.inl ⟨by rfl, ?_⟩) ?_
  rotate_left
  · intro w hSw; go_simp
    try with_reducible rfl
  try simp only [Act.put, List.setIfInBounds_toArray, List.set_cons_zero, List.set_cons_succ]
  refine wpAnyD_take (i := 2) (v := ?_) rfl (by kernel_rfl) (by kernel_rfl) (by kernel_rfl) (by kernel_rfl) (by kernel_rfl) (fun _ _ _ h => h) hS (Or.inl ⟨by rfl, ?_⟩) ?_
  rotate_left
  · intro w hSw; go_simp
    try with_reducible rfl
  try simp only [Act.put, List.setIfInBounds_toArray, List.set_cons_zero, List.set_cons_succ]
  refine wpAnyD_take (i := 3) (v := ?_) rfl (by kernel_rfl) (by kernel_rfl) (by kernel_rfl) (by kernel_rfl) (by kernel_rfl) (fun _ _ _ h => h) hS (Or.inl ⟨by rfl, ?_⟩) ?_
  rotate_left
  · intro w hSw; go_simp
    try with_reducible rfl
  try simp only [Act.put, List.setIfInBounds_toArray, List.set_cons_zero, List.set_cons_succ]
  refine wpAnyD_take (i := 4) (v := ?_) rfl (by kernel_rfl) (by kernel_rfl) (by kernel_rfl) (by kernel_rfl) (by kernel_rfl) (fun _ _ _ h => h) hS (Or.inl ⟨by rfl, ?_⟩) ?_
  rotate_left
  · intro w hSw; go_simp
    try with_reducible rfl
  try simp only [Act.put, List.setIfInBounds_toArray, List.set_cons_zero, List.set_cons_succ]
  refine wpAnyD_take (i := 5) (v := ?_) rfl (by kernel_rfl) (by kernel_rfl) (by kernel_rfl) (by kernel_rfl) (by kernel_rfl) (fun _ _ _ h => h) hS (Or.inl ⟨by rfl, ?_⟩) ?_
  rotate_left
  · intro w hSw; go_simp
    try with_reducible rfl
  try simp only [Act.put, List.setIfInBounds_toArray, List.set_cons_zero, List.set_cons_succ]
  refine wpAnyD_take (i := 6) (v := ?_) rfl (by kernel_rfl) (by kernel_rfl) (by kernel_rfl) (by kernel_rfl) (by kernel_rfl) (fun _ _ _ h => h) hS (Or.inl ⟨by rfl, ?_⟩) ?_
  rotate_left
  · intro w hSw; go_simp
    try with_reducible rfl
  try simp only [Act.put, List.setIfInBounds_toArray, List.set_cons_zero, List.set_cons_succ]
  refine wpAnyD_take (i := 7) (v := ?_) rfl (by kernel_rfl) (by kernel_rfl) (by kernel_rfl) (by kernel_rfl) (by kernel_rfl) (fun _ _ _ h => h) hS (Or.inl ⟨by rfl, ?_⟩) ?_
  rotate_left
  · intro w hSw; go_simp
    try with_reducible rfl
  try simp only [Act.put, List.setIfInBounds_toArray, List.set_cons_zero, List.set_cons_succ]
  refine wpAnyD_take (i := 8) (v := ?_) rfl (by kernel_rfl) (by kernel_rfl) (by kernel_rfl) (by kernel_rfl) (by kernel_rfl) (fun _ _ _ h => h) hS (Or.inl ⟨by rfl, ?_⟩) ?_
  rotate_left
  · intro w hSw; go_simp
    try with_reducible rfl
  try simp only [Act.put, List.setIfInBounds_toArray, List.set_cons_zero, List.set_cons_succ]
  have HS := Lib.hid hS
  clear hS
  refine wpAnyD_one (i := 9) rfl (by kernel_rfl) rfl (fun K hK => ?_)
  go_simp
  refine (size_any (u64 n) (u64_lt n) V).mono ?_
  rintro e w1 ⟨rfl, rfl⟩
  refine hK _ _ (Or.inr HS.out) ?_
  clear hK K
  try simp only [Act.put, List.setIfInBounds_toArray, List.set_cons_zero, List.set_cons_succ]
  refine wpAnyD_one (i := 10) rfl (by kernel_rfl) rfl (fun K hK => ?_)
  go_simp
  refine (number_w bt base v l (u64 n) (sizeU (u64 n)) (u64_lt n) (sizeU_8 _ (u64_lt n)) HH.out.2.1 w1 HV.out.1).mono ?_
  rintro e w2 ⟨rfl, v', h1, h2⟩
  have FIN := Lib.hid (show NumT bt base v l (nmB false n) w w2 .nilIface (.returned .nilIface) from ⟨rfl, v', h1, (Fw.of_below bt v HV.out.2).trans h2⟩)
  refine hK _ _ (Or.inr (h2.cell HS.out HH.out.2.2.2.2.2 HH.out.2.2.2.2.1)) ?_
  clear hK K h1 h2
  try simp only [Act.put, List.setIfInBounds_toArray, List.set_cons_zero, List.set_cons_succ]
  refine wpAnyD_done (by kernel_rfl) ?_ _
  go_wp2_with fail
  go_ret
  exact FIN.out
end Go.Proofs.YtlblmnneikdpgaaDoor
