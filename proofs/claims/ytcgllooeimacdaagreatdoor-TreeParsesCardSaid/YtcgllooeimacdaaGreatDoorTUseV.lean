/-
  What stands behind a name in an expression: a cell's place, a call, nothing.
-/
import Derived.Test.YtcgllooeimacdaaGreatDoorTCall
namespace Go.Proofs.YtcgllooeimacdaaGreatDoor
open Go Go.RowKit Px
open Lx (Tok)

def elemF (ts : List Tok) (F : Nat) (nm : Bytes) (pos : Nat) (s : St) : R Ex := bindR (placeF ts F s) fun x s' => .ok (.mk 4 0 nm 0 pos [x], s')
/-- What stands behind a name: a contract. -/
def UseC (f : Nat) : Prop := ∀ (b g cap : Nat) (ts : List Tok) (s : St) (w : World), PW b g cap ts s w → ∀ (t0 t1 : Nat) (t2 : Bytes) (t3 : Nat), useF ts f ⟨t0, t1, t2, t3⟩ s ≠ gone →
  Calls Tryz.prog 168 #[.pointer (some ⟨b, 0, none⟩), .agg #[.int .u8 (t0 : Int), .int .i64 (t1 : Int), .string ⟨t2.toArray⟩, .int .i64 (t3 : Int)]] w (RPost b g cap ts w (exE w.heap.size) (useF ts f ⟨t0, t1, t2, t3⟩ s))

set_option maxRecDepth 100000 in
set_option maxHeartbeats 1000000 in
theorem use_var (b g cap : Nat) (ts : List Tok) (s : St) (w : World) (hw : PW b g cap ts s w) (t0 t1 : Nat) (t2 : Bytes) (t3 : Nat) (h1 : (tk ts s.i).text ≠ [91]) (h2 : (tk ts s.i).text ≠ [40]) :
    Calls Tryz.prog 168 #[.pointer (some ⟨b, 0, none⟩), .agg #[.int .u8 (t0 : Int), .int .i64 (t1 : Int), .string ⟨t2.toArray⟩, .int .i64 (t3 : Int)]] w (RPost b g cap ts w (exE w.heap.size) (.ok (.mk 3 0 t2 0 t1 [], s))) := by
  obtain ⟨W1, hW1⟩ : ∃ W1, W1 = w.alloc (.cells #[.int .u8 (t0 : Int), .int .i64 (t1 : Int), .string ⟨t2.toArray⟩, .int .i64 (t3 : Int)] 55) := ⟨_, rfl⟩
  have hb1 : Below w.heap.size w W1 := by rw [hW1]; exact (Below.refl _ _).alloc (Nat.le_refl _) _
  have hs1 : W1.heap.size = w.heap.size + 1 := by rw [hW1]; simp
  have ht1 : Blk w.heap.size #[.int .u8 (t0 : Int), .int .i64 (t1 : Int), .string ⟨t2.toArray⟩, .int .i64 (t3 : Int)] 55 W1 := by rw [hW1]; exact Blk.new _ _ _
  obtain ⟨W, hW⟩ : ∃ W, W = W1.alloc ex0 := ⟨_, rfl⟩
  have hbW : Below W1.heap.size W1 W := by rw [hW]; exact (Below.refl _ _).alloc (Nat.le_refl _) _
  have hz : Blk W1.heap.size zEx 36 W := by rw [hW]; exact Blk.new _ _ _
  have hp1 := hw.below hb1
  have e1 : ((tk ts s.i).text == [91]) = false := by simpa using h1
  have e2 : ((tk ts s.i).text == [40]) = false := by simpa using h2
  have HI := Lib.hid fun x w1 (h : PW b g cap ts s w1) => is_any b g cap ts s x w1 h
  have HH := Lib.hid (And.intro hb1 (And.intro hbW (And.intro hz (And.intro hp1 (And.intro ht1 hs1)))))
  have HWW := Lib.hid (show W = (w.alloc (.cells #[.int .u8 (t0 : Int), .int .i64 (t1 : Int), .string ⟨t2.toArray⟩, .int .i64 (t3 : Int)] 55)).alloc ex0 by rw [hW, hW1])
  have HE := Lib.hid (And.intro e1 e2)
  clear hw hW hW1 hb1 hbW hz hp1 ht1 e1 e2 h1 h2
  go_enter Tryz.func168, Tryz.ntmps168
  go_upto_region 1 with (fail)
  rw [← HWW.out]
  go_wp2_with fail
  refine (HI.out [91] W (HH.out.2.2.2.1.below HH.out.2.1)).mono ?_
  rintro e w2 ⟨rfl, hb2⟩
  have H2 := Lib.hid (HH.out.2.1.trans (hb2.mono HH.out.2.1.size))
  have HZ2 := Lib.hid (HH.out.2.2.1.below hb2 HH.out.2.2.1.lt)
  rw [HE.out.1]
  clear hb2
  go_wp2_with fail
  refine (HI.out [40] w2 (HH.out.2.2.2.1.below H2.out)).mono ?_
  rintro e w3 ⟨rfl, hb3⟩
  have H3 := Lib.hid (H2.out.trans (hb3.mono H2.out.size))
  have hz3 := HZ2.out.below hb3 HZ2.out.lt
  have ht3 := HH.out.2.2.2.2.1.below H3.out (by have := HH.out.2.2.2.2.2; omega)
  rw [HE.out.2]
  have hfin := ex_fin (k := 3) (op := 0) (nm := t2) (n := 0) (pos := t1) (a := none) (m := 0) (c := 0) (x := .mk 3 0 t2 0 t1 []) HH.out.2.2.2.1 (gtrans (row := some b) (grown_of_below H3.out) (grown_of_below (Below.refl _ _))) hz3 (HH.out.2.2.2.1.below H3.out) (by simp [ExC])
  rw [hs1] at hfin hz3
  obtain ⟨z0, z1, z2, z3, z4, z5⟩ := hz3.get6
  obtain ⟨f0, f1, f2, f3, f4, f5⟩ := hz3.free6
  obtain ⟨c0, c1, c2, c3⟩ := ht3.get4
  obtain ⟨U, hU⟩ : ∃ U, U = set6 w3 (w.heap.size + 1) (.int .u8 3) (.int .u8 0) (.string ⟨t2.toArray⟩) (.int .i64 0) (.int .i64 (t1 : Int)) (.slice none 0 0) := ⟨_, rfl⟩
  have hfin2 : Blk (w.heap.size + 1) #[.int .u8 3, .int .u8 0, .string ⟨t2.toArray⟩, .int .i64 0, .int .i64 (t1 : Int), .slice none 0 0] 36 U ∧ W1.grownBy U (some b) ∧ PW b g cap ts s U ∧
      exE (w.heap.size + 1) (.mk 3 0 t2 0 t1 []) (.returned (.agg #[.int .u8 3, .int .u8 0, .string ⟨t2.toArray⟩, .int .i64 0, .int .i64 (t1 : Int), .slice none 0 0])) U := by rw [hU]; exact hfin
  have FIN := Lib.hid hfin2
  have HUU := Lib.hid hU
  clear hb3 hz3 ht3 hfin hfin2 hU
  go_wp2
  rw [← set6_eq, ← HUU.out]
  obtain ⟨y0, y1, y2, y3, y4, y5⟩ := FIN.out.1.get6
  clear z0 z1 z2 z3 z4 z5 f0 f1 f2 f3 f4 f5 c0 c1 c2 c3
  refine bodyPost_ret (v := .agg #[.int .u8 3, .int .u8 0, .string ⟨t2.toArray⟩, .int .i64 0, .int .i64 (t1 : Int), .slice none 0 0]) (by simp [results, Tryz.results168, go_sem, y0, y1, y2, y3, y4, y5]) rfl (RPost.ok rfl (gtrans (grown_of_below HH.out.1) FIN.out.2.1) ?_ FIN.out.2.2.1)
  exact ⟨3, 0, t2, 0, t1, none, 0, 0, rfl, by simp [ExC]⟩

set_option maxRecDepth 100000 in
set_option maxHeartbeats 1000000 in
theorem use_elem {F : Nat} (hB : BinC F) (b g cap : Nat) (ts : List Tok) (s : St) (w : World) (hw : PW b g cap ts s w) (t0 t1 : Nat) (t2 : Bytes) (t3 : Nat) (h1 : (tk ts s.i).text = [91]) (hne : elemF ts F t2 t1 s ≠ gone) :
    Calls Tryz.prog 168 #[.pointer (some ⟨b, 0, none⟩), .agg #[.int .u8 (t0 : Int), .int .i64 (t1 : Int), .string ⟨t2.toArray⟩, .int .i64 (t3 : Int)]] w (RPost b g cap ts w (exE w.heap.size) (elemF ts F t2 t1 s)) := by
  obtain ⟨W1, hW1⟩ : ∃ W1, W1 = w.alloc (.cells #[.int .u8 (t0 : Int), .int .i64 (t1 : Int), .string ⟨t2.toArray⟩, .int .i64 (t3 : Int)] 55) := ⟨_, rfl⟩
  have hb1 : Below w.heap.size w W1 := by rw [hW1]; exact (Below.refl _ _).alloc (Nat.le_refl _) _
  have hs1 : W1.heap.size = w.heap.size + 1 := by rw [hW1]; simp
  have ht1 : Blk w.heap.size #[.int .u8 (t0 : Int), .int .i64 (t1 : Int), .string ⟨t2.toArray⟩, .int .i64 (t3 : Int)] 55 W1 := by rw [hW1]; exact Blk.new _ _ _
  obtain ⟨W, hW⟩ : ∃ W, W = W1.alloc ex0 := ⟨_, rfl⟩
  have hbW : Below W1.heap.size W1 W := by rw [hW]; exact (Below.refl _ _).alloc (Nat.le_refl _) _
  have hz : Blk (w.heap.size + 1) zEx 36 W := by rw [hW]; exact Blk.new' _ _ _ hs1.symm
  have hsW : W.heap.size = w.heap.size + 2 := by rw [hW]; simp; omega
  have hbw : Below w.heap.size w W := hb1.trans (hbW.mono hb1.size)
  have htW := ht1.below hbW (by omega)
  have hpW := hw.below hbw
  have HPl := Lib.hid fun w1 (h1 : PW b g cap ts s w1) => place_C hB b g cap ts s w1 h1 (bindR_gone hne)
  have e1 : ((tk ts s.i).text == [91]) = true := by simpa using h1
  have HE := Lib.hid (And.intro e1 trivial)
  have HI := Lib.hid fun x w1 (h : PW b g cap ts s w1) => is_any b g cap ts s x w1 h
  have HH := Lib.hid (And.intro hbw (And.intro htW (And.intro hz (And.intro hpW hsW))))
  have HWW := Lib.hid (show W = (w.alloc (.cells #[.int .u8 (t0 : Int), .int .i64 (t1 : Int), .string ⟨t2.toArray⟩, .int .i64 (t3 : Int)] 55)).alloc ex0 by rw [hW, hW1])
  have HW := Lib.hid hw
  have hlt := hw.blk.lt
  have hgl := hw.toks.lt
  clear hw hW hW1 hb1 hbW hz ht1 hs1 hbw htW hpW hsW hne hB h1 e1
  go_enter Tryz.func168, Tryz.ntmps168
  go_upto_region 1 with (fail)
  rw [← HWW.out]
  clear HWW
  go_wp2_with fail
  refine (HI.out [91] W HH.out.2.2.2.1).mono ?_
  rintro e w2 ⟨rfl, hb2⟩
  have H2 := Lib.hid (And.intro (HH.out.1.trans (hb2.mono HH.out.1.size)) (And.intro (HH.out.2.1.below hb2 HH.out.2.1.lt) (And.intro (HH.out.2.2.1.below hb2 HH.out.2.2.1.lt) (HH.out.2.2.2.1.below hb2))))
  have hs2 : w.heap.size + 2 ≤ w2.heap.size := by have := hb2.size; have := HH.out.2.2.2.2; omega
  rw [HE.out.1]
  clear hb2 HH
  go_upto_region 2 with (fail)
  have c1 := H2.out.2.1.get 1 (.int .i64 (t1 : Int)) rfl
  have c2 := H2.out.2.1.get 2 (.string ⟨t2.toArray⟩) rfl
  have hS : (fun w' : World => w'.cell? ⟨w.heap.size, 1, none⟩ = some (.int .i64 (t1 : Int)) ∧ w'.cell? ⟨w.heap.size, 2, none⟩ = some (.string ⟨t2.toArray⟩)) w2.drew := ⟨c1, c2⟩
  refine wp_region_dep (S := fun w' => w'.cell? ⟨w.heap.size, 1, none⟩ = some (.int .i64 (t1 : Int)) ∧ w'.cell? ⟨w.heap.size, 2, none⟩ = some (.string ⟨t2.toArray⟩)) (dep := [7]) (by kernel_rfl) ?_
  change wpAnyD _ _ _ _ _ _ _ _ _ (World.drew _)
  refine wpAnyD_take (i := 0) (v := ?_) rfl (by kernel_rfl) (by kernel_rfl) (by kernel_rfl) (by kernel_rfl) (by kernel_rfl) (fun _ _ _ h => h) hS (Or.inl ⟨by rfl, ?_⟩) ?_
  rotate_left
  · intro w hSw; obtain ⟨hSw, hSw2⟩ := hSw; go_simp
    try with_reducible rfl
  try simp only [Act.put, List.setIfInBounds_toArray, List.set_cons_zero, List.set_cons_succ]
  refine wpAnyD_take (i := 1) (v := ?_) rfl (by kernel_rfl) (by kernel_rfl) (by kernel_rfl) (by kernel_rfl) (by kernel_rfl) (fun _ _ _ h => h) hS (Or.inl ⟨by rfl, ?_⟩) ?_
  rotate_left
  · intro w hSw; obtain ⟨hSw, hSw2⟩ := hSw; go_simp
    try with_reducible rfl
  try simp only [Act.put, List.setIfInBounds_toArray, List.set_cons_zero, List.set_cons_succ]
  refine wpAnyD_take (i := 2) (v := ?_) rfl (by kernel_rfl) (by kernel_rfl) (by kernel_rfl) (by kernel_rfl) (by kernel_rfl) (fun _ _ _ h => h) hS (Or.inl ⟨by rfl, ?_⟩) ?_
  rotate_left
  · intro w hSw; obtain ⟨hSw, hSw2⟩ := hSw; go_simp
    try with_reducible rfl
  try simp only [Act.put, List.setIfInBounds_toArray, List.set_cons_zero, List.set_cons_succ]
  refine wpAnyD_take (i := 3) (v := ?_) rfl (by kernel_rfl) (by kernel_rfl) (by kernel_rfl) (by kernel_rfl) (by kernel_rfl) (fun _ _ _ h => h) hS (Or.inl ⟨by rfl, ?_⟩) ?_
  rotate_left
  · intro w hSw; obtain ⟨hSw, hSw2⟩ := hSw; go_simp
    try with_reducible rfl
  try simp only [Act.put, List.setIfInBounds_toArray, List.set_cons_zero, List.set_cons_succ]
  refine wpAnyD_take (i := 4) (v := ?_) rfl (by kernel_rfl) (by kernel_rfl) (by kernel_rfl) (by kernel_rfl) (by kernel_rfl) (fun _ _ _ h => h) hS (Or.inl ⟨by rfl, ?_⟩) ?_
  rotate_left
  · intro w hSw; obtain ⟨hSw, hSw2⟩ := hSw; go_simp
    try with_reducible rfl
  try simp only [Act.put, List.setIfInBounds_toArray, List.set_cons_zero, List.set_cons_succ]
  have HC := Lib.hid (HPl.out w2.drew (H2.out.2.2.2.below (Below.refl _ _).drew))
  clear hS c1 c2
  refine wpAnyD_one (i := 5) rfl (by kernel_rfl) rfl (fun K hK => ?_)
  go_simp
  refine HC.out.mono ?_
  rintro e w4 h4
  rcases h4.elim with ⟨pn, hr, hg, rfl⟩ | ⟨x, s2, hr, hg, ⟨gr, rfl, hx⟩, hp⟩
  · exact ⟨rfl, RPost.err (by unfold elemF; rw [hr]; rfl) (gtrans (row := some b) (grown_of_below H2.out.1) (gtrans (grown_of_below (Below.refl _ _).drew) hg))⟩
  · have HR4 := Lib.hid (show elemF ts F t2 t1 s = .ok (.mk 4 0 t2 0 t1 [x], s2) by unfold elemF; rw [hr, bindR_ok])
    have hg2 : w2.grownBy w4 (some b) := ⟨hg.os, hg.tape, hg.output, hg.size, hg.block⟩
    have ht4 := H2.out.2.1.other hg2 (by simp; omega)
    have hz4 := H2.out.2.2.1.other hg2 (by simp; omega)
    have c1 := ht4.get 1 (.int .i64 (t1 : Int)) rfl
    have c2 := ht4.get 2 (.string ⟨t2.toArray⟩) rfl
    obtain ⟨z0, z1, z2, z3, z4, z5⟩ := hz4.get6
    obtain ⟨f0, f1, f2, f3, f4, f5⟩ := hz4.free6
    have hg4 := gtrans (row := some b) (grown_of_below H2.out.1) (gtrans (grown_of_below (Below.refl _ _).drew) hg)
    have hx4 : ExRow1 w4 (w.heap.size + 2) gr x := hx.stays hs2 fun j _ _ => rfl
    obtain ⟨U, hU⟩ : ∃ U, U = set6 w4 (w.heap.size + 1) (.int .u8 4) (.int .u8 0) (.string ⟨t2.toArray⟩) (.int .i64 0) (.int .i64 (t1 : Int)) (.slice (some ⟨gr, 0, none⟩) 1 1) := ⟨_, rfl⟩
    have hgU := grown_set6 w4 (w.heap.size + 1) (.int .u8 4) (.int .u8 0) (.string ⟨t2.toArray⟩) (.int .i64 0) (.int .i64 (t1 : Int)) (.slice (some ⟨gr, 0, none⟩) 1 1)
    have hbU := hz4.set6 (.int .u8 4) (.int .u8 0) (.string ⟨t2.toArray⟩) (.int .i64 0) (.int .i64 (t1 : Int)) (.slice (some ⟨gr, 0, none⟩) 1 1)
    rw [← hU] at hgU hbU
    have hxU := (hx4.stays (Nat.le_refl _) fun j hj hl => hgU.block j hl (by simp; omega)).row
    have FIN := Lib.hid (And.intro hbU (RPost.ok (V := exE w.heap.size) (e := .returned (.agg #[.int .u8 4, .int .u8 0, .string ⟨t2.toArray⟩, .int .i64 0, .int .i64 (t1 : Int), .slice (some ⟨gr, 0, none⟩) 1 1])) HR4.out (gnew hg4 (by omega) hgU)
      ⟨4, 0, t2, 0, t1, some ⟨gr, 0, none⟩, 1, 1, rfl, by
        simp only [ExC]
        refine ⟨_, rfl, ?_⟩
        rcases hxU with ⟨h, _⟩ | ⟨g', c', xs, hv, h1, h2, h3⟩
        · cases h
        · cases hv
          exact Or.inr ⟨gr, 1, xs, rfl, by omega, h2, ExsC.stays (stays_weaken fun h hh _ => by omega) _ _ h3⟩⟩ (hp.other hgU (by simp; omega) (by simp; omega))))
    have HUU := Lib.hid hU
    clear hr hg hg2 h4 hx hp HC ht4 hz4 hg4 hx4 hU hgU hbU hxU HI
    refine hK _ _ (Or.inr ⟨c1, c2⟩) ?_
    clear hK K
    try simp only [Act.put, List.setIfInBounds_toArray, List.set_cons_zero, List.set_cons_succ]
    refine wpAnyD_one (i := 6) rfl (by kernel_rfl) rfl (fun K hK => ?_)
    go_simp
    refine hK _ _ (Or.inr ⟨c1, c2⟩) ?_
    clear hK K
    try simp only [Act.put, List.setIfInBounds_toArray, List.set_cons_zero, List.set_cons_succ]
    refine wpAnyD_one (i := 7) rfl (by kernel_rfl) rfl (fun K hK => ?_)
    go_simp
    rw [← set6_eq, ← HUU.out]
    refine hK _ _ (Or.inl rfl) ?_
    clear hK K z0 z1 z2 z3 z4 z5 f0 f1 f2 f3 f4 f5 c1 c2
    try simp only [Act.put, List.setIfInBounds_toArray, List.set_cons_zero, List.set_cons_succ]
    refine wpAnyD_done (by kernel_rfl) ?_ _
    obtain ⟨y0, y1, y2, y3, y4, y5⟩ := FIN.out.1.get6
    go_wp2_with fail
    exact bodyPost_ret (v := .agg #[.int .u8 4, .int .u8 0, .string ⟨t2.toArray⟩, .int .i64 0, .int .i64 (t1 : Int), .slice (some ⟨gr, 0, none⟩) 1 1]) (by simp [results, Tryz.results168, go_sem, y0, y1, y2, y3, y4, y5]) rfl FIN.out.2

set_option maxRecDepth 100000 in
set_option maxHeartbeats 1000000 in
theorem use_call {F : Nat} (hB : BinC F) (b g cap : Nat) (ts : List Tok) (s : St) (w : World) (hw : PW b g cap ts s w) (t0 t1 : Nat) (t2 : Bytes) (t3 : Nat) (h1 : (tk ts s.i).text ≠ [91]) (h2 : (tk ts s.i).text = [40]) (hne : callF ts F ⟨t0, t1, t2, t3⟩ s ≠ gone) :
    Calls Tryz.prog 168 #[.pointer (some ⟨b, 0, none⟩), .agg #[.int .u8 (t0 : Int), .int .i64 (t1 : Int), .string ⟨t2.toArray⟩, .int .i64 (t3 : Int)]] w (RPost b g cap ts w (exE w.heap.size) (callF ts F ⟨t0, t1, t2, t3⟩ s)) := by
  obtain ⟨W1, hW1⟩ : ∃ W1, W1 = w.alloc (.cells #[.int .u8 (t0 : Int), .int .i64 (t1 : Int), .string ⟨t2.toArray⟩, .int .i64 (t3 : Int)] 55) := ⟨_, rfl⟩
  have hb1 : Below w.heap.size w W1 := by rw [hW1]; exact (Below.refl _ _).alloc (Nat.le_refl _) _
  have hs1 : W1.heap.size = w.heap.size + 1 := by rw [hW1]; simp
  have ht1 : Blk w.heap.size #[.int .u8 (t0 : Int), .int .i64 (t1 : Int), .string ⟨t2.toArray⟩, .int .i64 (t3 : Int)] 55 W1 := by rw [hW1]; exact Blk.new _ _ _
  obtain ⟨W, hW⟩ : ∃ W, W = W1.alloc ex0 := ⟨_, rfl⟩
  have hbW : Below W1.heap.size W1 W := by rw [hW]; exact (Below.refl _ _).alloc (Nat.le_refl _) _
  have hz : Blk (w.heap.size + 1) zEx 36 W := by rw [hW]; exact Blk.new' _ _ _ hs1.symm
  have hsW : W.heap.size = w.heap.size + 2 := by rw [hW]; simp; omega
  have hbw : Below w.heap.size w W := hb1.trans (hbW.mono hb1.size)
  have htW := ht1.below hbW (by omega)
  have hpW := hw.below hbw
  have HCl := Lib.hid fun w1 (h1 : PW b g cap ts s w1) => call_any hB b g cap ts ⟨t0, t1, t2, t3⟩ s w1 h1 hne
  have e1 : ((tk ts s.i).text == [91]) = false := by simpa using h1
  have e2 : ((tk ts s.i).text == [40]) = true := by simpa using h2
  have HE := Lib.hid (And.intro e1 e2)
  have HI := Lib.hid fun x w1 (h : PW b g cap ts s w1) => is_any b g cap ts s x w1 h
  have HH := Lib.hid (And.intro hbw (And.intro htW (And.intro hz (And.intro hpW hsW))))
  have HWW := Lib.hid (show W = (w.alloc (.cells #[.int .u8 (t0 : Int), .int .i64 (t1 : Int), .string ⟨t2.toArray⟩, .int .i64 (t3 : Int)] 55)).alloc ex0 by rw [hW, hW1])
  have HW := Lib.hid hw
  have hlt := hw.blk.lt
  have hgl := hw.toks.lt
  clear hw hW hW1 hb1 hbW hz ht1 hs1 hbw htW hpW hsW hne hB h1 h2 e1 e2
  go_enter Tryz.func168, Tryz.ntmps168
  go_upto_region 1 with (fail)
  rw [← HWW.out]
  clear HWW
  go_wp2_with fail
  refine (HI.out [91] W HH.out.2.2.2.1).mono ?_
  rintro e w2 ⟨rfl, hb2⟩
  have H2 := Lib.hid (And.intro (HH.out.1.trans (hb2.mono HH.out.1.size)) (And.intro (HH.out.2.1.below hb2 HH.out.2.1.lt) (And.intro (HH.out.2.2.1.below hb2 HH.out.2.2.1.lt) (HH.out.2.2.2.1.below hb2))))
  have hs2 : w.heap.size + 2 ≤ w2.heap.size := by have := hb2.size; have := HH.out.2.2.2.2; omega
  rw [HE.out.1]
  clear hb2 HH
  go_wp2_with fail
  refine (HI.out [40] w2 H2.out.2.2.2).mono ?_
  rintro e w3 ⟨rfl, hb3⟩
  have H3 := Lib.hid (And.intro (H2.out.1.trans (hb3.mono H2.out.1.size)) (And.intro (H2.out.2.1.below hb3 H2.out.2.1.lt) (And.intro (H2.out.2.2.1.below hb3 H2.out.2.2.1.lt) (H2.out.2.2.2.below hb3))))
  have hs3 : w.heap.size + 2 ≤ w3.heap.size := by have := hb3.size; omega
  rw [HE.out.2]
  clear hb3 H2 HI
  obtain ⟨c0, c1, c2, c3⟩ := H3.out.2.1.get4
  have HC := Lib.hid (HCl.out w3 H3.out.2.2.2)
  go_wp2_with fail
  refine HC.out.mono ?_
  rintro e w4 h4
  rcases h4.elim with ⟨pn, hr, hg, rfl⟩ | ⟨x, s2, hr, hg, ⟨k, op, nm, n, pos, a, m, c, rfl, hx⟩, hp⟩
  · have FIN := Lib.hid (RPost.err (α := Ex) (g := g) (cap := cap) (ts := ts) (V := exE w.heap.size) hr (gtrans (row := some b) (grown_of_below H3.out.1) hg))
    clear hr hg h4 c0 c1 c2 c3
    go_wp2
    exact ⟨rfl, FIN.out⟩
  · have hz4 := H3.out.2.2.1.other hg (by simp; omega)
    obtain ⟨z0, z1, z2, z3, z4, z5⟩ := hz4.get6
    obtain ⟨f0, f1, f2, f3, f4, f5⟩ := hz4.free6
    have hg4 := gtrans (row := some b) (grown_of_below H3.out.1) hg
    obtain ⟨U, hU⟩ : ∃ U, U = set6 w4 (w.heap.size + 1) (.int .u8 (k : Int)) (.int .u8 (op : Int)) (.string ⟨nm.toArray⟩) (.int .i64 (n : Int)) (.int .i64 (pos : Int)) (.slice a m c) := ⟨_, rfl⟩
    have hgU := grown_set6 w4 (w.heap.size + 1) (.int .u8 (k : Int)) (.int .u8 (op : Int)) (.string ⟨nm.toArray⟩) (.int .i64 (n : Int)) (.int .i64 (pos : Int)) (.slice a m c)
    have hbU := hz4.set6 (.int .u8 (k : Int)) (.int .u8 (op : Int)) (.string ⟨nm.toArray⟩) (.int .i64 (n : Int)) (.int .i64 (pos : Int)) (.slice a m c)
    rw [← hU] at hgU hbU
    have FIN := Lib.hid (And.intro hbU (RPost.ok (V := exE w.heap.size) hr (gnew hg4 (by omega) hgU) ⟨k, op, nm, n, pos, a, m, c, rfl, hx.stays (stays_of_grown hgU fun h hh => ⟨by omega, by omega⟩)⟩ (hp.other hgU (by simp; omega) (by simp; omega))))
    have HUU := Lib.hid hU
    clear hr hg h4 hx hp HC hz4 hg4 hU hgU hbU c0 c1 c2 c3
    go_wp2
    rw [← set6_eq, ← HUU.out]
    obtain ⟨y0, y1, y2, y3, y4, y5⟩ := FIN.out.1.get6
    clear z0 z1 z2 z3 z4 z5 f0 f1 f2 f3 f4 f5
    exact bodyPost_ret (v := .agg (exCells k op nm n pos a m c)) (by simp [results, Tryz.results168, go_sem, y0, y1, y2, y3, y4, y5]) rfl FIN.out.2

theorem use_step {F : Nat} (hB : BinC F) : UseC (F + 1) := by
  intro b g cap ts s w hw t0 t1 t2 t3 hne
  have e : useF ts (F + 1) ⟨t0, t1, t2, t3⟩ s = if (tk ts s.i).text = [91] then bindR (placeB ts (binF ts F 1) s) fun x s' => .ok (.mk 4 0 t2 0 t1 [x], s')
    else if (tk ts s.i).text = [40] then bindR (listB ts (binF ts F 1) F s) fun l s' => .ok (.mk 5 0 t2 0 t1 l, s')
    else .ok (.mk 3 0 t2 0 t1 [], s) := by rw [useF]
  rw [e] at hne ⊢
  by_cases h1 : (tk ts s.i).text = [91]
  · rw [if_pos h1] at hne ⊢
    exact use_elem hB b g cap ts s w hw t0 t1 t2 t3 h1 hne
  rw [if_neg h1] at hne ⊢
  by_cases h2 : (tk ts s.i).text = [40]
  · rw [if_pos h2] at hne ⊢
    exact use_call hB b g cap ts s w hw t0 t1 t2 t3 h1 h2 hne
  rw [if_neg h2]
  exact use_var b g cap ts s w hw t0 t1 t2 t3 h1 h2
end Go.Proofs.YtcgllooeimacdaaGreatDoor
