/-
  The program's copy of code.
-/
import Derived.Test.YtiimcckajjpbjaaCdZ
import Derived.Test.YtiimcckajjpbjaaCdO
namespace Go.Proofs.Ytiimcckajjpbjaa
open Go Go.RowKit Cd

/-- Code of which everything is few. -/
def SmallK (c : CodeP) : Prop := (c.funs.length ≤ 1000000 ∧ ∀ i (h : i < c.funs.length), SmallB c.funs[i].blocks) ∧ (c.stops.length ≤ 1000000 ∧ ∀ i (h : i < c.stops.length), c.stops[i].length ≤ 1000000)
def CoCdT (w : World) (x : CodeP) (W : World) (e : Ending) : Prop := ∃ (a1 a2 : Option Addr) (n1 n2 c1 c2 : Nat), e = .returned (.agg #[.slice a1 n1 c1, .slice a2 n2 c2, I x.main]) ∧ CodeS (GeW w.heap.size W) W (.agg #[.slice a1 n1 c1, .slice a2 n2 c2, I x.main]) x ∧ Below w.heap.size w W

set_option maxRecDepth 100000 in
set_option maxHeartbeats 3200000 in
theorem copy_any (x : CodeP) (hs : SmallK x) (aa da : Option Addr) (A ac D dc : Nat) (w : World) (ha : FunsZ w (.slice aa A ac) x.funs) (hd : StopsZ w (.slice da D dc) x.stops) :
    Calls Try.prog 16 #[.agg #[.slice aa A ac, .slice da D dc, I x.main]] w fun e w' => CoCdT w x w' e := by
  obtain ⟨bx, hbx⟩ : ∃ g, g = w.heap.size := ⟨_, rfl⟩
  obtain ⟨br, hbr⟩ : ∃ g, g = w.heap.size + 1 := ⟨_, rfl⟩
  obtain ⟨W1, hW1⟩ : ∃ W, W = (w.alloc (.cells #[.slice aa A ac, .slice da D dc, I x.main] 25)).alloc (.cells #[.slice none 0 0, .slice none 0 0, I 0] 25) := ⟨_, rfl⟩
  have hB1 : Below w.heap.size w W1 := by rw [hW1]; exact ((Below.refl _ _).alloc (Nat.le_refl _) _).alloc (by simp) _
  have kx : Blk bx #[.slice aa A ac, .slice da D dc, I x.main] 25 W1 := by rw [hW1, hbx]; exact (Blk.new _ _ _).alloc _
  have kr : Blk br #[.slice none 0 0, .slice none 0 0, I 0] 25 W1 := by rw [hW1, hbr]; exact Blk.new' _ _ _ (by simp)
  have hz1 : W1.heap.size = br + 1 := by rw [hW1, hbr]; simp
  have HC1 := Lib.hid (eachFu_any (.slice aa A ac) x.funs hs.1 W1 (ha.below funV_stays hB1))
  have H1 := Lib.hid (And.intro hB1 (And.intro kx (And.intro kr (And.intro hz1 (And.intro hbx (And.intro hbr (And.intro hd hs.2)))))))
  have HW1 := Lib.hid hW1
  have x2 := kx.get 0 (.slice aa A ac) rfl
  clear hbx hbr hW1 hB1 kx kr hz1 ha hd hs
  go_enter Try.func16, Try.ntmps16
  go_upto_region 1 with (fail)
  rw [← H1.out.2.2.2.2.2.1, ← H1.out.2.2.2.2.1]
  change Code.wp _ _ _ _ ((w.alloc (.cells #[.slice aa A ac, .slice da D dc, I x.main] 25)).alloc (.cells #[.slice none 0 0, .slice none 0 0, I 0] 25))
  rw [← HW1.out]
  go_wp2_with fail
  refine HC1.out.mono ?_
  rintro e w2 ⟨u1, rfl, ho1, hb2⟩
  obtain ⟨a1, c1, rfl⟩ := ho1.row
  obtain ⟨n1, hn1⟩ : ∃ n, n = x.funs.length := ⟨_, rfl⟩
  rw [← hn1] at ho1 ⊢
  have kx2 := H1.out.2.1.below hb2 H1.out.2.1.lt
  have kr2 := H1.out.2.2.1.below hb2 H1.out.2.2.1.lt
  have hB2 := below_tr H1.out.1 hb2
  have hlo : w.heap.size ≤ bx := by have := H1.out.2.2.2.2.1; omega
  obtain ⟨W3, hW3⟩ : ∃ W, W = w2.setCell ⟨bx, 0, none⟩ (.slice a1 n1 c1) := ⟨_, rfl⟩
  have kx3 : Blk bx #[.slice a1 n1 c1, .slice da D dc, I x.main] 25 W3 := by rw [hW3]; exact kx2.set 0 (.slice a1 n1 c1)
  have hbr1 : br ≠ bx := by have h1 := H1.out.2.2.2.2.1; have h2 := H1.out.2.2.2.2.2.1; omega
  have kr3 : Blk br #[.slice none 0 0, .slice none 0 0, I 0] 25 W3 := by rw [hW3]; exact kr2.setOther hbr1 _ _
  have hB3 : Below w.heap.size w W3 := by rw [hW3]; exact hB2.setCell (p := ⟨bx, 0, none⟩) hlo _
  have hz3 : W3.heap.size = w2.heap.size := by rw [hW3]; simp [World.setCell]
  have hz1 := H1.out.2.2.2.1
  have hbxs := H1.out.2.2.2.2.1
  have hbrs := H1.out.2.2.2.2.2.1
  have hz2 := hb2.size
  have hs3 : SlS (GeW W1.heap.size W3) 4 FunV W3 (.slice a1 n1 c1) x.funs := (ho1.sl funV_stays).keepF funV_stays (fun n hn => by rw [hW3]; exact Below.heap_setCell _ _ _ _ (show n ≠ bx by have := hn.1; omega)) (fun n hn => ⟨hn.1, by rw [hz3]; exact hn.2⟩)
  have HC2 := Lib.hid (eachSl_any (.slice da D dc) x.stops H1.out.2.2.2.2.2.2.2 W3 (H1.out.2.2.2.2.2.2.1.below stopV_stays hB3))
  have y2 := kx2.get 0 (.slice aa A ac) rfl
  have f2 := kx2.free 0
  have H3 := Lib.hid (And.intro kx3 (And.intro kr3 (And.intro hB3 (And.intro hs3 (And.intro hbr1 hlo)))))
  have HW3 := Lib.hid hW3
  have HZ3 := Lib.hid (show W1.heap.size ≤ W3.heap.size by omega)
  clear ho1 hn1 hb2 kx2 kr2 hB2 hlo hW3 kx3 hbr1 kr3 hB3 hz3 hz1 hbxs hbrs hz2 hs3 HC1 x2
  go_upto_region 2 with (fail)
  change Code.wp _ _ _ _ (w2.setCell ⟨bx, 0, none⟩ (.slice a1 n1 c1))
  rw [← HW3.out]
  clear y2 f2
  have x5 := H3.out.1.get 1 (.slice da D dc) rfl
  go_wp2_with fail
  refine HC2.out.mono ?_
  rintro e w4 ⟨u2, rfl, ho2, hb4⟩
  obtain ⟨a2, c2, rfl⟩ := ho2.row
  obtain ⟨n2, hn2⟩ : ∃ n, n = x.stops.length := ⟨_, rfl⟩
  rw [← hn2] at ho2 ⊢
  have kx4 := H3.out.1.below hb4 H3.out.1.lt
  have kr4 := H3.out.2.1.below hb4 H3.out.2.1.lt
  have hB4 := below_tr H3.out.2.2.1 hb4
  have hlo := H3.out.2.2.2.2.2
  have hbr1 := H3.out.2.2.2.2.1
  obtain ⟨W5, hW5⟩ : ∃ W, W = w4.setCell ⟨bx, 1, none⟩ (.slice a2 n2 c2) := ⟨_, rfl⟩
  have kx5 : Blk bx #[.slice a1 n1 c1, .slice a2 n2 c2, I x.main] 25 W5 := by rw [hW5]; exact kx4.set 1 (.slice a2 n2 c2)
  have kr5 : Blk br #[.slice none 0 0, .slice none 0 0, I 0] 25 W5 := by rw [hW5]; exact kr4.setOther hbr1 _ _
  have hB5 : Below w.heap.size w W5 := by rw [hW5]; exact hB4.setCell (p := ⟨bx, 1, none⟩) hlo _
  have hz5 : W5.heap.size = w4.heap.size := by rw [hW5]; simp [World.setCell]
  have hz1 := H1.out.2.2.2.1
  have hbxs := H1.out.2.2.2.2.1
  have hbrs := H1.out.2.2.2.2.2.1
  have hz4 := hb4.size
  have hz3 := HZ3.out
  obtain ⟨W6, hW6⟩ : ∃ W, W = setsW W5 br 0 [.slice a1 n1 c1, .slice a2 n2 c2, I x.main] := ⟨_, rfl⟩
  have kr6 : Blk br #[.slice a1 n1 c1, .slice a2 n2 c2, I x.main] 25 W6 := by rw [hW6]; exact kr5.sets [.slice a1 n1 c1, .slice a2 n2 c2, I x.main] 0
  have hB6 : Below w.heap.size w W6 := by rw [hW6]; exact setsW_below (by omega) _ _ _ hB5
  have hz6 : W6.heap.size = w4.heap.size := by rw [hW6, setsW_size]; exact hz5
  have he6 : ∀ n, n ≠ bx → n ≠ br → W6.heap[n]? = w4.heap[n]? := fun n h1 h2 => by rw [hW6, setsW_other _ _ _ _ h2, hW5]; exact Below.heap_setCell _ _ _ _ h1
  have hs6 : SlS (GeW w.heap.size W6) 4 FunV W6 (.slice a1 n1 c1) x.funs := H3.out.2.2.2.1.keepF funV_stays (fun n hn => by
    have h1 := hn.1
    rw [he6 n (by omega) (by omega)]
    exact hb4.block n hn.2) (fun n hn => ⟨by have := hn.1; omega, by have := hn.2; omega⟩)
  have hd6 : SlS (GeW w.heap.size W6) 1 StopV W6 (.slice a2 n2 c2) x.stops := (ho2.sl stopV_stays).keepF stopV_stays (fun n hn => by
    have h1 := hn.1
    exact he6 n (by omega) (by omega)) (fun n hn => ⟨by have := hn.1; omega, by have := hn.2; omega⟩)
  have FIN := Lib.hid (show CoCdT w x W6 (.returned (.agg #[.slice a1 n1 c1, .slice a2 n2 c2, I x.main])) from ⟨a1, a2, n1, n2, c1, c2, rfl, ⟨_, _, rfl, hs6, hd6⟩, hB6⟩)
  have y5 := kx4.get 1 (.slice da D dc) rfl
  have f5 := kx4.free 1
  have HW5 := Lib.hid hW5
  have HW6 := Lib.hid hW6
  have H5 := Lib.hid (And.intro kx5 (And.intro kr5 kr6))
  clear ho2 hn2 hb4 kx4 kr4 hB4 hlo hbr1 hW5 kx5 kr5 hB5 hz5 hz1 hbxs hbrs hz4 hz3 hW6 kr6 hB6 hz6 he6 hs6 hd6 HC2 x5
  go_upto_region 3 with (fail)
  change Code.wp _ _ _ _ (w4.setCell ⟨bx, 1, none⟩ (.slice a2 n2 c2))
  rw [← HW5.out]
  clear y5 f5
  have z0 := H5.out.1.get 0 (.slice a1 n1 c1) rfl
  have z1 := H5.out.1.get 1 (.slice a2 n2 c2) rfl
  have z2 := H5.out.1.get 2 (I x.main) rfl
  have v0 := H5.out.2.1.get 0 (.slice none 0 0) rfl
  have v1 := H5.out.2.1.get 1 (.slice none 0 0) rfl
  have v2 := H5.out.2.1.get 2 (I 0) rfl
  have g0 := H5.out.2.1.free 0
  have g1 := H5.out.2.1.free 1
  have g2 := H5.out.2.1.free 2
  go_wp2_with fail
  change bodyPost _ _ _ _ _ (setsW W5 br 0 [.slice a1 n1 c1, .slice a2 n2 c2, I x.main])
  rw [← HW6.out]
  have r0 := H5.out.2.2.get 0 (.slice a1 n1 c1) rfl
  have r1 := H5.out.2.2.get 1 (.slice a2 n2 c2) rfl
  have r2 := H5.out.2.2.get 2 (I x.main) rfl
  exact bodyPost_ret (v := .agg #[.slice a1 n1 c1, .slice a2 n2 c2, I x.main]) (by simp [results, Try.results16, go_sem, r0, r1, r2]) rfl FIN.out
end Go.Proofs.Ytiimcckajjpbjaa
