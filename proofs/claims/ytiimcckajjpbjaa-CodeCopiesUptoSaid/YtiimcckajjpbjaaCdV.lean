/-
  The program's copy of blocks.
-/
import Derived.Test.YtiimcckajjpbjaaCdU
namespace Go.Proofs.Ytiimcckajjpbjaa
open Go Go.RowKit Cd

/-- Instructions, few, with few Args and few that is known. -/
def SmallJ (l : List InstP) : Prop := l.length ≤ 1000000 ∧ ∀ i (h : i < l.length), l[i].args.length ≤ 1000000 ∧ l[i].dbg.length ≤ 1000000
def CoBlT (w : World) (x : BlockP) (W : World) (e : Ending) : Prop := ∃ (a1 a2 : Option Addr) (n1 n2 c1 c2 : Nat), e = .returned (.agg #[.slice a1 n1 c1, .slice a2 n2 c2, U8 x.fin, I x.arg, I x.to, I x.els]) ∧ BlockV (GeW w.heap.size W) W [.slice a1 n1 c1, .slice a2 n2 c2, U8 x.fin, I x.arg, I x.to, I x.els] x ∧ Below w.heap.size w W

set_option maxRecDepth 100000 in
set_option maxHeartbeats 3200000 in
theorem copyBl_one (x : BlockP) (hs : SmallJ x.phis ∧ SmallJ x.insts) (aa da : Option Addr) (A ac D dc : Nat) (w : World) (ha : InstsZ w (.slice aa A ac) x.phis) (hd : InstsZ w (.slice da D dc) x.insts) :
    Calls Try.prog 49 #[.agg #[.slice aa A ac, .slice da D dc, U8 x.fin, I x.arg, I x.to, I x.els]] w fun e w' => CoBlT w x w' e := by
  obtain ⟨bx, hbx⟩ : ∃ g, g = w.heap.size := ⟨_, rfl⟩
  obtain ⟨br, hbr⟩ : ∃ g, g = w.heap.size + 1 := ⟨_, rfl⟩
  obtain ⟨W1, hW1⟩ : ∃ W, W = (w.alloc (.cells #[.slice aa A ac, .slice da D dc, U8 x.fin, I x.arg, I x.to, I x.els] 45)).alloc (.cells #[.slice none 0 0, .slice none 0 0, U8 0, I 0, I 0, I 0] 45) := ⟨_, rfl⟩
  have hB1 : Below w.heap.size w W1 := by rw [hW1]; exact ((Below.refl _ _).alloc (Nat.le_refl _) _).alloc (by simp) _
  have kx : Blk bx #[.slice aa A ac, .slice da D dc, U8 x.fin, I x.arg, I x.to, I x.els] 45 W1 := by rw [hW1, hbx]; exact (Blk.new _ _ _).alloc _
  have kr : Blk br #[.slice none 0 0, .slice none 0 0, U8 0, I 0, I 0, I 0] 45 W1 := by rw [hW1, hbr]; exact Blk.new' _ _ _ (by simp)
  have hz1 : W1.heap.size = br + 1 := by rw [hW1, hbr]; simp
  have HC1 := Lib.hid (eachIn_any (.slice aa A ac) x.phis hs.1 W1 (ha.below instV_stays hB1))
  have H1 := Lib.hid (And.intro hB1 (And.intro kx (And.intro kr (And.intro hz1 (And.intro hbx (And.intro hbr (And.intro hd hs.2)))))))
  have HW1 := Lib.hid hW1
  have x2 := kx.get 0 (.slice aa A ac) rfl
  clear hbx hbr hW1 hB1 kx kr hz1 ha hd hs
  go_enter Try.func49, Try.ntmps49
  go_upto_region 1 with (fail)
  rw [← H1.out.2.2.2.2.2.1, ← H1.out.2.2.2.2.1]
  change Code.wp _ _ _ _ ((w.alloc (.cells #[.slice aa A ac, .slice da D dc, U8 x.fin, I x.arg, I x.to, I x.els] 45)).alloc (.cells #[.slice none 0 0, .slice none 0 0, U8 0, I 0, I 0, I 0] 45))
  rw [← HW1.out]
  go_wp2_with fail
  refine HC1.out.mono ?_
  rintro e w2 ⟨u1, rfl, ho1, hb2⟩
  obtain ⟨a1, c1, rfl⟩ := ho1.row
  obtain ⟨n1, hn1⟩ : ∃ n, n = x.phis.length := ⟨_, rfl⟩
  rw [← hn1] at ho1 ⊢
  have kx2 := H1.out.2.1.below hb2 H1.out.2.1.lt
  have kr2 := H1.out.2.2.1.below hb2 H1.out.2.2.1.lt
  have hB2 := below_tr H1.out.1 hb2
  have hlo : w.heap.size ≤ bx := by have := H1.out.2.2.2.2.1; omega
  obtain ⟨W3, hW3⟩ : ∃ W, W = w2.setCell ⟨bx, 0, none⟩ (.slice a1 n1 c1) := ⟨_, rfl⟩
  have kx3 : Blk bx #[.slice a1 n1 c1, .slice da D dc, U8 x.fin, I x.arg, I x.to, I x.els] 45 W3 := by rw [hW3]; exact kx2.set 0 (.slice a1 n1 c1)
  have hbr1 : br ≠ bx := by have h1 := H1.out.2.2.2.2.1; have h2 := H1.out.2.2.2.2.2.1; omega
  have kr3 : Blk br #[.slice none 0 0, .slice none 0 0, U8 0, I 0, I 0, I 0] 45 W3 := by rw [hW3]; exact kr2.setOther hbr1 _ _
  have hB3 : Below w.heap.size w W3 := by rw [hW3]; exact hB2.setCell (p := ⟨bx, 0, none⟩) hlo _
  have hz3 : W3.heap.size = w2.heap.size := by rw [hW3]; simp [World.setCell]
  have hz1 := H1.out.2.2.2.1
  have hbxs := H1.out.2.2.2.2.1
  have hbrs := H1.out.2.2.2.2.2.1
  have hz2 := hb2.size
  have hs3 : SlS (GeW W1.heap.size W3) 6 InstV W3 (.slice a1 n1 c1) x.phis := (ho1.sl instV_stays).keepF instV_stays (fun n hn => by rw [hW3]; exact Below.heap_setCell _ _ _ _ (show n ≠ bx by have := hn.1; omega)) (fun n hn => ⟨hn.1, by rw [hz3]; exact hn.2⟩)
  have HC2 := Lib.hid (eachIn_any (.slice da D dc) x.insts H1.out.2.2.2.2.2.2.2 W3 (H1.out.2.2.2.2.2.2.1.below instV_stays hB3))
  have y2 := kx2.get 0 (.slice aa A ac) rfl
  have f2 := kx2.free 0
  have H3 := Lib.hid (And.intro kx3 (And.intro kr3 (And.intro hB3 (And.intro hs3 (And.intro hbr1 hlo)))))
  have HW3 := Lib.hid hW3
  have HZ3 := Lib.hid (show W1.heap.size ≤ W3.heap.size by omega)
  clear ho1 hn1 hb2 kx2 kr2 hB2 hlo hW3 kx3 hbr1 kr3 hB3 hz3 hz1 hbxs hbrs hz2 hs3 HC1 x2
  go_upto_region 2 with (fail)
  change Code.wp _ _ _ _ (w2.setCell ⟨bx, 0, none⟩ (.slice a1 n1 c1))
  rw [← HW3.out]
  clear y2 f2
  have x5 := H3.out.1.get 1 (.slice da D dc) rfl
  go_wp2_with fail
  refine HC2.out.mono ?_
  rintro e w4 ⟨u2, rfl, ho2, hb4⟩
  obtain ⟨a2, c2, rfl⟩ := ho2.row
  obtain ⟨n2, hn2⟩ : ∃ n, n = x.insts.length := ⟨_, rfl⟩
  rw [← hn2] at ho2 ⊢
  have kx4 := H3.out.1.below hb4 H3.out.1.lt
  have kr4 := H3.out.2.1.below hb4 H3.out.2.1.lt
  have hB4 := below_tr H3.out.2.2.1 hb4
  have hlo := H3.out.2.2.2.2.2
  have hbr1 := H3.out.2.2.2.2.1
  obtain ⟨W5, hW5⟩ : ∃ W, W = w4.setCell ⟨bx, 1, none⟩ (.slice a2 n2 c2) := ⟨_, rfl⟩
  have kx5 : Blk bx #[.slice a1 n1 c1, .slice a2 n2 c2, U8 x.fin, I x.arg, I x.to, I x.els] 45 W5 := by rw [hW5]; exact kx4.set 1 (.slice a2 n2 c2)
  have kr5 : Blk br #[.slice none 0 0, .slice none 0 0, U8 0, I 0, I 0, I 0] 45 W5 := by rw [hW5]; exact kr4.setOther hbr1 _ _
  have hB5 : Below w.heap.size w W5 := by rw [hW5]; exact hB4.setCell (p := ⟨bx, 1, none⟩) hlo _
  have hz5 : W5.heap.size = w4.heap.size := by rw [hW5]; simp [World.setCell]
  have hz1 := H1.out.2.2.2.1
  have hbxs := H1.out.2.2.2.2.1
  have hbrs := H1.out.2.2.2.2.2.1
  have hz4 := hb4.size
  have hz3 := HZ3.out
  obtain ⟨W6, hW6⟩ : ∃ W, W = setsW W5 br 0 [.slice a1 n1 c1, .slice a2 n2 c2, U8 x.fin, I x.arg, I x.to, I x.els] := ⟨_, rfl⟩
  have kr6 : Blk br #[.slice a1 n1 c1, .slice a2 n2 c2, U8 x.fin, I x.arg, I x.to, I x.els] 45 W6 := by rw [hW6]; exact kr5.sets [.slice a1 n1 c1, .slice a2 n2 c2, U8 x.fin, I x.arg, I x.to, I x.els] 0
  have hB6 : Below w.heap.size w W6 := by rw [hW6]; exact setsW_below (by omega) _ _ _ hB5
  have hz6 : W6.heap.size = w4.heap.size := by rw [hW6, setsW_size]; exact hz5
  have he6 : ∀ n, n ≠ bx → n ≠ br → W6.heap[n]? = w4.heap[n]? := fun n h1 h2 => by rw [hW6, setsW_other _ _ _ _ h2, hW5]; exact Below.heap_setCell _ _ _ _ h1
  have hs6 : SlS (GeW w.heap.size W6) 6 InstV W6 (.slice a1 n1 c1) x.phis := H3.out.2.2.2.1.keepF instV_stays (fun n hn => by
    have h1 := hn.1
    rw [he6 n (by omega) (by omega)]
    exact hb4.block n hn.2) (fun n hn => ⟨by have := hn.1; omega, by have := hn.2; omega⟩)
  have hd6 : SlS (GeW w.heap.size W6) 6 InstV W6 (.slice a2 n2 c2) x.insts := (ho2.sl instV_stays).keepF instV_stays (fun n hn => by
    have h1 := hn.1
    exact he6 n (by omega) (by omega)) (fun n hn => ⟨by have := hn.1; omega, by have := hn.2; omega⟩)
  have FIN := Lib.hid (show CoBlT w x W6 (.returned (.agg #[.slice a1 n1 c1, .slice a2 n2 c2, U8 x.fin, I x.arg, I x.to, I x.els])) from ⟨a1, a2, n1, n2, c1, c2, rfl, ⟨_, _, rfl, hs6, hd6⟩, hB6⟩)
  have y5 := kx4.get 1 (.slice da D dc) rfl
  have f5 := kx4.free 1
  have HW5 := Lib.hid hW5
  have HW6 := Lib.hid hW6
  have H5 := Lib.hid (And.intro kx5 (And.intro kr5 kr6))
  clear ho2 hn2 hb4 kx4 kr4 hB4 hlo hbr1 hW5 kx5 kr5 hB5 hz5 hz1 hbxs hbrs hz4 hz3 hW6 kr6 hB6 hz6 he6 hs6 hd6 HC2 x5
  go_upto_region 3 with (fail)
  change Code.wp _ _ _ _ (w4.setCell ⟨bx, 1, none⟩ (.slice a2 n2 c2))
  rw [← HW5.out]
  clear y5 f5
  have z0 := H5.out.1.get 0 (.slice a1 n1 c1) rfl
  have z1 := H5.out.1.get 1 (.slice a2 n2 c2) rfl
  have z2 := H5.out.1.get 2 (U8 x.fin) rfl
  have z3 := H5.out.1.get 3 (I x.arg) rfl
  have z4 := H5.out.1.get 4 (I x.to) rfl
  have z5 := H5.out.1.get 5 (I x.els) rfl
  have v0 := H5.out.2.1.get 0 (.slice none 0 0) rfl
  have v1 := H5.out.2.1.get 1 (.slice none 0 0) rfl
  have v2 := H5.out.2.1.get 2 (U8 0) rfl
  have v3 := H5.out.2.1.get 3 (I 0) rfl
  have v4 := H5.out.2.1.get 4 (I 0) rfl
  have v5 := H5.out.2.1.get 5 (I 0) rfl
  have g0 := H5.out.2.1.free 0
  have g1 := H5.out.2.1.free 1
  have g2 := H5.out.2.1.free 2
  have g3 := H5.out.2.1.free 3
  have g4 := H5.out.2.1.free 4
  have g5 := H5.out.2.1.free 5
  go_wp2_with fail
  change bodyPost _ _ _ _ _ (setsW W5 br 0 [.slice a1 n1 c1, .slice a2 n2 c2, U8 x.fin, I x.arg, I x.to, I x.els])
  rw [← HW6.out]
  have r0 := H5.out.2.2.get 0 (.slice a1 n1 c1) rfl
  have r1 := H5.out.2.2.get 1 (.slice a2 n2 c2) rfl
  have r2 := H5.out.2.2.get 2 (U8 x.fin) rfl
  have r3 := H5.out.2.2.get 3 (I x.arg) rfl
  have r4 := H5.out.2.2.get 4 (I x.to) rfl
  have r5 := H5.out.2.2.get 5 (I x.els) rfl
  exact bodyPost_ret (v := .agg #[.slice a1 n1 c1, .slice a2 n2 c2, U8 x.fin, I x.arg, I x.to, I x.els]) (by simp [results, Try.results49, go_sem, r0, r1, r2, r3, r4, r5]) rfl FIN.out
theorem mkBls (n : Nat) (hn : n ≤ 1000000) (u : World) : (Instr.makeSlice 33 (I (n : Int)) (I (n : Int))).run Try.prog u = .ok (.slice (some ⟨u.heap.size, 0, none⟩) n n) (u.alloc (.cells (madeCells #[.slice none 0 0, .slice none 0 0, U8 0, I 0, I 0, I 0] (n * 6)) 45)) := by
  obtain ⟨i0, hi, hz0, hz1, hz2⟩ := info_parts infoBl
  have h := run_makeSlice (P := Try.prog) (w := u) 33 45 i0 _ Try.underlying33 hi hz0 .i64 .i64 (n : Int) (n : Int) (by omega) (Int.le_refl _) (by rw [hz1]; simp; omega) (by rw [hz2]; simp; omega) (by omega)
  rw [hz1, show (Value.agg #[.slice none 0 0, .slice none 0 0, U8 0, I 0, I 0, I 0]).cells = #[.slice none 0 0, .slice none 0 0, U8 0, I 0, I 0, I 0] from rfl] at h
  simpa using h
set_option maxRecDepth 100000 in
set_option maxHeartbeats 3200000 in
theorem eachBl_any (v : Value) (l : List BlockP) (hs : l.length ≤ 1000000 ∧ ∀ i (h : i < l.length), SmallJ l[i].phis ∧ SmallJ l[i].insts) (w : World) (h : BlocksZ w v l) :
    Calls Try.prog 48 #[v, .func (.func 49) #[] #[]] w fun e w' => CopyT w 45 6 BlockV l w' e := by
  obtain ⟨a, c, rfl⟩ := h.size
  obtain ⟨n, hn⟩ : ∃ n, n = l.length := ⟨_, rfl⟩
  rw [← hn] at h ⊢
  have hnb : n ≤ 1000000 := by have := hs.1; omega
  have hmk := mkBls n hnb
  have HH := Lib.hid (And.intro h (And.intro hn hnb))
  have HSM := Lib.hid hs.2
  clear h hn hs
  cases a with
  | none =>
    have hl0 : l = [] := by
      cases l with
      | nil => rfl
      | cons y l' => obtain ⟨b, vs, e1, _⟩ := HH.out.1.at 0 (by simp); cases e1
    obtain rfl : n = 0 := by rw [HH.out.2.1, hl0]; rfl
    have FIN := Lib.hid (show CopyT w 45 6 BlockV l w (.returned (.slice none 0 0)) from ⟨_, rfl, by rw [hl0]; exact OwnS.start, Below.refl _ _⟩)
    clear hl0 hmk
    have hnil : ∀ (n c : Nat) (w : World), (binOp .eql 33 (.slice none n c) (.slice none 0 0)).run Try.prog w = .ok (.bool true) w := fun n c w => Lib.run_eql_slice_nil w _ _ none n c 0 0 Try.underlying33
    go_enter Try.func48, Try.ntmps48
    go_wp2_with fail
    go_ret
    exact FIN.out
  | some b =>
    have hnil : ∀ (n c : Nat) (w : World), (binOp .eql 33 (.slice (some b) n c) (.slice none 0 0)).run Try.prog w = .ok (.bool false) w := fun n c w => Lib.run_eql_slice_nil w _ _ (some b) n c 0 0 Try.underlying33
    go_enter Try.func48, Try.ntmps48
    obtain ⟨Z, hZ⟩ : ∃ Z, Z = madeCells #[.slice none 0 0, .slice none 0 0, U8 0, I 0, I 0, I 0] (n * 6) := ⟨_, rfl⟩
    rw [← hZ] at hmk
    obtain ⟨W1, hW1⟩ : ∃ W, W = w.alloc (.cells Z 45) := ⟨_, rfl⟩
    obtain ⟨g, hg⟩ : ∃ g, g = w.heap.size := ⟨_, rfl⟩
    have HST := Lib.hid (show EaR w g 45 6 n BlockV l (I 0) W1 from ⟨0, Nat.zero_le _, rfl, fill_start (cur := Z) (by rw [hg, hW1]; exact Blk.new _ _ _) (by rw [hZ]; simp [size_madeCells]) (by omega), by rw [hW1]; exact (Below.refl _ _).alloc (Nat.le_refl _) _⟩)
    have HW1 := Lib.hid (And.intro hW1 hg)
    clear hW1 hg hZ
    go_upto_region 4 with (fail)
    rw [← HW1.out.2]
    change Code.wp _ _ _ _ (w.alloc (.cells Z 45))
    rw [← HW1.out.1]
    go_wp2_with fail
    go_loopw [15] (fun iv W => EaR w g 45 6 n BlockV l iv W) (fun iv _ => n - (intOf iv).toNat)
    case atStart => exact HST.out
    case round =>
      obtain ⟨i, hi, rfl, hf, hb⟩ := hrel
      by_cases hin : i < n
      · have il : i < l.length := by have := HH.out.2.1; omega
        obtain ⟨g1, _, e1, gl, c0, av, dv, rfl, haz, hdz⟩ := (HH.out.1.below blockV_stays hb).at i il
        cases e1
        obtain ⟨aa, ac, rfl⟩ := haz.size
        obtain ⟨da, dc, rfl⟩ := hdz.size
        obtain ⟨x, hx⟩ : ∃ x, x = l[i] := ⟨_, rfl⟩
        have hsm := HSM.out i il
        rw [← hx] at c0 haz hdz hsm
        obtain ⟨A, hA⟩ : ∃ A, A = x.phis.length := ⟨_, rfl⟩
        obtain ⟨D, hD⟩ : ∃ D, D = x.insts.length := ⟨_, rfl⟩
        rw [← hA, ← hD] at c0
        rw [← hA] at haz
        rw [← hD] at hdz
        have x0 := c0.f0
        have x1 := c0.f1
        have x2 := c0.f2
        have x3 := c0.f3
        have x4 := c0.f4
        have x5 := c0.f5
        have hgw : g < wr.heap.size := by obtain ⟨_, _, h1, _⟩ := hf; exact h1.lt
        have hgb : w.heap.size ≤ g := by obtain ⟨_, _, _, _, h3, _⟩ := hf; exact h3
        obtain ⟨Wb, hWb⟩ : ∃ W, W = wr.alloc (.cells #[.slice aa A ac, .slice da D dc, U8 x.fin, I x.arg, I x.to, I x.els] 45) := ⟨_, rfl⟩
        have hBb : Below wr.heap.size wr Wb := by rw [hWb]; exact (Below.refl _ _).alloc (Nat.le_refl _) _
        have HX : Hid (∀ w2 vs, Below Wb.heap.size Wb w2 → vs.length = 6 → BlockV (GeW Wb.heap.size w2) w2 vs x → EaR w g 45 6 n BlockV l (I ((i : Int) + 1)) (setsW w2 g (i * 6) vs)) := fun w2 vs hb2 hk hv => ⟨i + 1, hin, rfl, hf.sets blockV_stays hin il (below_tr hBb hb2) (by rw [← hx]; exact stayF blockV_stays hv (fun _ _ => rfl) (fun m hm => ⟨by have := hm.1; have := hBb.size; omega, hm.2, by have := hm.1; have := hBb.size; omega⟩)) hk, setsW_below hgb _ _ _ (below_tr hb (below_tr hBb hb2))⟩
        have HC : Hid (∀ w2, Below Wb.heap.size Wb w2 → ∀ j, j < 6 → ∃ v, w2.cell? ⟨g, i * 6 + j, none⟩ = some v ∧ w2.frozen? ⟨g, i * 6 + j, none⟩ = false) := fun w2 hb2 j hj => hf.cell (below_tr hBb hb2) hin j hj
        have HONE := Lib.hid (copyBl_one x hsm aa da A ac D dc Wb (haz.below instV_stays hBb) (hdz.below instV_stays hBb))
        have HWb := Lib.hid hWb
        have d0 : decide (i < n) = true := by simpa using hin
        have d1 : (0 : Int) ≤ (i : Int) := by omega
        have d2 : (i : Int) < (n : Int) := by omega
        have d3 : (n : Int) ≤ 1000000 := by omega
        have HI := Lib.hid hin
        clear c0 hx il hin hi hb hf gl HST hmk hWb hBb haz hdz hsm hgw hgb hA hD
        go_upto_region 7 with (fail)
        change Code.wp _ _ _ _ (wr.alloc (.cells #[.slice aa A ac, .slice da D dc, U8 x.fin, I x.arg, I x.to, I x.els] 45))
        go_wp2_with fail
        rw [← HWb.out]
        refine HONE.out.mono ?_
        rintro e w2 ⟨a1, a2, n1, n2, c1, c2, rfl, hv, hb3⟩
        have HN := Lib.hid (HX.out w2 _ hb3 rfl hv)
        obtain ⟨v0, y0, f0⟩ := HC.out w2 hb3 0 (by decide)
        obtain ⟨v1, y1, f1⟩ := HC.out w2 hb3 1 (by decide)
        obtain ⟨v2, y2, f2⟩ := HC.out w2 hb3 2 (by decide)
        obtain ⟨v3, y3, f3⟩ := HC.out w2 hb3 3 (by decide)
        obtain ⟨v4, y4, f4⟩ := HC.out w2 hb3 4 (by decide)
        obtain ⟨v5, y5, f5⟩ := HC.out w2 hb3 5 (by decide)
        rw [Nat.add_zero] at y0 f0
        clear hb3 hv HX HC HONE x0 x1 x2 x3 x4 x5
        go_wp2_with fail
        exact ⟨HN.out, by have := HI.out; simp [intOf]; omega⟩
      · have d0 : decide (i < n) = false := by simpa using hin
        obtain rfl : i = n := by omega
        have FIN := Lib.hid (show CopyT w 45 6 BlockV l wr (.returned (.slice (some ⟨g, 0, none⟩) i i)) from ⟨_, rfl, hf.done HH.out.2.1 (by have := HH.out.2.2; unfold maxLen; omega) blockV_stays, hb⟩)
        clear hf hb hin hi HST hmk
        go_wp2_with fail
        go_ret
        exact FIN.out
end Go.Proofs.Ytiimcckajjpbjaa
