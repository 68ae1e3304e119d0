/-
  The program's copy of functions.
-/
import Derived.Test.YtiimcckajjpbjaaCdV
namespace Go.Proofs.Ytiimcckajjpbjaa
open Go Go.RowKit Cd

def SmallB (l : List BlockP) : Prop := l.length ≤ 1000000 ∧ ∀ i (h : i < l.length), SmallJ l[i].phis ∧ SmallJ l[i].insts
def CoFuT (w : World) (x : FunP) (W : World) (e : Ending) : Prop := ∃ (a1 : Option Addr) (n1 c1 : Nat), e = .returned (.agg #[I x.params, I x.vars, I x.vals, .slice a1 n1 c1]) ∧ FunV (GeW w.heap.size W) W [I x.params, I x.vars, I x.vals, .slice a1 n1 c1] x ∧ Below w.heap.size w W

set_option maxRecDepth 100000 in
set_option maxHeartbeats 3200000 in
theorem copyFu_one (x : FunP) (hs : SmallB x.blocks) (aa : Option Addr) (A ac : Nat) (w : World) (ha : BlocksZ w (.slice aa A ac) x.blocks) :
    Calls Try.prog 30 #[.agg #[I x.params, I x.vars, I x.vals, .slice aa A ac]] w fun e w' => CoFuT w x w' e := by
  obtain ⟨bx, hbx⟩ : ∃ g, g = w.heap.size := ⟨_, rfl⟩
  obtain ⟨br, hbr⟩ : ∃ g, g = w.heap.size + 1 := ⟨_, rfl⟩
  obtain ⟨W1, hW1⟩ : ∃ W, W = (w.alloc (.cells #[I x.params, I x.vars, I x.vals, .slice aa A ac] 35)).alloc (.cells #[I 0, I 0, I 0, .slice none 0 0] 35) := ⟨_, rfl⟩
  have hB1 : Below w.heap.size w W1 := by rw [hW1]; exact ((Below.refl _ _).alloc (Nat.le_refl _) _).alloc (by simp) _
  have kx : Blk bx #[I x.params, I x.vars, I x.vals, .slice aa A ac] 35 W1 := by rw [hW1, hbx]; exact (Blk.new _ _ _).alloc _
  have kr : Blk br #[I 0, I 0, I 0, .slice none 0 0] 35 W1 := by rw [hW1, hbr]; exact Blk.new' _ _ _ (by simp)
  have hz1 : W1.heap.size = br + 1 := by rw [hW1, hbr]; simp
  have HC1 := Lib.hid (eachBl_any (.slice aa A ac) x.blocks hs W1 (ha.below blockV_stays hB1))
  have H1 := Lib.hid (And.intro hB1 (And.intro kx (And.intro kr (And.intro hz1 (And.intro hbx hbr)))))
  have HW1 := Lib.hid hW1
  have x3 := kx.get 3 (.slice aa A ac) rfl
  clear hbx hbr hW1 hB1 kx kr hz1 ha hs
  go_enter Try.func30, Try.ntmps30
  go_upto_region 1 with (fail)
  rw [← H1.out.2.2.2.2.2, ← H1.out.2.2.2.2.1]
  change Code.wp _ _ _ _ ((w.alloc (.cells #[I x.params, I x.vars, I x.vals, .slice aa A ac] 35)).alloc (.cells #[I 0, I 0, I 0, .slice none 0 0] 35))
  rw [← HW1.out]
  go_wp2_with fail
  refine HC1.out.mono ?_
  rintro e w2 ⟨u1, rfl, ho1, hb2⟩
  obtain ⟨a1, c1, rfl⟩ := ho1.row
  obtain ⟨n1, hn1⟩ : ∃ n, n = x.blocks.length := ⟨_, rfl⟩
  rw [← hn1] at ho1 ⊢
  have kx2 := H1.out.2.1.below hb2 H1.out.2.1.lt
  have kr2 := H1.out.2.2.1.below hb2 H1.out.2.2.1.lt
  have hB2 := below_tr H1.out.1 hb2
  have hlo : w.heap.size ≤ bx := by have := H1.out.2.2.2.2.1; omega
  have hbr1 : br ≠ bx := by have h1 := H1.out.2.2.2.2.1; have h2 := H1.out.2.2.2.2.2; omega
  obtain ⟨W5, hW5⟩ : ∃ W, W = w2.setCell ⟨bx, 3, none⟩ (.slice a1 n1 c1) := ⟨_, rfl⟩
  have kx5 : Blk bx #[I x.params, I x.vars, I x.vals, .slice a1 n1 c1] 35 W5 := by rw [hW5]; exact kx2.set 3 (.slice a1 n1 c1)
  have kr5 : Blk br #[I 0, I 0, I 0, .slice none 0 0] 35 W5 := by rw [hW5]; exact kr2.setOther hbr1 _ _
  have hB5 : Below w.heap.size w W5 := by rw [hW5]; exact hB2.setCell (p := ⟨bx, 3, none⟩) hlo _
  have hz5 : W5.heap.size = w2.heap.size := by rw [hW5]; simp [World.setCell]
  have hz1 := H1.out.2.2.2.1
  have hbxs := H1.out.2.2.2.2.1
  have hbrs := H1.out.2.2.2.2.2
  have hz2 := hb2.size
  obtain ⟨W6, hW6⟩ : ∃ W, W = setsW W5 br 0 [I x.params, I x.vars, I x.vals, .slice a1 n1 c1] := ⟨_, rfl⟩
  have kr6 : Blk br #[I x.params, I x.vars, I x.vals, .slice a1 n1 c1] 35 W6 := by rw [hW6]; exact kr5.sets [I x.params, I x.vars, I x.vals, .slice a1 n1 c1] 0
  have hB6 : Below w.heap.size w W6 := by rw [hW6]; exact setsW_below (by omega) _ _ _ hB5
  have hz6 : W6.heap.size = w2.heap.size := by rw [hW6, setsW_size]; exact hz5
  have he6 : ∀ n, n ≠ bx → n ≠ br → W6.heap[n]? = w2.heap[n]? := fun n h1 h2 => by rw [hW6, setsW_other _ _ _ _ h2, hW5]; exact Below.heap_setCell _ _ _ _ h1
  have hs6 : SlS (GeW w.heap.size W6) 6 BlockV W6 (.slice a1 n1 c1) x.blocks := (ho1.sl blockV_stays).keepF blockV_stays (fun n hn => by
    have h1 := hn.1
    exact he6 n (by omega) (by omega)) (fun n hn => ⟨by have := hn.1; omega, by have := hn.2; omega⟩)
  have FIN := Lib.hid (show CoFuT w x W6 (.returned (.agg #[I x.params, I x.vars, I x.vals, .slice a1 n1 c1])) from ⟨a1, n1, c1, rfl, ⟨_, rfl, hs6⟩, hB6⟩)
  have y3 := kx2.get 3 (.slice aa A ac) rfl
  have f3 := kx2.free 3
  have HW5 := Lib.hid hW5
  have HW6 := Lib.hid hW6
  have H5 := Lib.hid (And.intro kx5 (And.intro kr5 kr6))
  clear ho1 hn1 hb2 kx2 kr2 hB2 hlo hbr1 hW5 kx5 kr5 hB5 hz5 hz1 hbxs hbrs hz2 hW6 kr6 hB6 hz6 he6 hs6 HC1 x3
  go_upto_region 2 with (fail)
  change Code.wp _ _ _ _ (w2.setCell ⟨bx, 3, none⟩ (.slice a1 n1 c1))
  rw [← HW5.out]
  clear y3 f3
  have z0 := H5.out.1.get 0 (I x.params) rfl
  have z1 := H5.out.1.get 1 (I x.vars) rfl
  have z2 := H5.out.1.get 2 (I x.vals) rfl
  have z3 := H5.out.1.get 3 (.slice a1 n1 c1) rfl
  have v0 := H5.out.2.1.get 0 (I 0) rfl
  have v1 := H5.out.2.1.get 1 (I 0) rfl
  have v2 := H5.out.2.1.get 2 (I 0) rfl
  have v3 := H5.out.2.1.get 3 (.slice none 0 0) rfl
  have g0 := H5.out.2.1.free 0
  have g1 := H5.out.2.1.free 1
  have g2 := H5.out.2.1.free 2
  have g3 := H5.out.2.1.free 3
  go_wp2_with fail
  change bodyPost _ _ _ _ _ (setsW W5 br 0 [I x.params, I x.vars, I x.vals, .slice a1 n1 c1])
  rw [← HW6.out]
  have r0 := H5.out.2.2.get 0 (I x.params) rfl
  have r1 := H5.out.2.2.get 1 (I x.vars) rfl
  have r2 := H5.out.2.2.get 2 (I x.vals) rfl
  have r3 := H5.out.2.2.get 3 (.slice a1 n1 c1) rfl
  exact bodyPost_ret (v := .agg #[I x.params, I x.vars, I x.vals, .slice a1 n1 c1]) (by simp [results, Try.results30, go_sem, r0, r1, r2, r3]) rfl FIN.out

theorem mkFus (n : Nat) (hn : n ≤ 1000000) (u : World) : (Instr.makeSlice 22 (I (n : Int)) (I (n : Int))).run Try.prog u = .ok (.slice (some ⟨u.heap.size, 0, none⟩) n n) (u.alloc (.cells (madeCells #[I 0, I 0, I 0, .slice none 0 0] (n * 4)) 35)) := by
  obtain ⟨i0, hi, hz0, hz1, hz2⟩ := info_parts infoFu
  have h := run_makeSlice (P := Try.prog) (w := u) 22 35 i0 _ Try.underlying22 hi hz0 .i64 .i64 (n : Int) (n : Int) (by omega) (Int.le_refl _) (by rw [hz1]; simp; omega) (by rw [hz2]; simp; omega) (by omega)
  rw [hz1, show (Value.agg #[I 0, I 0, I 0, .slice none 0 0]).cells = #[I 0, I 0, I 0, .slice none 0 0] from rfl] at h
  simpa using h
set_option maxRecDepth 100000 in
set_option maxHeartbeats 3200000 in
theorem eachFu_any (v : Value) (l : List FunP) (hs : l.length ≤ 1000000 ∧ ∀ i (h : i < l.length), SmallB l[i].blocks) (w : World) (h : FunsZ w v l) :
    Calls Try.prog 29 #[v, .func (.func 30) #[] #[]] w fun e w' => CopyT w 35 4 FunV l w' e := by
  obtain ⟨a, c, rfl⟩ := h.size
  obtain ⟨n, hn⟩ : ∃ n, n = l.length := ⟨_, rfl⟩
  rw [← hn] at h ⊢
  have hnb : n ≤ 1000000 := by have := hs.1; omega
  have hmk := mkFus n hnb
  have HH := Lib.hid (And.intro h (And.intro hn hnb))
  have HSM := Lib.hid hs.2
  clear h hn hs
  cases a with
  | none =>
    have hl0 : l = [] := by
      cases l with
      | nil => rfl
      | cons y l' => obtain ⟨b, vs, e1, _⟩ := HH.out.1.at 0 (by simp); cases e1
    obtain rfl : n = 0 := by rw [HH.out.2.1, hl0]; rfl
    have FIN := Lib.hid (show CopyT w 35 4 FunV l w (.returned (.slice none 0 0)) from ⟨_, rfl, by rw [hl0]; exact OwnS.start, Below.refl _ _⟩)
    clear hl0 hmk
    have hnil : ∀ (n c : Nat) (w : World), (binOp .eql 22 (.slice none n c) (.slice none 0 0)).run Try.prog w = .ok (.bool true) w := fun n c w => Lib.run_eql_slice_nil w _ _ none n c 0 0 Try.underlying22
    go_enter Try.func29, Try.ntmps29
    go_wp2_with fail
    go_ret
    exact FIN.out
  | some b =>
    have hnil : ∀ (n c : Nat) (w : World), (binOp .eql 22 (.slice (some b) n c) (.slice none 0 0)).run Try.prog w = .ok (.bool false) w := fun n c w => Lib.run_eql_slice_nil w _ _ (some b) n c 0 0 Try.underlying22
    go_enter Try.func29, Try.ntmps29
    obtain ⟨Z, hZ⟩ : ∃ Z, Z = madeCells #[I 0, I 0, I 0, .slice none 0 0] (n * 4) := ⟨_, rfl⟩
    rw [← hZ] at hmk
    obtain ⟨W1, hW1⟩ : ∃ W, W = w.alloc (.cells Z 35) := ⟨_, rfl⟩
    obtain ⟨g, hg⟩ : ∃ g, g = w.heap.size := ⟨_, rfl⟩
    have HST := Lib.hid (show EaR w g 35 4 n FunV l (I 0) W1 from ⟨0, Nat.zero_le _, rfl, fill_start (cur := Z) (by rw [hg, hW1]; exact Blk.new _ _ _) (by rw [hZ]; simp [size_madeCells]) (by omega), by rw [hW1]; exact (Below.refl _ _).alloc (Nat.le_refl _) _⟩)
    have HW1 := Lib.hid (And.intro hW1 hg)
    clear hW1 hg hZ
    go_upto_region 4 with (fail)
    rw [← HW1.out.2]
    change Code.wp _ _ _ _ (w.alloc (.cells Z 35))
    rw [← HW1.out.1]
    go_wp2_with fail
    go_loopw [15] (fun iv W => EaR w g 35 4 n FunV l iv W) (fun iv _ => n - (intOf iv).toNat)
    case atStart => exact HST.out
    case round =>
      obtain ⟨i, hi, rfl, hf, hb⟩ := hrel
      by_cases hin : i < n
      · have il : i < l.length := by have := HH.out.2.1; omega
        obtain ⟨g1, _, e1, gl, c0, av, rfl, haz⟩ := (HH.out.1.below funV_stays hb).at i il
        cases e1
        obtain ⟨aa, ac, rfl⟩ := haz.size
        obtain ⟨x, hx⟩ : ∃ x, x = l[i] := ⟨_, rfl⟩
        have hsm := HSM.out i il
        rw [← hx] at c0 haz hsm
        obtain ⟨A, hA⟩ : ∃ A, A = x.blocks.length := ⟨_, rfl⟩
        rw [← hA] at c0
        rw [← hA] at haz
        have x0 := c0.f0
        have x1 := c0.f1
        have x2 := c0.f2
        have x3 := c0.f3
        have hgw : g < wr.heap.size := by obtain ⟨_, _, h1, _⟩ := hf; exact h1.lt
        have hgb : w.heap.size ≤ g := by obtain ⟨_, _, _, _, h3, _⟩ := hf; exact h3
        obtain ⟨Wb, hWb⟩ : ∃ W, W = wr.alloc (.cells #[I x.params, I x.vars, I x.vals, .slice aa A ac] 35) := ⟨_, rfl⟩
        have hBb : Below wr.heap.size wr Wb := by rw [hWb]; exact (Below.refl _ _).alloc (Nat.le_refl _) _
        have HX : Hid (∀ w2 vs, Below Wb.heap.size Wb w2 → vs.length = 4 → FunV (GeW Wb.heap.size w2) w2 vs x → EaR w g 35 4 n FunV l (I ((i : Int) + 1)) (setsW w2 g (i * 4) vs)) := fun w2 vs hb2 hk hv => ⟨i + 1, hin, rfl, hf.sets funV_stays hin il (below_tr hBb hb2) (by rw [← hx]; exact stayF funV_stays hv (fun _ _ => rfl) (fun m hm => ⟨by have := hm.1; have := hBb.size; omega, hm.2, by have := hm.1; have := hBb.size; omega⟩)) hk, setsW_below hgb _ _ _ (below_tr hb (below_tr hBb hb2))⟩
        have HC : Hid (∀ w2, Below Wb.heap.size Wb w2 → ∀ j, j < 4 → ∃ v, w2.cell? ⟨g, i * 4 + j, none⟩ = some v ∧ w2.frozen? ⟨g, i * 4 + j, none⟩ = false) := fun w2 hb2 j hj => hf.cell (below_tr hBb hb2) hin j hj
        have HONE := Lib.hid (copyFu_one x hsm aa A ac Wb (haz.below blockV_stays hBb))
        have HWb := Lib.hid hWb
        have d0 : decide (i < n) = true := by simpa using hin
        have d1 : (0 : Int) ≤ (i : Int) := by omega
        have d2 : (i : Int) < (n : Int) := by omega
        have d3 : (n : Int) ≤ 1000000 := by omega
        have HI := Lib.hid hin
        clear c0 hx il hin hi hb hf gl HST hmk hWb hBb haz hsm hgw hgb hA
        go_upto_region 7 with (fail)
        change Code.wp _ _ _ _ (wr.alloc (.cells #[I x.params, I x.vars, I x.vals, .slice aa A ac] 35))
        go_wp2_with fail
        rw [← HWb.out]
        refine HONE.out.mono ?_
        rintro e w2 ⟨a1, n1, c1, rfl, hv, hb3⟩
        have HN := Lib.hid (HX.out w2 _ hb3 rfl hv)
        obtain ⟨v0, y0, f0⟩ := HC.out w2 hb3 0 (by decide)
        obtain ⟨v1, y1, f1⟩ := HC.out w2 hb3 1 (by decide)
        obtain ⟨v2, y2, f2⟩ := HC.out w2 hb3 2 (by decide)
        obtain ⟨v3, y3, f3⟩ := HC.out w2 hb3 3 (by decide)
        rw [Nat.add_zero] at y0 f0
        clear hb3 hv HX HC HONE x0 x1 x2 x3
        go_wp2_with fail
        exact ⟨HN.out, by have := HI.out; simp [intOf]; omega⟩
      · have d0 : decide (i < n) = false := by simpa using hin
        obtain rfl : i = n := by omega
        have FIN := Lib.hid (show CopyT w 35 4 FunV l wr (.returned (.slice (some ⟨g, 0, none⟩) i i)) from ⟨_, rfl, hf.done HH.out.2.1 (by have := HH.out.2.2; unfold maxLen; omega) funV_stays, hb⟩)
        clear hf hb hin hi HST hmk
        go_wp2_with fail
        go_ret
        exact FIN.out
end Go.Proofs.Ytiimcckajjpbjaa
