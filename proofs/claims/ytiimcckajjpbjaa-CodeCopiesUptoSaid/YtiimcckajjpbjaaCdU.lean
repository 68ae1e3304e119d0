/-
  The program's copy of lists of instructions.
-/
import Derived.Test.YtiimcckajjpbjaaCdR
namespace Go.Proofs.Ytiimcckajjpbjaa
open Go Go.RowKit Cd

theorem mkIns (n : Nat) (hn : n ≤ 1000000) (u : World) : (Instr.makeSlice 43 (I (n : Int)) (I (n : Int))).run Try.prog u = .ok (.slice (some ⟨u.heap.size, 0, none⟩) n n) (u.alloc (.cells (madeCells #[U8 0, I 0, .slice none 0 0, I 0, I 0, .slice none 0 0] (n * 6)) 50)) := by
  obtain ⟨i0, hi, hz0, hz1, hz2⟩ := info_parts infoIn
  have h := run_makeSlice (P := Try.prog) (w := u) 43 50 i0 _ Try.underlying43 hi hz0 .i64 .i64 (n : Int) (n : Int) (by omega) (Int.le_refl _) (by rw [hz1]; simp; omega) (by rw [hz2]; simp; omega) (by omega)
  rw [hz1, show (Value.agg #[U8 0, I 0, .slice none 0 0, I 0, I 0, .slice none 0 0]).cells = #[U8 0, I 0, .slice none 0 0, I 0, I 0, .slice none 0 0] from rfl] at h
  simpa using h
set_option maxRecDepth 100000 in
set_option maxHeartbeats 3200000 in
theorem eachIn_any (v : Value) (l : List InstP) (hs : l.length ≤ 1000000 ∧ ∀ i (h : i < l.length), l[i].args.length ≤ 1000000 ∧ l[i].dbg.length ≤ 1000000) (w : World) (h : InstsZ w v l) :
    Calls Try.prog 63 #[v, .func (.func 64) #[] #[]] w fun e w' => CopyT w 50 6 InstV l w' e := by
  obtain ⟨a, c, rfl⟩ := h.size
  obtain ⟨n, hn⟩ : ∃ n, n = l.length := ⟨_, rfl⟩
  rw [← hn] at h ⊢
  have hnb : n ≤ 1000000 := by have := hs.1; omega
  have hmk := mkIns n hnb
  have HH := Lib.hid (And.intro h (And.intro hn hnb))
  have HSM := Lib.hid hs.2
  clear h hn hs
  cases a with
  | none =>
    have hl0 : l = [] := by
      cases l with
      | nil => rfl
      | cons y l' => obtain ⟨b, vs, e1, _⟩ := HH.out.1.at 0 (by simp); cases e1
    obtain rfl : n = 0 := by rw [HH.out.2.1, hl0]; rfl
    have FIN := Lib.hid (show CopyT w 50 6 InstV l w (.returned (.slice none 0 0)) from ⟨_, rfl, by rw [hl0]; exact OwnS.start, Below.refl _ _⟩)
    clear hl0 hmk
    have hnil : ∀ (n c : Nat) (w : World), (binOp .eql 43 (.slice none n c) (.slice none 0 0)).run Try.prog w = .ok (.bool true) w := fun n c w => Lib.run_eql_slice_nil w _ _ none n c 0 0 Try.underlying43
    go_enter Try.func63, Try.ntmps63
    go_wp2_with fail
    go_ret
    exact FIN.out
  | some b =>
    have hnil : ∀ (n c : Nat) (w : World), (binOp .eql 43 (.slice (some b) n c) (.slice none 0 0)).run Try.prog w = .ok (.bool false) w := fun n c w => Lib.run_eql_slice_nil w _ _ (some b) n c 0 0 Try.underlying43
    go_enter Try.func63, Try.ntmps63
    obtain ⟨Z, hZ⟩ : ∃ Z, Z = madeCells #[U8 0, I 0, .slice none 0 0, I 0, I 0, .slice none 0 0] (n * 6) := ⟨_, rfl⟩
    rw [← hZ] at hmk
    obtain ⟨W1, hW1⟩ : ∃ W, W = w.alloc (.cells Z 50) := ⟨_, rfl⟩
    obtain ⟨g, hg⟩ : ∃ g, g = w.heap.size := ⟨_, rfl⟩
    have HST := Lib.hid (show EaR w g 50 6 n InstV l (I 0) W1 from ⟨0, Nat.zero_le _, rfl, fill_start (cur := Z) (by rw [hg, hW1]; exact Blk.new _ _ _) (by rw [hZ]; simp [size_madeCells]) (by omega), by rw [hW1]; exact (Below.refl _ _).alloc (Nat.le_refl _) _⟩)
    have HW1 := Lib.hid (And.intro hW1 hg)
    clear hW1 hg hZ
    go_upto_region 4 with (fail)
    rw [← HW1.out.2]
    change Code.wp _ _ _ _ (w.alloc (.cells Z 50))
    rw [← HW1.out.1]
    go_wp2_with fail
    go_loopw [15] (fun iv W => EaR w g 50 6 n InstV l iv W) (fun iv _ => n - (intOf iv).toNat)
    case atStart => exact HST.out
    case round =>
      obtain ⟨i, hi, rfl, hf, hb⟩ := hrel
      by_cases hin : i < n
      · have il : i < l.length := by have := HH.out.2.1; omega
        obtain ⟨g1, _, e1, gl, c0, av, dv, rfl, haz, hdz⟩ := (HH.out.1.below instV_stays hb).at i il
        cases e1
        obtain ⟨aa, ac, rfl⟩ := haz.size
        obtain ⟨da, dc, rfl⟩ := hdz.size
        obtain ⟨x, hx⟩ : ∃ x, x = l[i] := ⟨_, rfl⟩
        have hsm := HSM.out i il
        rw [← hx] at c0 haz hdz hsm
        obtain ⟨A, hA⟩ : ∃ A, A = x.args.length := ⟨_, rfl⟩
        obtain ⟨D, hD⟩ : ∃ D, D = x.dbg.length := ⟨_, rfl⟩
        rw [← hA, ← hD] at c0
        rw [← hA] at haz
        rw [← hD] at hdz
        have x0 := c0.f0
        have x1 := c0.f1
        have x2 := c0.f2
        have x3 := c0.f3
        have x4 := c0.f4
        have x5 := c0.f5
        have hgw : g < wr.heap.size := by obtain ⟨_, _, h1, _⟩ := hf; exact h1.lt
        have hgb : w.heap.size ≤ g := by obtain ⟨_, _, _, _, h3, _⟩ := hf; exact h3
        obtain ⟨Wb, hWb⟩ : ∃ W, W = wr.alloc (.cells #[U8 x.op, I x.dst, .slice aa A ac, I x.imm, I x.site, .slice da D dc] 50) := ⟨_, rfl⟩
        have hBb : Below wr.heap.size wr Wb := by rw [hWb]; exact (Below.refl _ _).alloc (Nat.le_refl _) _
        have HX : Hid (∀ w2 vs, Below Wb.heap.size Wb w2 → vs.length = 6 → InstV (GeW Wb.heap.size w2) w2 vs x → EaR w g 50 6 n InstV l (I ((i : Int) + 1)) (setsW w2 g (i * 6) vs)) := fun w2 vs hb2 hk hv => ⟨i + 1, hin, rfl, hf.sets instV_stays hin il (below_tr hBb hb2) (by rw [← hx]; exact stayF instV_stays hv (fun _ _ => rfl) (fun m hm => ⟨by have := hm.1; have := hBb.size; omega, hm.2, by have := hm.1; have := hBb.size; omega⟩)) hk, setsW_below hgb _ _ _ (below_tr hb (below_tr hBb hb2))⟩
        have HC : Hid (∀ w2, Below Wb.heap.size Wb w2 → ∀ j, j < 6 → ∃ v, w2.cell? ⟨g, i * 6 + j, none⟩ = some v ∧ w2.frozen? ⟨g, i * 6 + j, none⟩ = false) := fun w2 hb2 j hj => hf.cell (below_tr hBb hb2) hin j hj
        have HONE := Lib.hid (copyIn_one x hsm aa da A ac D dc Wb (haz.below intV_stays hBb) (hdz.below dbgV_stays hBb))
        have HWb := Lib.hid hWb
        have d0 : decide (i < n) = true := by simpa using hin
        have d1 : (0 : Int) ≤ (i : Int) := by omega
        have d2 : (i : Int) < (n : Int) := by omega
        have d3 : (n : Int) ≤ 1000000 := by omega
        have HI := Lib.hid hin
        clear c0 hx il hin hi hb hf gl HST hmk hWb hBb haz hdz hsm hgw hgb hA hD
        go_upto_region 7 with (fail)
        change Code.wp _ _ _ _ (wr.alloc (.cells #[U8 x.op, I x.dst, .slice aa A ac, I x.imm, I x.site, .slice da D dc] 50))
        go_wp2_with fail
        rw [← HWb.out]
        refine HONE.out.mono ?_
        rintro e w2 ⟨a1, a2, n1, n2, c1, c2, rfl, hv, hb3⟩
        have HN := Lib.hid (HX.out w2 _ hb3 rfl hv)
        obtain ⟨v0, y0, f0⟩ := HC.out w2 hb3 0 (by decide)
        obtain ⟨v1, y1, f1⟩ := HC.out w2 hb3 1 (by decide)
        obtain ⟨v2, y2, f2⟩ := HC.out w2 hb3 2 (by decide)
        obtain ⟨v3, y3, f3⟩ := HC.out w2 hb3 3 (by decide)
        obtain ⟨v4, y4, f4⟩ := HC.out w2 hb3 4 (by decide)
        obtain ⟨v5, y5, f5⟩ := HC.out w2 hb3 5 (by decide)
        rw [Nat.add_zero] at y0 f0
        clear hb3 hv HX HC HONE x0 x1 x2 x3 x4 x5
        go_wp2_with fail
        exact ⟨HN.out, by have := HI.out; simp [intOf]; omega⟩
      · have d0 : decide (i < n) = false := by simpa using hin
        obtain rfl : i = n := by omega
        have FIN := Lib.hid (show CopyT w 50 6 InstV l wr (.returned (.slice (some ⟨g, 0, none⟩) i i)) from ⟨_, rfl, hf.done HH.out.2.1 (by have := HH.out.2.2; unfold maxLen; omega) instV_stays, hb⟩)
        clear hf hb hin hi HST hmk
        go_wp2_with fail
        go_ret
        exact FIN.out
end Go.Proofs.Ytiimcckajjpbjaa
