/-
  The program's copy of stops.
-/
import Derived.Test.YtiimcckajjpbjaaCdR
namespace Go.Proofs.Ytiimcckajjpbjaa
open Go Go.RowKit Cd

theorem mkSps (n : Nat) (hn : n ≤ 1000000) (u : World) : (Instr.makeSlice 39 (I (n : Int)) (I (n : Int))).run Try.prog u = .ok (.slice (some ⟨u.heap.size, 0, none⟩) n n) (u.alloc (.cells (madeCells #[I 0, I 0] (n * 2)) 41)) := by
  obtain ⟨i0, hi, hz0, hz1, hz2⟩ := info_parts infoS
  have h := run_makeSlice (P := Try.prog) (w := u) 39 41 i0 _ Try.underlying39 hi hz0 .i64 .i64 (n : Int) (n : Int) (by omega) (Int.le_refl _) (by rw [hz1]; simp; omega) (by rw [hz2]; simp; omega) (by omega)
  rw [hz1, show (Value.agg #[I 0, I 0]).cells = #[I 0, I 0] from rfl] at h
  simpa using h
set_option maxRecDepth 100000 in
set_option maxHeartbeats 1600000 in
theorem copyS_one (d0 d1 : Int) (w : World) : Calls Try.prog 51 #[.agg #[I d0, I d1]] w fun e w' => e = .returned (.agg #[I d0, I d1]) ∧ Below w.heap.size w w' := by
  go_enter Try.func51, Try.ntmps51
  go_wp2_with fail
  refine bodyPost_ret (v := .agg #[I d0, I d1]) (by simp [results, Try.results51, go_sem]) rfl ⟨rfl, ?_⟩
  exact ((Below.refl _ _).alloc (Nat.le_refl _) _).alloc (by simp) _

set_option maxRecDepth 100000 in
set_option maxHeartbeats 3200000 in
theorem eachS_any (v : Value) (l : List SpotP) (hl : l.length ≤ 1000000) (w : World) (h : SlS (LtW w) 2 SpotV w v l) :
    Calls Try.prog 50 #[v, .func (.func 51) #[] #[]] w fun e w' => CopyT w 41 2 SpotV l w' e := by
  obtain ⟨a, c, rfl⟩ := h.size
  obtain ⟨n, hn⟩ : ∃ n, n = l.length := ⟨_, rfl⟩
  rw [← hn] at h ⊢
  have hnb : n ≤ 1000000 := by omega
  have hmk := mkSps n hnb
  have HH := Lib.hid (And.intro h (And.intro hn hnb))
  clear h hn hl
  cases a with
  | none =>
    have hl0 : l = [] := by
      cases l with
      | nil => rfl
      | cons y l' => obtain ⟨b, vs, e1, _⟩ := HH.out.1.at 0 (by simp); cases e1
    obtain rfl : n = 0 := by rw [HH.out.2.1, hl0]; rfl
    have FIN := Lib.hid (show CopyT w 41 2 SpotV l w (.returned (.slice none 0 0)) from ⟨_, rfl, by rw [hl0]; exact OwnS.start, Below.refl _ _⟩)
    clear hl0 hmk
    have hnil : ∀ (n c : Nat) (w : World), (binOp .eql 39 (.slice none n c) (.slice none 0 0)).run Try.prog w = .ok (.bool true) w := fun n c w => Lib.run_eql_slice_nil w _ _ none n c 0 0 Try.underlying39
    go_enter Try.func50, Try.ntmps50
    go_wp2_with fail
    go_ret
    exact FIN.out
  | some b =>
    have hnil : ∀ (n c : Nat) (w : World), (binOp .eql 39 (.slice (some b) n c) (.slice none 0 0)).run Try.prog w = .ok (.bool false) w := fun n c w => Lib.run_eql_slice_nil w _ _ (some b) n c 0 0 Try.underlying39
    go_enter Try.func50, Try.ntmps50
    obtain ⟨Z, hZ⟩ : ∃ Z, Z = madeCells #[I 0, I 0] (n * 2) := ⟨_, rfl⟩
    rw [← hZ] at hmk
    obtain ⟨W1, hW1⟩ : ∃ W, W = w.alloc (.cells Z 41) := ⟨_, rfl⟩
    obtain ⟨g, hg⟩ : ∃ g, g = w.heap.size := ⟨_, rfl⟩
    have HST := Lib.hid (show EaR w g 41 2 n SpotV l (I 0) W1 from ⟨0, Nat.zero_le _, rfl, fill_start (cur := Z) (by rw [hg, hW1]; exact Blk.new _ _ _) (by rw [hZ]; simp [size_madeCells]) (by omega), by rw [hW1]; exact (Below.refl _ _).alloc (Nat.le_refl _) _⟩)
    have HW1 := Lib.hid (And.intro hW1 hg)
    clear hW1 hg hZ
    go_upto_region 4 with (fail)
    rw [← HW1.out.2]
    change Code.wp _ _ _ _ (w.alloc (.cells Z 41))
    rw [← HW1.out.1]
    go_wp2_with fail
    go_loopw [15] (fun iv W => EaR w g 41 2 n SpotV l iv W) (fun iv _ => n - (intOf iv).toNat)
    case atStart => exact HST.out
    case round =>
      obtain ⟨i, hi, rfl, hf, hb⟩ := hrel
      by_cases hin : i < n
      · have il : i < l.length := by have := HH.out.2.1; omega
        obtain ⟨g1, _, e1, gl, c0, e0⟩ := (HH.out.1.below spotV_stays hb).at i il
        cases e1
        obtain rfl := e0
        obtain ⟨x, hx⟩ : ∃ x, x = l[i] := ⟨_, rfl⟩
        rw [← hx] at c0
        unfold encS at c0
        have x0 := c0.f0
        have x1 := c0.f1
        have HX : Hid (∀ w2, Below wr.heap.size wr w2 → EaR w g 41 2 n SpotV l (I ((i : Int) + 1)) (setsW w2 g (i * 2) (encS x))) := fun w2 hb2 => ⟨i + 1, hin, rfl, hf.sets spotV_stays hin il hb2 (by rw [hx]; rfl) rfl, setsW_below (by obtain ⟨_, _, _, _, h3, _⟩ := hf; exact h3) _ _ _ (below_tr hb hb2)⟩
        have HC : Hid (∀ w2, Below wr.heap.size wr w2 → ∀ j, j < 2 → ∃ v, w2.cell? ⟨g, i * 2 + j, none⟩ = some v ∧ w2.frozen? ⟨g, i * 2 + j, none⟩ = false) := fun w2 hb2 j hj => hf.cell hb2 hin j hj
        have HB1 := Lib.hid ((Below.refl wr.heap.size wr).alloc (Nat.le_refl _) (.cells #[I x.fn, I x.stmt] 41))
        have HONE := Lib.hid (copyS_one x.fn x.stmt)
        have d0 : decide (i < n) = true := by simpa using hin
        have d1 : (0 : Int) ≤ (i : Int) := by omega
        have d2 : (i : Int) < (n : Int) := by omega
        have d3 : (n : Int) ≤ 1000000 := by omega
        have HI := Lib.hid hin
        clear c0 hx il hin hi hb hf gl HST hmk
        go_wp2_with fail
        refine (HONE.out _).mono ?_
        rintro e w2 ⟨rfl, hb2⟩
        have hb3 := below_tr HB1.out hb2
        have HN := Lib.hid (HX.out w2 hb3)
        obtain ⟨v0, y0, f0⟩ := HC.out w2 hb3 0 (by decide)
        obtain ⟨v1, y1, f1⟩ := HC.out w2 hb3 1 (by decide)
        rw [Nat.add_zero] at y0 f0
        clear hb2 hb3 HX HC HB1 HONE x0 x1
        go_wp2_with fail
        exact ⟨HN.out, by have := HI.out; simp [intOf]; omega⟩
      · have d0 : decide (i < n) = false := by simpa using hin
        obtain rfl : i = n := by omega
        have FIN := Lib.hid (show CopyT w 41 2 SpotV l wr (.returned (.slice (some ⟨g, 0, none⟩) i i)) from ⟨_, rfl, hf.done HH.out.2.1 (by have := HH.out.2.2; unfold maxLen; omega) spotV_stays, hb⟩)
        clear hf hb hin hi HST hmk
        go_wp2_with fail
        go_ret
        exact FIN.out
set_option maxRecDepth 100000 in
theorem copyS_any (v : Value) (l : List SpotP) (hl : l.length ≤ 1000000) (w : World) (h : SlS (LtW w) 2 SpotV w v l) :
    Calls Try.prog 32 #[v] w fun e w' => CopyT w 41 2 SpotV l w' e := by
  have HC := Lib.hid (eachS_any v l hl w h)
  clear h hl
  go_enter Try.func32, Try.ntmps32
  go_wp2_with fail
  refine HC.out.mono ?_
  rintro e w' ⟨u, rfl, h1, h2⟩
  have FIN := Lib.hid (show CopyT w 41 2 SpotV l w' (.returned u) from ⟨u, rfl, h1, h2⟩)
  clear h1 h2
  go_wp2_with fail
  go_ret
  exact FIN.out

theorem mkSls (n : Nat) (hn : n ≤ 1000000) (u : World) : (Instr.makeSlice 23 (I (n : Int)) (I (n : Int))).run Try.prog u = .ok (.slice (some ⟨u.heap.size, 0, none⟩) n n) (u.alloc (.cells (Array.replicate n (.slice none 0 0)) 39)) := by
  obtain ⟨i0, hi, hz0, hz1, hz2⟩ := info_parts infoSl
  have h := run_makeSlice (P := Try.prog) (w := u) 23 39 i0 _ Try.underlying23 hi hz0 .i64 .i64 (n : Int) (n : Int) (by omega) (Int.le_refl _) (by rw [hz1]; simp; omega) (by rw [hz2]; simp; omega) (by omega)
  rw [hz1, show (Value.slice none 0 0).cells = #[.slice none 0 0] from rfl, madeOne] at h
  simpa using h
set_option maxRecDepth 100000 in
set_option maxHeartbeats 1600000 in
theorem eachSl_any (v : Value) (l : List (List SpotP)) (hs : l.length ≤ 1000000 ∧ ∀ i (h : i < l.length), l[i].length ≤ 1000000) (w : World) (h : StopsZ w v l) :
    Calls Try.prog 31 #[v, .func (.func 32) #[] #[]] w fun e w' => CopyT w 39 1 StopV l w' e := by
  obtain ⟨a, c, rfl⟩ := h.size
  obtain ⟨n, hn⟩ : ∃ n, n = l.length := ⟨_, rfl⟩
  rw [← hn] at h ⊢
  have hnb : n ≤ 1000000 := by have := hs.1; omega
  have hmk := mkSls n hnb
  have HH := Lib.hid (And.intro h (And.intro hn hnb))
  have HSM := Lib.hid hs.2
  clear h hn hs
  cases a with
  | none =>
    have hl0 : l = [] := by
      cases l with
      | nil => rfl
      | cons y l' => obtain ⟨b, vs, e1, _⟩ := HH.out.1.at 0 (by simp); cases e1
    obtain rfl : n = 0 := by rw [HH.out.2.1, hl0]; rfl
    have FIN := Lib.hid (show CopyT w 39 1 StopV l w (.returned (.slice none 0 0)) from ⟨_, rfl, by rw [hl0]; exact OwnS.start, Below.refl _ _⟩)
    clear hl0 hmk
    have hnil : ∀ (n c : Nat) (w : World), (binOp .eql 23 (.slice none n c) (.slice none 0 0)).run Try.prog w = .ok (.bool true) w := fun n c w => Lib.run_eql_slice_nil w _ _ none n c 0 0 Try.underlying23
    go_enter Try.func31, Try.ntmps31
    go_wp2_with fail
    go_ret
    exact FIN.out
  | some b =>
    have hnil : ∀ (n c : Nat) (w : World), (binOp .eql 23 (.slice (some b) n c) (.slice none 0 0)).run Try.prog w = .ok (.bool false) w := fun n c w => Lib.run_eql_slice_nil w _ _ (some b) n c 0 0 Try.underlying23
    go_enter Try.func31, Try.ntmps31
    obtain ⟨W1, hW1⟩ : ∃ W, W = w.alloc (.cells (Array.replicate n (.slice none 0 0)) 39) := ⟨_, rfl⟩
    obtain ⟨g, hg⟩ : ∃ g, g = w.heap.size := ⟨_, rfl⟩
    have HST := Lib.hid (show EaR w g 39 1 n StopV l (I 0) W1 from ⟨0, Nat.zero_le _, rfl, fill_start (cur := Array.replicate n (.slice none 0 0)) (by rw [hg, hW1]; exact Blk.new _ _ _) (by simp) (by omega), by rw [hW1]; exact (Below.refl _ _).alloc (Nat.le_refl _) _⟩)
    have HW1 := Lib.hid (And.intro hW1 hg)
    clear hW1 hg
    go_upto_region 4 with (fail)
    rw [← HW1.out.2]
    change Code.wp _ _ _ _ (w.alloc (.cells (Array.replicate n (.slice none 0 0)) 39))
    rw [← HW1.out.1]
    go_wp2_with fail
    go_loopw [15] (fun iv W => EaR w g 39 1 n StopV l iv W) (fun iv _ => n - (intOf iv).toNat)
    case atStart => exact HST.out
    case round =>
      obtain ⟨i, hi, rfl, hf, hb⟩ := hrel
      by_cases hin : i < n
      · have il : i < l.length := by have := HH.out.2.1; omega
        obtain ⟨g1, _, e1, gl, c00, slv, rfl, hsl⟩ := (HH.out.1.below stopV_stays hb).at i il
        cases e1
        obtain ⟨la, lc, rfl⟩ := hsl.size
        obtain ⟨x, hx⟩ : ∃ x, x = l[i] := ⟨_, rfl⟩
        have hsm := HSM.out i il
        rw [← hx] at c00 hsl hsm
        obtain ⟨L, hL⟩ : ∃ n, n = x.length := ⟨_, rfl⟩
        rw [← hL] at c00 hsl
        have x0 := c00.f0
        rw [Nat.mul_one] at x0
        have hgw : g < wr.heap.size := by obtain ⟨_, _, h1, _⟩ := hf; exact h1.lt
        have hgb : w.heap.size ≤ g := by obtain ⟨_, _, _, _, h3, _⟩ := hf; exact h3
        have HX : Hid (∀ w2 u, Below wr.heap.size wr w2 → SlS (GeW wr.heap.size w2) 2 SpotV w2 u x → EaR w g 39 1 n StopV l (I ((i : Int) + 1)) (setsW w2 g (i * 1) [u])) := fun w2 u hb2 hv => ⟨i + 1, hin, rfl, hf.sets stopV_stays hin il hb2 (by rw [← hx]; exact ⟨u, rfl, hv.keepF spotV_stays (fun _ _ => rfl) (fun m hm => ⟨by have := hm.1; omega, hm.2, by have := hm.1; omega⟩)⟩) rfl, setsW_below hgb _ _ _ (below_tr hb hb2)⟩
        have HC : Hid (∀ w2, Below wr.heap.size wr w2 → ∃ v, w2.cell? ⟨g, i, none⟩ = some v ∧ w2.frozen? ⟨g, i, none⟩ = false) := fun w2 hb2 => by
          have := hf.cell hb2 hin 0 (by decide)
          rw [Nat.mul_one, Nat.add_zero] at this
          exact this
        have HONE := Lib.hid (copyS_any (.slice la L lc) x hsm wr hsl)
        have d0 : decide (i < n) = true := by simpa using hin
        have d1 : (0 : Int) ≤ (i : Int) := by omega
        have d2 : (i : Int) < (n : Int) := by omega
        have d3 : (n : Int) ≤ 1000000 := by omega
        have HI := Lib.hid hin
        clear c00 hx il hin hi hb hf hsl hsm hL hgw hgb gl HST hmk
        go_wp2_with fail
        refine HONE.out.mono ?_
        rintro e w2 ⟨u, rfl, ho, hb2⟩
        obtain ⟨a1, c1, rfl⟩ := ho.row
        obtain ⟨n1, hn1⟩ : ∃ n, n = x.length := ⟨_, rfl⟩
        rw [← hn1] at ho ⊢
        have HN := Lib.hid (HX.out w2 _ hb2 (ho.sl spotV_stays))
        rw [Nat.mul_one] at HN
        obtain ⟨v0, y0, f0⟩ := HC.out w2 hb2
        clear ho hb2 HX HC HONE x0 hn1
        go_wp2_with fail
        exact ⟨HN.out, by have := HI.out; simp [intOf]; omega⟩
      · have d0 : decide (i < n) = false := by simpa using hin
        obtain rfl : i = n := by omega
        have FIN := Lib.hid (show CopyT w 39 1 StopV l wr (.returned (.slice (some ⟨g, 0, none⟩) i i)) from ⟨_, rfl, hf.done HH.out.2.1 (by have := HH.out.2.2; unfold maxLen; omega) stopV_stays, hb⟩)
        clear hf hb hin hi HST hmk
        go_wp2_with fail
        go_ret
        exact FIN.out

end Go.Proofs.Ytiimcckajjpbjaa
