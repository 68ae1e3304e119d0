/-
  Joined: FClimb2, FLow.
-/
import Derived.Test.YtjlmkcamefaodaaJ10
import Derived.Test.YtjlmkcamefaodaaJ07
import Derived.BigRegion
/-! FClimb2: What climbing through any graph begins with: the walk. -/

namespace Go.Proofs.Ytjlmkcamefaodaa
open Go Go.RowKit Fl

/-- What a climb is begun from. -/
structure FromW (w : World) (bw bf bn g m N cap : Nat) (ent : List Nat) (frm : List Int) (nums : List Nat) : Prop where
  c0 : w.cell? ⟨bw, 0, none⟩ = some (.slice (some ⟨g, 0, none⟩) m cap)
  c2 : w.cell? ⟨bw, 2, none⟩ = some (.slice (some ⟨bf, 0, none⟩) N N)
  en : ∀ i, i < m → w.cell? ⟨g, i, none⟩ = some (I ((ent.getD i 0 : Nat) : Int))
  fm : ∀ a, a < N → w.cell? ⟨bf, a, none⟩ = some (I (frm.getD a 0))
  nm : ∀ a, a < N → w.cell? ⟨bn, a, none⟩ = some (I ((nums.getD a 0 : Nat) : Int))
  lw : bw < w.heap.size
  lf : bf < w.heap.size
  ln : bn < w.heap.size
  lg : g < w.heap.size
  em : ent.length = m
  el : ∀ i, i < m → ent.getD i 0 < N
  fl : ∀ i, 0 < i → i < m → 0 ≤ frm.getD (ent.getD i 0) 0 ∧ frm.getD (ent.getD i 0) 0 < N

/-- A climb that is begun up to the j-th. -/
def ClimbJ (w : World) (bc b0 b1 b2 b3 m : Nat) (ent : List Nat) (frm : List Int) (nums : List Nat) (j : Nat) (W : World) : Prop :=
  ClimbG w.heap.size bc b0 b1 b2 b3 m (Fl.fromL ent frm nums j) (Fl.fromL ent frm nums j) (Fl.idL m j) (Fl.idL m j) (.slice none 0 0) W ∧ Below w.heap.size w W
def ClimbRel (w : World) (bc b0 b1 b2 b3 m : Nat) (ent : List Nat) (frm : List Int) (nums : List Nat) (iv : Value) (W : World) : Prop :=
  ∃ j : Nat, j ≤ m ∧ iv = I (j : Int) ∧ ClimbJ w bc b0 b1 b2 b3 m ent frm nums j W
def ClimbB (w : World) (m : Nat) (ent : List Nat) (frm : List Int) (nums : List Nat) (p : Value) (W : World) : Prop :=
  ∃ bc b0 b1 b2 b3, p = .pointer (some ⟨bc, 0, none⟩) ∧ ClimbJ w bc b0 b1 b2 b3 m ent frm nums 0 W
/-- What a climb begins with. -/
def ClimbT (w : World) (m : Nat) (ent : List Nat) (frm : List Int) (nums : List Nat) (W : World) (e : Ending) : Prop :=
  ∃ bc b0 b1 b2 b3, e = .returned (.pointer (some ⟨bc, 0, none⟩)) ∧ ClimbG w.heap.size bc b0 b1 b2 b3 m ((List.range m).map (Fl.fromF ent frm nums)) ((List.range m).map (Fl.fromF ent frm nums)) (List.range m) (List.range m) (.slice none 0 0) W ∧ Below w.heap.size w W

theorem Fl.fromL_set {ent : List Nat} {frm : List Int} {nums : List Nat} {j : Nat} (hj : j < ent.length) : (Fl.fromL ent frm nums j).set j (Fl.fromF ent frm nums j) = Fl.fromL ent frm nums (j + 1) := Fl.map_if_set (f := Fl.fromF ent frm nums) hj
theorem Fl.idL_set {m j : Nat} (hj : j < m) : (Fl.idL m j).set j j = Fl.idL m (j + 1) := Fl.map_if_set (f := fun i => i) hj
theorem Fl.fromL_one (ent : List Nat) (frm : List Int) (nums : List Nat) : Fl.fromL ent frm nums 0 = Fl.fromL ent frm nums 1 := by
  unfold Fl.fromL
  apply List.map_congr_left
  intro i _
  rw [if_neg (by omega)]
  by_cases h : i < 1
  · rw [if_pos h, show i = 0 by omega]; rfl
  · rw [if_neg h]
theorem Fl.fromL_zero {ent : List Nat} {frm : List Int} {nums : List Nat} {m : Nat} (h : ent.length = m) : Fl.fromL ent frm nums 0 = List.replicate m 0 := by
  rw [← h]; exact Fl.map_if_zero _ (Fl.fromF ent frm nums)
theorem Fl.idL_zero (m : Nat) : Fl.idL m 0 = List.replicate m 0 := Fl.map_if_zero m (fun i => i)
theorem Fl.fromL_all {ent : List Nat} {frm : List Int} {nums : List Nat} {m : Nat} (h : ent.length = m) : Fl.fromL ent frm nums m = (List.range m).map (Fl.fromF ent frm nums) := by
  rw [← h]; exact Fl.map_if_all _ (Fl.fromF ent frm nums)
theorem Fl.idL_all (m : Nat) : Fl.idL m m = List.range m := (Fl.map_if_all m (fun i => i)).trans (List.map_id' _)
theorem Fl.fromL_len (ent : List Nat) (frm : List Int) (nums : List Nat) (j : Nat) : (Fl.fromL ent frm nums j).length = ent.length := by simp [Fl.fromL]

section
variable {w : World} {bc b0 b1 b2 b3 m : Nat} {ent : List Nat} {frm : List Int} {nums : List Nat} {j : Nat} {W : World}
def ClimbH (w : World) (bc b0 b1 b2 b3 m : Nat) (ent : List Nat) (frm : List Int) (nums : List Nat) (j k : Nat) (W : World) : Prop :=
  ClimbG w.heap.size bc b0 b1 b2 b3 m (Fl.fromL ent frm nums k) (Fl.fromL ent frm nums j) (Fl.idL m (j + 1)) (Fl.idL m (j + 1)) (.slice none 0 0) W ∧ Below w.heap.size w W
theorem ClimbJ.one (h : ClimbJ w bc b0 b1 b2 b3 m ent frm nums j W) (hj : j < m) : ClimbH w bc b0 b1 b2 b3 m ent frm nums j j ((W.setCell ⟨b2, j, none⟩ (I (j : Int))).setCell ⟨b3, j, none⟩ (I (j : Int))).drew := by
  obtain ⟨h1, h2⟩ := h
  have h3 := ((h1.set2 j j).set3 j j)
  rw [Fl.idL_set hj] at h3
  exact ⟨h3.heap rfl, ((h2.setCell (p := ⟨b2, j, none⟩) h1.l2 _).setCell (p := ⟨b3, j, none⟩) h1.l3 _).drew⟩
theorem ClimbH.two (h : ClimbH w bc b0 b1 b2 b3 m ent frm nums j j W) (hj : j < m) (hm : ent.length = m) {x : Nat} (hx : x = Fl.fromF ent frm nums j) : ClimbH w bc b0 b1 b2 b3 m ent frm nums j (j + 1) (W.setCell ⟨b0, j, none⟩ (I (x : Int))).drew := by
  obtain ⟨h1, h2⟩ := h
  have h3 := h1.set0 j x
  rw [hx, Fl.fromL_set (by omega)] at h3
  rw [hx]
  exact ⟨h3.heap rfl, (h2.setCell (p := ⟨b0, j, none⟩) h1.l0 _).drew⟩
theorem ClimbH.three (h : ClimbH w bc b0 b1 b2 b3 m ent frm nums j (j + 1) W) (hj : j < m) (hm : ent.length = m) {x : Nat} (hx : x = Fl.fromF ent frm nums j) : ClimbJ w bc b0 b1 b2 b3 m ent frm nums (j + 1) (W.setCell ⟨b1, j, none⟩ (I (x : Int))).drew := by
  obtain ⟨h1, h2⟩ := h
  have h3 := h1.set1 j x
  rw [hx, Fl.fromL_set (by omega)] at h3
  rw [hx]
  exact ⟨h3.heap rfl, (h2.setCell (p := ⟨b1, j, none⟩) h1.l1 _).drew⟩
theorem ClimbH.at0 (h : ClimbH w bc b0 b1 b2 b3 m ent frm nums j (j + 1) W) (hj : j < m) (hm : ent.length = m) {x : Nat} (hx : x = Fl.fromF ent frm nums j) : W.cell? ⟨b0, j, none⟩ = some (I (x : Int)) := by
  refine h.1.k0.get j _ ?_
  rw [hx]
  have e : (Fl.fromL ent frm nums (j + 1))[j]? = some (Fl.fromF ent frm nums j) := by
    unfold Fl.fromL
    rw [List.getElem?_map, List.getElem?_range (by omega)]
    simp
  simp [e]
theorem ClimbH.zero (h : ClimbH w bc b0 b1 b2 b3 m ent frm nums 0 0 W) : ClimbH w bc b0 b1 b2 b3 m ent frm nums 0 (0 + 1) W := by
  unfold ClimbH at h ⊢
  rw [← Fl.fromL_one]
  exact h
theorem ClimbG.facts {fr up hf ls : List Nat} {pv : Value} {base : Nat} (h : ClimbG base bc b0 b1 b2 b3 m fr up hf ls pv W) :
    (W.cell? ⟨bc, 0, none⟩ = some (.slice (some ⟨b0, 0, none⟩) m m) ∧ W.cell? ⟨bc, 1, none⟩ = some (.slice (some ⟨b1, 0, none⟩) m m) ∧ W.cell? ⟨bc, 2, none⟩ = some (.slice (some ⟨b2, 0, none⟩) m m) ∧ W.cell? ⟨bc, 3, none⟩ = some (.slice (some ⟨b3, 0, none⟩) m m)) ∧
    (∀ j, W.frozen? ⟨b0, j, none⟩ = false) ∧ (∀ j, W.frozen? ⟨b1, j, none⟩ = false) ∧ (∀ j, W.frozen? ⟨b2, j, none⟩ = false) ∧ (∀ j, W.frozen? ⟨b3, j, none⟩ = false) :=
  ⟨⟨h.blk.get 0 _ rfl, h.blk.get 1 _ rfl, h.blk.get 2 _ rfl, h.blk.get 3 _ rfl⟩, fun j => h.k0.free j, fun j => h.k1.free j, fun j => h.k2.free j, fun j => h.k3.free j⟩
theorem arrN_at {l : List Nat} {b : Nat} {T : Nat} (h : Blk b (arrN l) T W) {j : Nat} (hj : j < l.length) : W.cell? ⟨b, j, none⟩ = some (I ((l.getD j 0 : Nat) : Int)) := by
  refine h.get j _ ?_
  simp [hj]
end

theorem fourJ (w : World) (m : Nat) (ent : List Nat) (frm : List Int) (nums : List Nat) (hm : ent.length = m) (bc b0 b1 b2 b3 : Nat) (hc : bc = w.heap.size + 4) (h0 : w.heap.size ≤ b0 ∧ b0 < w.heap.size + 4) (h1 : w.heap.size ≤ b1 ∧ b1 < w.heap.size + 4) (h2 : w.heap.size ≤ b2 ∧ b2 < w.heap.size + 4) (h3 : w.heap.size ≤ b3 ∧ b3 < w.heap.size + 4)
    (n : b0 ≠ b1 ∧ b0 ≠ b2 ∧ b0 ≠ b3 ∧ b1 ≠ b2 ∧ b1 ≠ b3 ∧ b2 ≠ b3) :
    ClimbJ w bc b0 b1 b2 b3 m ent frm nums 0 (fourV w m (.slice (some ⟨b0, 0, none⟩) m m) (.slice (some ⟨b1, 0, none⟩) m m) (.slice (some ⟨b2, 0, none⟩) m m) (.slice (some ⟨b3, 0, none⟩) m m)) := by
  have h := fourG w m bc b0 b1 b2 b3 hc h0 h1 h2 h3 n
  unfold ClimbJ
  rw [Fl.fromL_zero hm, Fl.idL_zero]
  exact h

set_option maxRecDepth 100000 in
set_option maxHeartbeats 8000000 in
theorem newClimb_any (bw bf bn g m N cap : Nat) (ent : List Nat) (frm : List Int) (nums : List Nat) (hm : m ≤ 60000) (hN : N ≤ 60000) (w : World) (h : FromW w bw bf bn g m N cap ent frm nums) :
    Calls Try.prog 64 #[.pointer (some ⟨bw, 0, none⟩), .slice (some ⟨bn, 0, none⟩) N N] w fun e w' => ClimbT w m ent frm nums w' e := by
  have hmk := mkIn m (by omega)
  have c0 := h.c0
  have HH := Lib.hid h
  clear h
  go_enter Try.func64, Try.ntmps64
  go_upto_region 2 with (fail)
  go_cut [6] from 13 to 22 (fun p W => ClimbB w m ent frm nums p W)
  case first =>
    have HA := Lib.hid (fourJ w m ent frm nums HH.out.em)
    go_region
    all_goals (go_wp2_with fail; go_meet; case rel => exact ⟨_, _, _, _, _, rfl, HA.out _ _ _ _ _ (by omega) (by omega) (by omega) (by omega) (by omega) (by omega)⟩)
  case rest =>
    obtain ⟨bc, b0, b1, b2, b3, rfl, hW⟩ := hcut
    obtain ⟨W, rfl⟩ : ∃ W, W = wc := ⟨_, rfl⟩
    have H0 := Lib.hid hW
    clear hW c0
    go_wp2_with fail
    go_loopw [24] (fun iv wr => ClimbRel w bc b0 b1 b2 b3 m ent frm nums iv wr) (fun iv _ => m - (intOf iv).toNat)
    case atStart => exact ⟨0, Nat.zero_le _, rfl, H0.out⟩
    case round =>
      obtain ⟨j, hj, rfl, hJ⟩ := hrel
      obtain ⟨wo, rfl⟩ : ∃ wo : World, wo = wr := ⟨_, rfl⟩
      by_cases hlt : j < m
      · obtain ⟨⟨x0, x1, x2, x3⟩, f0, f1, f2, f3⟩ := hJ.1.facts
        clear x0 x1 f0 f1
        have y2 := f2 j
        have y3 := f3 j
        have n9 := hJ.1.nb.2.2.2.2.2
        have d1 : decide (j < m) = true := by simpa using hlt
        have d2 : (0 : Int) ≤ (j : Int) := by omega
        have d3 : (j : Int) < (m : Int) := by omega
        have z2 := arrN_at hJ.1.k2 (j := j) (by rw [hJ.1.e2]; exact hlt)
        have z3 := arrN_at hJ.1.k3 (j := j) (by rw [hJ.1.e3]; exact hlt)
        have H1 := Lib.hid (hJ.one hlt)
        have HL := Lib.hid (And.intro hlt hj)
        clear f2 f3 hJ hlt hj
        go_wp2_with fail
        go_region
        change Exit.then _ _ _ _ ((wo.setCell ⟨b2, j, none⟩ (I (j : Int))).setCell ⟨b3, j, none⟩ (I (j : Int))).drew
        obtain ⟨W1, hW1⟩ : ∃ W1, W1 = ((wo.setCell ⟨b2, j, none⟩ (I (j : Int))).setCell ⟨b3, j, none⟩ (I (j : Int))).drew := ⟨_, rfl⟩
        rw [← hW1] at H1 ⊢
        clear x2 x3 y2 y3 z2 z3 n9 hW1
        obtain ⟨⟨x0, x1, x2, x3⟩, f0, f1, f2, f3⟩ := H1.out.1.facts
        clear x2 x3 f2 f3
        have y1 := f1 j
        obtain ⟨x, hx⟩ : ∃ x, x = Fl.fromF ent frm nums j := ⟨_, rfl⟩
        by_cases h0 : j = 0
        · subst h0
          have H2 := Lib.hid (H1.out.zero)
          have z0 := ClimbH.at0 (H2.out) HL.out.1 HH.out.em hx
          have z1 := arrN_at H1.out.1.k1 (j := 0) (by rw [H1.out.1.e1]; exact HL.out.1)
          have d5 : 0 < m := HL.out.1
          have FIN := Lib.hid (H2.out.three HL.out.1 HH.out.em hx)
          clear hx f0 f1 H1
          go_wp2_with fail
          go_region
          go_wp2_with fail
          exact ⟨⟨0 + 1, HL.out.1, rfl, FIN.out⟩, by have := HL.out.1; simp [intOf]; omega⟩
        · have y0 := f0 j
          have d4 : decide (0 < j) = true := by simp; omega
          obtain ⟨a, ha⟩ : ∃ a, a = ent.getD j 0 := ⟨_, rfl⟩
          obtain ⟨q, hq⟩ : ∃ q : Nat, frm.getD a 0 = (q : Int) := ⟨(frm.getD a 0).toNat, by have := HH.out.fl j (by omega) HL.out.1; rw [← ha] at this; omega⟩
          have hqN : q < N := by have := (HH.out.fl j (by omega) HL.out.1).2; rw [← ha, hq] at this; omega
          have haN : a < N := by have := HH.out.el j HL.out.1; rw [← ha] at this; exact this
          have c0 := cell_below H1.out.2 HH.out.lw HH.out.c0
          have c2 := cell_below H1.out.2 HH.out.lw HH.out.c2
          have c3 := cell_below H1.out.2 HH.out.lg (HH.out.en j HL.out.1)
          have c4 := cell_below H1.out.2 HH.out.lf (HH.out.fm a haN)
          have c5 := cell_below H1.out.2 HH.out.ln (HH.out.nm q hqN)
          rw [← ha] at c3
          rw [hq] at c4
          have hxq : nums.getD q 0 = x := by
            rw [hx]
            unfold Fl.fromF
            rw [if_neg h0, ← ha, hq]
            rfl
          rw [hxq] at c5
          have z0 := arrN_at H1.out.1.k0 (j := j) (by rw [H1.out.1.e0]; exact HL.out.1)
          have d5 : (0 : Int) ≤ (a : Int) := by omega
          have d6 : (a : Int) < (N : Int) := by omega
          have d7 : (0 : Int) ≤ (q : Int) := by omega
          have d8 : (q : Int) < (N : Int) := by omega
          have H2 := Lib.hid (H1.out.two HL.out.1 HH.out.em hx)
          have HX := Lib.hid hx
          clear hx f0 f1 x1 y1 ha hq hqN haN hxq
          go_wp2_with fail
          go_region
          change Exit.then _ _ _ _ (W1.setCell ⟨b0, j, none⟩ (I (x : Int))).drew
          obtain ⟨W2, hW2⟩ : ∃ W2, W2 = (W1.setCell ⟨b0, j, none⟩ (I (x : Int))).drew := ⟨_, rfl⟩
          rw [← hW2] at H2 ⊢
          clear x0 y0 c0 c2 c3 c4 c5 z0 hW2 H1
          obtain ⟨⟨x0, x1, x2, x3⟩, f0, f1, f2, f3⟩ := H2.out.1.facts
          have y1 := f1 j
          clear x2 x3 f0 f1 f2 f3
          have z0 := ClimbH.at0 H2.out HL.out.1 HH.out.em HX.out
          have z1 := arrN_at H2.out.1.k1 (j := j) (by rw [H2.out.1.e1]; exact HL.out.1)
          have FIN := Lib.hid (H2.out.three HL.out.1 HH.out.em HX.out)
          go_wp2_with fail
          go_region
          go_wp2_with fail
          exact ⟨⟨j + 1, HL.out.1, rfl, FIN.out⟩, by have := HL.out.1; simp [intOf]; omega⟩
      · have d1 : decide (j < m) = false := by simpa using hlt
        have FIN := Lib.hid (show ClimbT w m ent frm nums wo (.returned (.pointer (some ⟨bc, 0, none⟩))) by
          have he : j = m := by omega
          rw [he] at hJ
          obtain ⟨h1, h2⟩ := hJ
          rw [Fl.fromL_all HH.out.em, Fl.idL_all] at h1
          exact ⟨bc, b0, b1, b2, b3, rfl, h1, h2⟩)
        clear hJ hlt hj
        go_wp2_with fail
        go_ret
        exact FIN.out
end Go.Proofs.Ytjlmkcamefaodaa

/-! FLow: The one with the least half way of those that go up: plainly, and what lies in memory. -/

namespace Go.Proofs.Ytjlmkcamefaodaa
open Go Go.RowKit Fl

namespace Fl
/-- The numbers from n up, as long as the next isn't below first; and where that ends. -/
def pathF (up : List Nat) (first : Nat) : Nat → Nat → List Nat × Nat
  | 0, n => ([], n)
  | F + 1, n => if first ≤ up.getD n 0 then (n :: (pathF up first F (up.getD n 0)).1, (pathF up first F (up.getD n 0)).2) else ([], n)
/-- The way made short: the numbers b from the farthest down. -/
def comp (half : List Nat) : List Nat → List Nat → List Nat → Nat → List Nat × List Nat × Nat
  | [], up, ls, n => (up, ls, n)
  | b :: r, up, ls, n => comp half r (up.set b (up.getD n 0)) (if half.getD (ls.getD n 0) 0 < half.getD (ls.getD b 0) 0 then ls.set b (ls.getD n 0) else ls) b
def lowF (up half ls : List Nat) (first n : Nat) : List Nat × List Nat × Nat := comp half (pathF up first (n + 1) n).1.reverse up ls (pathF up first (n + 1) n).2

/-- Every number goes up to a lesser one, 0 to itself. -/
def UpOk (m : Nat) (up : List Nat) : Prop := up.length = m ∧ (∀ i, 0 < i → i < m → up.getD i 0 < i) ∧ up.getD 0 0 = 0
def LsOk (m : Nat) (ls : List Nat) : Prop := ls.length = m ∧ ∀ i, i < m → ls.getD i 0 < m

/-- How far a path is gone. -/
def PathAt (up : List Nat) (first : Nat) (P : List Nat) (R : Nat) (acc : List Nat) (n : Nat) : Prop := ∃ F, n < F ∧ acc ++ (pathF up first F n).1 = P ∧ (pathF up first F n).2 = R
theorem path_start (up : List Nat) (first n : Nat) : PathAt up first (pathF up first (n + 1) n).1 (pathF up first (n + 1) n).2 [] n := ⟨n + 1, by omega, rfl, rfl⟩
theorem path_step {m : Nat} {up : List Nat} {first : Nat} {P : List Nat} {R : Nat} {acc : List Nat} {n : Nat} (hu : UpOk m up) (hn : n < m) (hf : 0 < first) (h : PathAt up first P R acc n) (hge : first ≤ up.getD n 0) : PathAt up first P R (acc ++ [n]) (up.getD n 0) ∧ up.getD n 0 < n := by
  have hpos : 0 < n := by
    rcases Nat.eq_zero_or_pos n with e | e
    · rw [e, hu.2.2] at hge; omega
    · exact e
  have hlt := hu.2.1 n hpos hn
  obtain ⟨F, h1, h2, h3⟩ := h
  obtain ⟨F', rfl⟩ : ∃ F', F = F' + 1 := ⟨F - 1, by omega⟩
  unfold pathF at h2 h3
  rw [if_pos hge] at h2 h3
  exact ⟨⟨F', by omega, by rw [← h2]; simp, h3⟩, hlt⟩
theorem path_end {up : List Nat} {first : Nat} {P : List Nat} {R : Nat} {acc : List Nat} {n : Nat} (h : PathAt up first P R acc n) (hlt : ¬ first ≤ up.getD n 0) : acc = P ∧ n = R := by
  obtain ⟨F, h1, h2, h3⟩ := h
  obtain ⟨F', rfl⟩ : ∃ F', F = F' + 1 := ⟨F - 1, by omega⟩
  unfold pathF at h2 h3
  rw [if_neg hlt] at h2 h3
  exact ⟨by simpa using h2, h3⟩
/-- How far a way is made short. -/
def CompAt (half P : List Nat) (Z : List Nat × List Nat × Nat) (k : Nat) (up ls : List Nat) (n : Nat) : Prop := comp half (P.take k).reverse up ls n = Z
theorem comp_start (half P up ls : List Nat) (R : Nat) : CompAt half P (comp half P.reverse up ls R) P.length up ls R := by
  unfold CompAt
  rw [List.take_length]
theorem comp_step {half P : List Nat} {Z : List Nat × List Nat × Nat} {k : Nat} {up ls : List Nat} {n b : Nat} (h : CompAt half P Z (k + 1) up ls n) (hk : k < P.length) (hb : P.getD k 0 = b) :
    CompAt half P Z k (up.set b (up.getD n 0)) (if half.getD (ls.getD n 0) 0 < half.getD (ls.getD b 0) 0 then ls.set b (ls.getD n 0) else ls) b := by
  unfold CompAt at h ⊢
  have e : P.take (k + 1) = P.take k ++ [b] := by
    rw [List.take_add_one, List.getElem?_eq_getElem hk, ← hb, getD_of P k 0 hk]
    rfl
  rw [e, List.reverse_append] at h
  exact h
theorem comp_end {half P : List Nat} {Z : List Nat × List Nat × Nat} {up ls : List Nat} {n : Nat} (h : CompAt half P Z 0 up ls n) : Z = (up, ls, n) := by
  unfold CompAt at h
  rw [← h]
  rfl
end Fl

/-- A value's block is none of five. -/
def Apart5 (v : Value) (a b c d e : Nat) : Prop := some a ≠ v.ownBlock ∧ some b ≠ v.ownBlock ∧ some c ≠ v.ownBlock ∧ some d ≠ v.ownBlock ∧ some e ≠ v.ownBlock
/-- What is as it was, but for a climb's own. -/
structure KeptC (bc b1 b3 : Nat) (pv0 pv : Value) (W0 W : World) : Prop where
  k : ∀ k, k < W0.heap.size → k ≠ bc → k ≠ b1 → k ≠ b3 → some k ≠ pv0.ownBlock → W.heap[k]? = W0.heap[k]?
  at' : pv.ownBlock = pv0.ownBlock ∨ ∃ g, pv.ownBlock = some g ∧ W0.heap.size ≤ g
  size : W0.heap.size ≤ W.heap.size
  misc : W.os = W0.os ∧ W.tape = W0.tape ∧ W.output = W0.output
/-- A climb with the path it has gone. -/
structure ClimbP (base bc b0 b1 b2 b3 m : Nat) (fr up hf ls : List Nat) (pv0 pv : Value) (l : List Nat) (W0 W : World) : Prop where
  g : ClimbG base bc b0 b1 b2 b3 m fr up hf ls pv W
  o : Nums W base pv l
  a : Apart5 pv bc b0 b1 b2 b3
  kp : KeptC bc b1 b3 pv0 pv W0 W

section
variable {base bc b0 b1 b2 b3 m : Nat} {fr up hf ls l : List Nat} {pv0 pv : Value} {W0 W : World}
theorem KeptC.set {b : Nat} (h : KeptC bc b1 b3 pv0 pv W0 W) (hb : b = bc ∨ b = b1 ∨ b = b3) (j : Nat) (u : Value) : KeptC bc b1 b3 pv0 pv W0 (W.setCell ⟨b, j, none⟩ u) :=
  ⟨fun k hk h1 h2 h3 h4 => (Below.heap_setCell _ _ _ _ (by show k ≠ b; rcases hb with e | e | e <;> (rw [e]; assumption))).trans (h.k k hk h1 h2 h3 h4), h.at', by have := h.size; simpa using this, h.misc⟩
theorem ClimbP.drew (h : ClimbP base bc b0 b1 b2 b3 m fr up hf ls pv0 pv l W0 W) : ClimbP base bc b0 b1 b2 b3 m fr up hf ls pv0 pv l W0 W.drew :=
  ⟨h.g.heap rfl, own_heap h.o rfl, h.a, h.kp.k, h.kp.at', h.kp.size, h.kp.misc⟩
theorem ClimbP.set1 (h : ClimbP base bc b0 b1 b2 b3 m fr up hf ls pv0 pv l W0 W) (j x : Nat) : ClimbP base bc b0 b1 b2 b3 m fr (up.set j x) hf ls pv0 pv l W0 (W.setCell ⟨b1, j, none⟩ (I (x : Int))) :=
  ⟨h.g.set1 j x, own_set h.o h.a.2.2.1, h.a, h.kp.set (Or.inr (Or.inl rfl)) _ _⟩
theorem ClimbP.set3 (h : ClimbP base bc b0 b1 b2 b3 m fr up hf ls pv0 pv l W0 W) (j x : Nat) : ClimbP base bc b0 b1 b2 b3 m fr up hf (ls.set j x) pv0 pv l W0 (W.setCell ⟨b3, j, none⟩ (I (x : Int))) :=
  ⟨h.g.set3 j x, own_set h.o h.a.2.2.2.2, h.a, h.kp.set (Or.inr (Or.inr rfl)) _ _⟩
theorem own_cut {w : World} {g n c : Nat} (h : Nums w base (.slice (some ⟨g, 0, none⟩) n c) l) : Nums w base (.slice (some ⟨g, 0, none⟩) 0 c) [] := by
  refine ⟨rfl, ?_⟩
  rcases h.2 with ⟨h, _⟩ | ⟨g', cap', cur, h, hb, hh, h1, h2, h3, h4⟩
  · simp at h
  · simp only [Value.slice.injEq, Option.some.injEq, Addr.mk.injEq, and_true, true_and] at h
    obtain ⟨rfl, _, rfl⟩ := h
    exact .inr ⟨g, c, cur, rfl, hb, hh, Nat.zero_le _, h2, h3, by simp⟩
theorem ClimbP.cut {g n c : Nat} (h : ClimbP base bc b0 b1 b2 b3 m fr up hf ls pv0 (.slice (some ⟨g, 0, none⟩) n c) l W0 W) : ClimbP base bc b0 b1 b2 b3 m fr up hf ls pv0 (.slice (some ⟨g, 0, none⟩) 0 c) [] W0 (W.setCell ⟨bc, 4, none⟩ (.slice (some ⟨g, 0, none⟩) 0 c)) :=
  ⟨h.g.setP _, own_set (own_cut h.o) h.a.1, h.a, (h.kp.set (b := bc) (Or.inl rfl) _ _).k, h.kp.at', (h.kp.set (b := bc) (Or.inl rfl) 4 (.slice (some ⟨g, 0, none⟩) 0 c)).size, h.kp.misc⟩
theorem ClimbP.cutNil (h : ClimbP base bc b0 b1 b2 b3 m fr up hf ls pv0 (.slice none 0 0) l W0 W) : ClimbP base bc b0 b1 b2 b3 m fr up hf ls pv0 (.slice none 0 0) [] W0 (W.setCell ⟨bc, 4, none⟩ (.slice none 0 0)) :=
  ⟨h.g.setP _, World.ownsRow_nil _ _ _ _, h.a, (h.kp.set (b := bc) (Or.inl rfl) _ _).k, h.kp.at', (h.kp.set (b := bc) (Or.inl rfl) 4 (.slice none 0 0)).size, h.kp.misc⟩
theorem ClimbP.app {o : Obj} {w4 : World} {u : Value} {a : Nat} (h : ClimbP base bc b0 b1 b2 b3 m fr up hf ls pv0 pv l W0 W) (hg : (W.alloc o).grownBy w4 pv.ownBlock) (ho : Nums w4 base u (l ++ [a])) (hat : u.ownBlock = pv.ownBlock ∨ u.ownBlock = some (W.alloc o).heap.size) :
    ClimbP base bc b0 b1 b2 b3 m fr up hf ls pv0 u (l ++ [a]) W0 (w4.setCell ⟨bc, 4, none⟩ u) := by
  have hat' : u.ownBlock = pv.ownBlock ∨ ∃ g, u.ownBlock = some g ∧ W.heap.size ≤ g := by
    rcases hat with e | e
    · exact Or.inl e
    · exact Or.inr ⟨_, e, by simp⟩
  have ap : ∀ b, some b ≠ pv.ownBlock → b < W.heap.size → some b ≠ u.ownBlock := fun b hb hl => own_apart h.o hb hl (Nat.le_refl _) hat'
  have q : Apart5 u bc b0 b1 b2 b3 := ⟨ap _ h.a.1 h.g.blk.lt, ap _ h.a.2.1 h.g.k0.lt, ap _ h.a.2.2.1 h.g.k1.lt, ap _ h.a.2.2.2.1 h.g.k2.lt, ap _ h.a.2.2.2.2 h.g.k3.lt⟩
  have hG : ClimbG base bc b0 b1 b2 b3 m fr up hf ls pv w4 := (h.g.grown (World.grownBy_alloc W o Option.none) (by simp) (by simp) (by simp) (by simp) (by simp)).grown hg h.a.1 h.a.2.1 h.a.2.2.1 h.a.2.2.2.1 h.a.2.2.2.2
  have hs : W.heap.size ≤ w4.heap.size := by have := hg.size; simp at this; omega
  refine ⟨hG.setP u, own_set ho q.1, q, fun k hk h1 h2 h3 h4 => ?_, ?_, ?_, ?_⟩
  · have hkW : k < W.heap.size := Nat.lt_of_lt_of_le hk h.kp.size
    have hne : some k ≠ pv.ownBlock := by
      rcases h.kp.at' with e | ⟨g, e, hge⟩
      · rw [e]; exact h4
      · rw [e]; simp; omega
    refine (Below.heap_setCell _ _ _ _ h1).trans ((hg.block k (by simp; omega) hne).trans ?_)
    exact ((World.grownBy_alloc W o Option.none).block k hkW (by simp)).trans (h.kp.k k hk h1 h2 h3 h4)
  · rcases hat' with e | ⟨g, e, hge⟩
    · rw [e]; exact h.kp.at'
    · exact Or.inr ⟨g, e, Nat.le_trans h.kp.size hge⟩
  · have := h.kp.size; simp; omega
  · exact ⟨hg.os.trans h.kp.misc.1, hg.tape.trans h.kp.misc.2.1, hg.output.trans h.kp.misc.2.2⟩
end
end Go.Proofs.Ytjlmkcamefaodaa
