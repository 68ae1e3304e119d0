/-
  What an Op names, by the document's answer; and which instructions are right, by both.
-/
import Derived.Test.YtepnjhbolaebmaaDoorIbS
import Derived.Test.YtepnjhbolaebmaaDoorIbK
import Derived.Test.YtepnjhbolaebmaaDoorCdM
import Derived.Below
import Derived.Laws.Rows
import Derived.RegionTactic
import Derived.Deep.Cut
namespace Go.Proofs.YtepnjhbolaebmaaDoor
open Go Go.RowKit Ib

def objR : Obj := .cells #[I 1, I 2, I 1, I 1, I 3, I 3, I 2, I 1, I 1, I 1, I 1, I 1, I 1, I 1, I 0, I 0, I 1, I 1, I 1] 3
def objI : Obj := .cells #[.bool true, .bool false, .bool true, .bool true, .bool false, .bool false, .bool false, .bool true, .bool false, .bool false, .bool false, .bool true, .bool false, .bool false, .bool true, .bool true, .bool true, .bool false, .bool true] 4
theorem objR_cell (w : World) (j : Nat) (h : j < 19) : ((w.alloc objR).alloc objI).cell? ⟨w.heap.size, j, none⟩ = some (I ((regsT.getD j 0 : Nat) : Int)) := by
  unfold objR
  rw [World.cell?_alloc_past _ _ _ (by show w.heap.size < _; simp), cell_of_row _ _ _ _ _ _ (heap_alloc_new w _)]
  match j, h with
  | 0, _ => rfl
  | 1, _ => rfl
  | 2, _ => rfl
  | 3, _ => rfl
  | 4, _ => rfl
  | 5, _ => rfl
  | 6, _ => rfl
  | 7, _ => rfl
  | 8, _ => rfl
  | 9, _ => rfl
  | 10, _ => rfl
  | 11, _ => rfl
  | 12, _ => rfl
  | 13, _ => rfl
  | 14, _ => rfl
  | 15, _ => rfl
  | 16, _ => rfl
  | 17, _ => rfl
  | 18, _ => rfl
  | n + 19, h => exact absurd h (by omega)
theorem objI_cell (w : World) (j : Nat) (h : j < 19) : ((w.alloc objR).alloc objI).cell? ⟨w.heap.size + 1, j, none⟩ = some (.bool (immT.getD j false)) := by
  have hb : ((w.alloc objR).alloc objI).heap[w.heap.size + 1]? = some objI := by
    have := heap_alloc_new (w.alloc objR) objI
    simpa using this
  unfold objI at hb ⊢
  rw [cell_of_row _ _ _ _ _ _ hb]
  match j, h with
  | 0, _ => rfl
  | 1, _ => rfl
  | 2, _ => rfl
  | 3, _ => rfl
  | 4, _ => rfl
  | 5, _ => rfl
  | 6, _ => rfl
  | 7, _ => rfl
  | 8, _ => rfl
  | 9, _ => rfl
  | 10, _ => rfl
  | 11, _ => rfl
  | 12, _ => rfl
  | 13, _ => rfl
  | 14, _ => rfl
  | 15, _ => rfl
  | 16, _ => rfl
  | 17, _ => rfl
  | 18, _ => rfl
  | n + 19, h => exact absurd h (by omega)
def nmT (op : Nat) (e : Ending) : Prop := (names op = none ∧ e = .returned (.tuple #[I (-1), .bool false])) ∨ ∃ n im, names op = some (n, im) ∧ e = .returned (.tuple #[I (n : Int), .bool im])
theorem nmT_none {op : Nat} (h : ¬ (1 ≤ op ∧ op ≤ 16)) (h2 : ¬ (19 ≤ op ∧ op ≤ 21)) (h3 : op < 30 ∨ 48 < op) : nmT op (.returned (.tuple #[I (-1), .bool false])) :=
  Or.inl ⟨by unfold names; rw [if_neg h, if_neg h2, if_pos h3], rfl⟩
theorem nmT_low {op : Nat} (h : 1 ≤ op ∧ op ≤ 16) : nmT op (.returned (.tuple #[I 3, .bool false])) := Or.inr ⟨3, false, by unfold names; rw [if_pos h], rfl⟩
theorem nmT_mid {op : Nat} (h : 19 ≤ op ∧ op ≤ 21) : nmT op (.returned (.tuple #[I 2, .bool false])) := Or.inr ⟨2, false, by unfold names; rw [if_neg (by omega), if_pos h], rfl⟩

set_option maxRecDepth 100000 in
set_option maxHeartbeats 1600000 in
theorem names_any (op : Nat) (ho : op < 256) (w : World) : Calls Tryd.prog 76 #[B8 op] w fun e w' => nmT op e ∧ Below w.heap.size w w' := by
  have HB := Lib.hid (((Below.refl w.heap.size w).alloc (Nat.le_refl _) objR).alloc (by simp) objI)
  have HB0 := Lib.hid (Below.refl w.heap.size w)
  by_cases h1 : 30 ≤ op ∧ op ≤ 48
  · obtain ⟨j, rfl⟩ : ∃ j, op = j + 30 := ⟨op - 30, by omega⟩
    have hj : j < 19 := by omega
    have c1 := objR_cell w j hj
    have c2 := objI_cell w j hj
    have h3 : nmT (j + 30) (.returned (.tuple #[I ((regsT.getD j 0 : Nat) : Int), .bool (immT.getD j false)])) := Or.inr ⟨_, _, by unfold names; rw [if_neg (by omega), if_neg (by omega), if_neg (by omega), show j + 30 - 30 = j by omega], rfl⟩
    obtain ⟨r, hr⟩ : ∃ r, r = regsT.getD j 0 := ⟨_, rfl⟩
    obtain ⟨b, hb⟩ : ∃ b, b = immT.getD j false := ⟨_, rfl⟩
    rw [← hr] at c1 h3
    rw [← hb] at c2 h3
    have HN := Lib.hid h3
    obtain ⟨W, hW⟩ : ∃ W, W = (w.alloc objR).alloc objI := ⟨_, rfl⟩
    rw [← hW] at c1 c2 HB
    have HW := Lib.hid hW
    clear hW h1 h3 hr hb
    go_enter Tryd.func76, Tryd.ntmps76
    go_upto_region 9 with (fail)
    all_goals first | (exfalso; omega) | skip
    change Code.wp _ _ _ _ ((w.alloc objR).alloc objI)
    rw [← HW.out]
    have e1 : IntKind.u8.wrap (((j + 30 : Nat) : Int) - 30) = (j : Int) := by
      rw [show ((j + 30 : Nat) : Int) - 30 = (j : Int) by omega]
      exact IntWalk.u8_in _ ⟨by omega, by omega⟩
    have e2 : (0 : Int) ≤ (j : Int) := by omega
    have e3 : (j : Int) < 19 := by omega
    go_quiet (fail)
    go_wp2_with fail
    go_ret2
    exact ⟨HN.out, ⟨HB.out.os, HB.out.tape, HB.out.output, HB.out.size, HB.out.block⟩⟩
  · clear HB
    go_enter Tryd.func76, Tryd.ntmps76
    go_wp2_with fail
    all_goals first | (exfalso; omega) | skip
    all_goals go_ret2
    all_goals refine ⟨?_, HB0.out⟩
    all_goals first | exact nmT_low (by omega) | exact nmT_mid (by omega) | exact nmT_none (by omega) (by omega) (by omega)

/-! Which instructions are right. -/
abbrev wV (w : Wd) : Value := .agg #[B8 w.op, B8 w.a, B8 w.b, B8 w.c, I w.imm]
def regB (n i r : Nat) : Prop := (i < n → r ≤ 15) ∧ (n ≤ i → r = 0)
theorem regOk_iff (w : Wd) {n : Nat} (hn : n ≤ 3) : RegOk w n ↔ regB n 0 w.a ∧ regB n 1 w.b ∧ regB n 2 w.c := by
  unfold RegOk regB
  omega
def FmT (x : Wd) (w : World) (W : World) (e : Ending) : Prop := ∃ b, e = .returned (.bool b) ∧ (b = true ↔ FormW x) ∧ Below w.heap.size w W
def FoR (n : Nat) (x : Wd) (W1 : World) (iv : Value) (W : World) : Prop := ∃ i : Nat, i ≤ 3 ∧ iv = I (i : Int) ∧ (0 < i → regB n 0 x.a) ∧ (1 < i → regB n 1 x.b) ∧ (2 < i → regB n 2 x.c) ∧ W = W1

set_option maxRecDepth 100000 in
set_option maxHeartbeats 3200000 in
theorem form_any (x : Wd) (hx : WfW x) (w : World) : Calls Tryd.prog 57 #[wV x] w fun e w' => FmT x w w' e := by
  obtain ⟨xo, xa, xb, xc, xi⟩ := x
  have hxb : (xa : Int) < 256 ∧ (xb : Int) < 256 ∧ (xc : Int) < 256 := by have := hx.2; simp at this; omega
  obtain ⟨hxa, hxb, hxc⟩ := hxb
  obtain ⟨W0, hW0⟩ : ∃ W, W = w.alloc (.cells #[B8 xo, B8 xa, B8 xb, B8 xc, I xi] 69) := ⟨_, rfl⟩
  obtain ⟨b1, hb1⟩ : ∃ b, b = w.heap.size := ⟨_, rfl⟩
  have hB0 : Below w.heap.size w W0 := by rw [hW0]; exact (Below.refl _ _).alloc (Nat.le_refl _) _
  have k1 : Blk b1 #[B8 xo, B8 xa, B8 xb, B8 xc, I xi] 69 W0 := by rw [hW0, hb1]; exact Blk.new _ _ _
  have HC := Lib.hid (shapeOf_any xo W0)
  have x0 := k1.get 0 (B8 xo) rfl
  have HW0 := Lib.hid (And.intro hW0 hb1)
  have H0 := Lib.hid (And.intro hB0 k1)
  clear hW0 hb1 hB0 k1 hx
  go_enter Tryd.func57, Tryd.ntmps57
  go_upto_region 1 with (fail)
  rw [← HW0.out.2]
  change Code.wp _ _ _ _ (w.alloc (.cells #[B8 xo, B8 xa, B8 xb, B8 xc, I xi] 69))
  rw [← HW0.out.1]
  go_wp2_with fail
  refine HC.out.mono ?_
  rintro e w1 ⟨hsh, hb1⟩
  rcases hsh with ⟨hno, rfl⟩ | ⟨n, im, hnm, rfl⟩
  · have hB2 : Below w.heap.size w (w1.alloc (.cells #[I 0, I 0, I 0] 174)) := (below_tr H0.out.1 hb1).alloc (Nat.le_trans H0.out.1.size hb1.size) _
    have HF := Lib.hid (show FmT ⟨xo, xa, xb, xc, xi⟩ w (w1.alloc (.cells #[I 0, I 0, I 0] 174)) (.returned (.bool false)) from ⟨false, rfl, (by
      simp only [Bool.false_eq_true, false_iff]
      rintro ⟨n, im, h, _⟩
      rw [hno] at h
      injection h), hB2⟩)
    clear hno hb1 hB2 x0
    go_wp2_with fail
    go_ret
    exact HF.out
  · obtain ⟨W2, hW2⟩ : ∃ W, W = w1.alloc (.cells #[I (n : Int), I (least xo), I (most xo)] 174) := ⟨_, rfl⟩
    obtain ⟨b2, hb2⟩ : ∃ b, b = w1.heap.size := ⟨_, rfl⟩
    have hB2 : Below w1.heap.size w1 W2 := by rw [hW2]; exact (Below.refl _ _).alloc (Nat.le_refl _) _
    have k2 : Blk b2 #[I (n : Int), I (least xo), I (most xo)] 174 W2 := by rw [hW2, hb2]; exact Blk.new _ _ _
    have k1 : Blk b1 #[B8 xo, B8 xa, B8 xb, B8 xc, I xi] 69 W2 := (H0.out.2.below hb1 H0.out.2.lt).below hB2 (Nat.lt_of_lt_of_le H0.out.2.lt hb1.size)
    have hB := below_tr (below_tr H0.out.1 hb1) hB2
    have hn3 := names_le hnm
    have hiff : FormW ⟨xo, xa, xb, xc, xi⟩ ↔ (regB n 0 xa ∧ regB n 1 xb ∧ regB n 2 xc) ∧ least xo ≤ xi ∧ xi ≤ most xo := by
      have h1 := regOk_iff ⟨xo, xa, xb, xc, xi⟩ hn3.1
      constructor
      · rintro ⟨n', im', e, h2, h3, h4⟩
        have e' : names xo = some (n', im') := e
        rw [hnm] at e'
        cases e'
        exact ⟨h1.1 h2, h3, h4⟩
      · rintro ⟨h2, h3, h4⟩
        exact ⟨n, im, hnm, h1.2 h2, h3, h4⟩
    have HNO := Lib.hid (show ¬ (regB n 0 xa ∧ regB n 1 xb ∧ regB n 2 xc) → FmT ⟨xo, xa, xb, xc, xi⟩ w W2 (.returned (.bool false)) from fun hno => ⟨false, rfl, by simp only [Bool.false_eq_true, false_iff]; exact fun h => hno (hiff.1 h).1, hB⟩)
    have HX := Lib.hid (show ∀ i : Nat, i < 3 → (0 < i → regB n 0 xa) → (1 < i → regB n 1 xb) → (2 < i → regB n 2 xc) → regB n i ([xa, xb, xc].getD i 0) → FoR n ⟨xo, xa, xb, xc, xi⟩ W2 (I ((i : Int) + 1)) W2 from fun i hi h0 h1 h2 h3 => ⟨i + 1, by omega, rfl, by
      intro _; by_cases e : i = 0
      · subst e; exact h3
      · exact h0 (by omega), by
      intro _; by_cases e : i = 1
      · subst e; exact h3
      · exact h1 (by omega), by
      intro _; by_cases e : i = 2
      · subst e; exact h3
      · exact h2 (by omega), rfl⟩)
    have HST := Lib.hid (show FoR n ⟨xo, xa, xb, xc, xi⟩ W2 (I 0) W2 from ⟨0, by omega, rfl, fun h => absurd h (by omega), fun h => absurd h (by omega), fun h => absurd h (by omega), rfl⟩)
    have HW2 := Lib.hid (And.intro hW2 hb2)
    have HE := Lib.hid (And.intro hiff hB)
    have y1 := k1.get 1 (B8 xa) rfl
    have y2 := k1.get 2 (B8 xb) rfl
    have y3 := k1.get 3 (B8 xc) rfl
    have y4 := k1.get 4 (I xi) rfl
    have z0 := k2.get 0 (I (n : Int)) rfl
    have z1 := k2.get 1 (I (least xo)) rfl
    have z2 := k2.get 2 (I (most xo)) rfl
    obtain ⟨lo, hlo⟩ : ∃ l, l = least xo := ⟨_, rfl⟩
    obtain ⟨hi, hhi⟩ : ∃ l, l = most xo := ⟨_, rfl⟩
    have hn0 : (n : Int) ≤ 3 := by omega
    rw [← hlo] at z1 HW2 HE ⊢
    rw [← hhi] at z2 HW2 HE ⊢
    clear hnm hb1 hW2 hb2 hB2 k2 k1 hB hn3 hiff x0 hlo hhi
    go_upto_region 2 with (fail)
    rw [← HW2.out.2]
    change Code.wp _ _ _ _ (w1.alloc (.cells #[I (n : Int), I lo, I hi] 174))
    rw [← HW2.out.1]
    go_wp2_with fail
    go_loopw [22] (fun iv W => FoR n ⟨xo, xa, xb, xc, xi⟩ W2 iv W) (fun iv _ => 3 - (intOf iv).toNat)
    case atStart => exact HST.out
    case round =>
    obtain ⟨i, hi3, rfl, hr0, hr1, hr2, rfl⟩ := hrel
    clear HST
    have i0 : ∀ w, (Instr.index 177 (.agg #[B8 xa, B8 xb, B8 xc]) (.int .i64 0)).run Tryd.prog w = .ok (B8 xa) w := fun _ => by kernel_rfl
    have i1 : ∀ w, (Instr.index 177 (.agg #[B8 xa, B8 xb, B8 xc]) (.int .i64 1)).run Tryd.prog w = .ok (B8 xb) w := fun _ => by kernel_rfl
    have i2 : ∀ w, (Instr.index 177 (.agg #[B8 xa, B8 xb, B8 xc]) (.int .i64 2)).run Tryd.prog w = .ok (B8 xc) w := fun _ => by kernel_rfl
    have hc : i = 0 ∨ i = 1 ∨ i = 2 ∨ i = 3 := by omega
    clear hi3
    rcases hc with rfl | rfl | rfl | rfl
    · have HN := Lib.hid (fun hr : regB n 0 xa => HX.out 0 (by omega) hr0 hr1 hr2 hr)
      have HF := Lib.hid (fun hr : ¬ regB n 0 xa => HNO.out (fun h => hr h.1))
      clear hr0 hr1 hr2
      go_wp2_with fail
      all_goals (try simp only [bne_iff_ne, ne_eq, bne_eq_false_iff_eq, beq_iff_eq, beq_eq_false_iff_ne, decide_eq_true_eq, decide_eq_false_iff_not] at *)
      all_goals first
        | (exfalso; omega)
        | (go_ret; exact HF.out (by unfold regB; omega))
        | exact ⟨HN.out (by unfold regB; omega), by simp [intOf]⟩
    · have HN := Lib.hid (fun hr : regB n 1 xb => HX.out 1 (by omega) hr0 hr1 hr2 hr)
      have HF := Lib.hid (fun hr : ¬ regB n 1 xb => HNO.out (fun h => hr h.2.1))
      clear hr0 hr1 hr2
      go_wp2_with fail
      all_goals (try simp only [bne_iff_ne, ne_eq, bne_eq_false_iff_eq, beq_iff_eq, beq_eq_false_iff_ne, decide_eq_true_eq, decide_eq_false_iff_not] at *)
      all_goals first
        | (exfalso; omega)
        | (go_ret; exact HF.out (by unfold regB; omega))
        | exact ⟨HN.out (by unfold regB; omega), by simp [intOf]⟩
    · have HN := Lib.hid (fun hr : regB n 2 xc => HX.out 2 (by omega) hr0 hr1 hr2 hr)
      have HF := Lib.hid (fun hr : ¬ regB n 2 xc => HNO.out (fun h => hr h.2.2))
      clear hr0 hr1 hr2
      go_wp2_with fail
      all_goals (try simp only [bne_iff_ne, ne_eq, bne_eq_false_iff_eq, beq_iff_eq, beq_eq_false_iff_ne, decide_eq_true_eq, decide_eq_false_iff_not] at *)
      all_goals first
        | (exfalso; omega)
        | (go_ret; exact HF.out (by unfold regB; omega))
        | exact ⟨HN.out (by unfold regB; omega), by simp [intOf]⟩
    · have HRG := Lib.hid (And.intro (hr0 (by omega)) (And.intro (hr1 (by omega)) (hr2 (by omega))))
      clear hr0 hr1 hr2
      have HFI := Lib.hid (show ∀ b : Bool, (b = true ↔ lo ≤ xi ∧ xi ≤ hi) → FmT ⟨xo, xa, xb, xc, xi⟩ w wr (.returned (.bool b)) from fun b hb => ⟨b, rfl, by rw [hb, HE.out.1]; exact ⟨fun h => ⟨HRG.out, h⟩, fun h => h.2⟩, HE.out.2⟩)
      by_cases h1 : lo ≤ xi
      · have g1 : decide (lo ≤ xi) = true := decide_eq_true h1
        have HH1 := Lib.hid h1
        clear h1
        go_wp2_with fail
        go_ret
        exact HFI.out _ (by have h9 := HH1.out; simp only [decide_eq_true_eq, Bool.false_eq_true, false_iff]; omega)
      · have g1 : decide (lo ≤ xi) = false := decide_eq_false h1
        have HH1 := Lib.hid h1
        clear h1
        go_wp2_with fail
        go_ret
        exact HFI.out _ (by have h9 := HH1.out; simp only [decide_eq_true_eq, Bool.false_eq_true, false_iff]; omega)

theorem names_true {op n : Nat} (h : names op = some (n, true)) : op = 30 ∨ op = 32 ∨ op = 33 ∨ op = 37 ∨ op = 41 ∨ op = 44 ∨ op = 45 ∨ op = 46 ∨ op = 48 := by
  have h1 := names_le h
  have : ∀ op, op < 49 → (match names op with | some (_, true) => decide (op = 30 ∨ op = 32 ∨ op = 33 ∨ op = 37 ∨ op = 41 ∨ op = 44 ∨ op = 45 ∨ op = 46 ∨ op = 48) | _ => true) = true := by decide
  have h2 := this op (by omega)
  rw [h] at h2
  simpa using h2
theorem bounds_true {op n : Nat} (h : names op = some (n, true)) : (op = 30 → least op = -9223372036854775808 ∧ most op = 9223372036854775807) ∧ (op = 32 ∨ op = 33 → least op = 0 ∧ most op = 59999) ∧ (op = 37 → least op = 1 ∧ most op = 256) ∧ (op = 48 → least op = 0 ∧ most op = 5) ∧ (op ≠ 30 → op ≠ 32 → op ≠ 33 → op ≠ 37 → op ≠ 48 → least op = 0 ∧ most op = 9223372036854775807) := by
  rcases names_true h with rfl | rfl | rfl | rfl | rfl | rfl | rfl | rfl | rfl <;> simp [least, most]
set_option maxRecDepth 100000 in
set_option maxHeartbeats 3200000 in
theorem refForm_any (x : Wd) (hx : WfW x) (w : World) : Calls Tryd.prog 51 #[wV x] w fun e w' => FmT x w w' e := by
  obtain ⟨xo, xa, xb, xc, xi⟩ := x
  have hin : In64 xi := hx.2.2.2.2
  have ho : xo < 256 := hx.1
  obtain ⟨W0, hW0⟩ : ∃ W, W = w.alloc (.cells #[B8 xo, B8 xa, B8 xb, B8 xc, I xi] 69) := ⟨_, rfl⟩
  obtain ⟨b1, hb1⟩ : ∃ b, b = w.heap.size := ⟨_, rfl⟩
  have hB0 : Below w.heap.size w W0 := by rw [hW0]; exact (Below.refl _ _).alloc (Nat.le_refl _) _
  have k1 : Blk b1 #[B8 xo, B8 xa, B8 xb, B8 xc, I xi] 69 W0 := by rw [hW0, hb1]; exact Blk.new _ _ _
  have HC := Lib.hid (names_any xo ho W0)
  have x0 := k1.get 0 (B8 xo) rfl
  have HW0 := Lib.hid (And.intro hW0 hb1)
  have H0 := Lib.hid (And.intro hB0 (And.intro k1 hin))
  clear hW0 hb1 hB0 k1 hx hin ho
  go_enter Tryd.func51, Tryd.ntmps51
  go_upto_region 1 with (fail)
  rw [← HW0.out.2]
  change Code.wp _ _ _ _ (w.alloc (.cells #[B8 xo, B8 xa, B8 xb, B8 xc, I xi] 69))
  rw [← HW0.out.1]
  go_wp2_with fail
  refine HC.out.mono ?_
  rintro e w1 ⟨hsh, hb1⟩
  have k1 := H0.out.2.1.below hb1 H0.out.2.1.lt
  have x0 := k1.get 0 (B8 xo) rfl
  have x1 := k1.get 1 (B8 xa) rfl
  have x2 := k1.get 2 (B8 xb) rfl
  have x3 := k1.get 3 (B8 xc) rfl
  have x4 := k1.get 4 (I xi) rfl
  have HB := Lib.hid (below_tr H0.out.1 hb1)
  rcases hsh with ⟨hno, rfl⟩ | ⟨n, im, hnm, rfl⟩
  · have HF := Lib.hid (show FmT ⟨xo, xa, xb, xc, xi⟩ w w1 (.returned (.bool false)) from ⟨false, rfl, (by
      simp only [Bool.false_eq_true, false_iff]
      rintro ⟨n, im, h, _⟩
      rw [hno] at h
      injection h), HB.out⟩)
    clear hno hb1 k1
    go_wp2_with fail
    go_ret
    exact HF.out
  · have hn3 := names_le hnm
    have hiff : FormW ⟨xo, xa, xb, xc, xi⟩ ↔ RegOk ⟨xo, xa, xb, xc, xi⟩ n ∧ least xo ≤ xi ∧ xi ≤ most xo := by
      constructor
      · rintro ⟨n', im', e, h2, h3, h4⟩
        have e' : names xo = some (n', im') := e
        rw [hnm] at e'
        cases e'
        exact ⟨h2, h3, h4⟩
      · rintro ⟨h2, h3, h4⟩
        exact ⟨n, im, hnm, h2, h3, h4⟩
    have hn0 : (n : Int) ≤ 3 := by omega
    have hn1 : (0 : Int) ≤ (n : Int) := by omega
    have HFI := Lib.hid (show ∀ b : Bool, (b = true ↔ RegOk ⟨xo, xa, xb, xc, xi⟩ n ∧ least xo ≤ xi ∧ xi ≤ most xo) → FmT ⟨xo, xa, xb, xc, xi⟩ w w1 (.returned (.bool b)) from fun b hb => ⟨b, rfl, by rw [hb, hiff], HB.out⟩)
    cases im with
    | false =>
      have HL := Lib.hid ((names_nat _ (by omega) n false hnm).1 rfl)
      clear hnm hb1 k1 hn3 hiff
      go_wp2_with fail
      all_goals (try simp only [bne_iff_ne, ne_eq, bne_eq_false_iff_eq, beq_iff_eq, beq_eq_false_iff_ne, decide_eq_true_eq, decide_eq_false_iff_not] at *)
      all_goals first
        | (exfalso; omega)
        | (go_ret; refine HFI.out _ ?_; have h9 := HL.out; unfold RegOk; simp only [beq_iff_eq, Bool.false_eq_true, false_iff, true_iff]; omega)
    | true =>
      have HL := Lib.hid (bounds_true hnm)
      have HI := Lib.hid H0.out.2.2
      clear hnm hb1 k1 hn3 hiff
      go_wp2_with fail
      all_goals (try simp only [bne_iff_ne, ne_eq, bne_eq_false_iff_eq, beq_iff_eq, beq_eq_false_iff_ne, decide_eq_true_eq, decide_eq_false_iff_not] at *)
      all_goals first
        | (exfalso; omega)
        | (go_ret; refine HFI.out _ ?_; have h9 := HL.out; have h8 := HI.out; unfold In64 at h8; unfold RegOk; simp only [decide_eq_true_eq, beq_iff_eq, Bool.false_eq_true, false_iff, true_iff]; omega)
end Go.Proofs.YtepnjhbolaebmaaDoor
