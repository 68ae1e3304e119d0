/-
  Whether a painting is right, as the document has it: walked.
-/
import Derived.Test.YtgblpfahgpneoaaPtJ
import Derived.BigQuiet
namespace Go.Proofs.Ytgblpfahgpneoaa
open Go Go.RowKit

def RtR (w : World) (n : Nat) (iv : Value) (W : World) : Prop := ∃ i : Nat, i ≤ n ∧ iv = I (i : Int) ∧ Below w.heap.size w W
def RightT (w W : World) (e : Ending) : Prop := e = .returned (.bool true) ∧ Below w.heap.size w W
theorem ColZ.below {n bc base : Nat} {C : Nat → Int} {w W : World} (h : ColZ n bc C base w) (hb : Below w.heap.size w W) : ColZ n bc C base W := ⟨h.b.below hb h.b.lt, h.l, h.h⟩
theorem col_z {n k bc : Nat} {C : Nat → Int} {l : List P2} {w : World} (hk : k ≤ 16) (h : Col n k l C) (hb : Blk bc (arrF n fun i => I (C i)) 3 w) : ColZ n bc C w.heap.size w := ⟨hb, fun v hv => by have := h.bo v hv; omega, hb.lt⟩

set_option maxRecDepth 100000 in
set_option maxHeartbeats 3200000 in
theorem right_any (n k bc : Nat) (hn : n ≤ 60000) (hk : k ≤ 16) (C : Nat → Int) (a : Option Addr) (m c : Nat) (l : List P2) (hm : m = l.length) (hl : m ≤ 4000) (hc : m ≤ c) (hA : AreN n l) (hC : Col n k l C) (w : World) (h : PairZ w (.slice a m c) l) (hb : Blk bc (arrF n fun i => I (C i)) 3 w) :
    Calls Try.prog 11 #[I (n : Int), .slice a m c, I (k : Int), .slice (some ⟨bc, 0, none⟩) n n] w fun e w' => RightT w w' e := by
  have hmb : (m : Int) ≤ 4000 := by omega
  have hmc : (m : Int) ≤ (c : Int) := by omega
  have hnb : (n : Int) ≤ 60000 := by omega
  have hkb : (k : Int) ≤ 16 := by omega
  have HH := Lib.hid (And.intro hm (And.intro hl (And.intro hc (And.intro hA (And.intro hC (And.intro h (And.intro hb hk)))))))
  clear hm hl hc hA hC h hb hn hk
  go_enter Try.func11, Try.ntmps11
  go_wp2_with fail
  go_loopw [21] (fun iv W => RtR w n iv W) (fun iv _ => n - (intOf iv).toNat)
  case atStart => exact ⟨0, Nat.zero_le _, rfl, Below.refl _ _⟩
  case round =>
    obtain ⟨i, hi, rfl, hbe⟩ := hrel
    by_cases hin : i < n
    · have z0 := (HH.out.2.2.2.2.2.2.1.below hbe HH.out.2.2.2.2.2.2.1.lt).get i (I (C i)) (arrF_get _ hin)
      have hci := HH.out.2.2.2.2.1.bo i hin
      have d0 : decide (i < n) = true := by simpa using hin
      have d1 : (0 : Int) ≤ (i : Int) := by omega
      have d2 : (i : Int) < (n : Int) := by omega
      have d3 : -1 ≤ C i := hci.1
      have d4 : C i < (k : Int) := hci.2
      have HN := Lib.hid (show RtR w n (I ((i : Int) + 1)) wr from ⟨i + 1, hin, rfl, hbe⟩)
      have HT := Lib.hid hin
      clear hci hbe hin hi
      generalize C i = ci at *
      go_wp2_with fail
      all_goals first
        | (exfalso; omega)
        | exact ⟨HN.out, by have := HT.out; simp [intOf]; omega⟩
    · have d0 : decide (i < n) = false := by simpa using hin
      have HS2 := Lib.hid (show RtR w m (I 0) wr from ⟨0, Nat.zero_le _, rfl, hbe⟩)
      clear hbe hin hi
      go_wp2_with fail
      go_loopw [35] (fun iv W => RtR w m iv W) (fun iv _ => m - (intOf iv).toNat)
      case atStart => exact HS2.out
      case round =>
        obtain ⟨j, hj, rfl, hbe⟩ := hrel
        by_cases hjm : j < m
        · have hil : j < l.length := by rw [← HH.out.1]; exact hjm
          obtain ⟨b, _, rfl, hbl, c0, e0⟩ := (HH.out.2.2.2.2.2.1.keep pairV_stays (S' := LtW wr) hbe.block (fun k hk => Nat.lt_of_lt_of_le hk hbe.size)).at j hil
          obtain rfl := e0
          have hpm : pr l j ∈ l := by rw [← getD_pr hil]; exact List.getElem_mem hil
          have hnd : NodeP n (pr l j) := HH.out.2.2.2.1 _ hpm
          rw [getD_pr hil] at c0
          obtain ⟨p, q, hx⟩ : ∃ a b, pr l j = (a, b) := ⟨_, _, rfl⟩
          rw [hx] at c0 hnd hpm
          obtain ⟨q1, q2, q3, q4⟩ : 0 ≤ p ∧ p < (n : Int) ∧ 0 ≤ q ∧ q < (n : Int) := hnd
          obtain ⟨xa, rfl⟩ : ∃ a : Nat, p = (a : Int) := ⟨p.toNat, by omega⟩
          obtain ⟨xb, rfl⟩ : ∃ a : Nat, q = (a : Int) := ⟨q.toNat, by omega⟩
          have x0 : wr.cell? (b.add (j * 2)) = some (I (xa : Int)) := c0.f0
          have x1 : wr.cell? ⟨(b.add (j * 2)).block, (b.add (j * 2)).off + 1, none⟩ = some (I (xb : Int)) := c0.f1
          have d0 : decide (j < m) = true := by simpa using hjm
          have d1 : (0 : Int) ≤ (j : Int) := by omega
          have d2 : (j : Int) < (m : Int) := by omega
          have d3 : (j : Int) ≤ (c : Int) := by omega
          obtain ⟨W1, hW1⟩ : ∃ W, W = wr.alloc (.cells #[I (xa : Int), I (xb : Int)] 29) := ⟨_, rfl⟩
          obtain ⟨bx, hbx⟩ : ∃ b, b = wr.heap.size := ⟨_, rfl⟩
          have kx : Blk bx #[I (xa : Int), I (xb : Int)] 29 W1 := by rw [hW1, hbx]; exact Blk.new _ _ _
          have y0 := kx.get 0 _ rfl
          have y1 := kx.get 1 _ rfl
          have hB1 : Below w.heap.size w W1 := by rw [hW1]; exact hbe.alloc hbe.size _
          have kC := HH.out.2.2.2.2.2.2.1.below hB1 HH.out.2.2.2.2.2.2.1.lt
          have z0 := kC.get xa (I (C xa)) (arrF_get _ (by omega))
          have z1 := kC.get xb (I (C xb)) (arrF_get _ (by omega))
          have hnei : xa ≠ xb → Nei l xa xb := fun e => ⟨_, hpm, by show (xa : Int) ≠ (xb : Int); omega, Or.inl ⟨rfl, rfl⟩⟩
          have hpr : xa ≠ xb → C xa ≠ -1 → C xa ≠ C xb := fun e => HH.out.2.2.2.2.1.pr xa (by omega) xb (hnei e)
          have hlo := (HH.out.2.2.2.2.1.bo xa (by omega)).1
          have HN := Lib.hid (fun W2 (hb2 : Below w.heap.size w W2) => show RtR w m (I ((j : Int) + 1)) W2 from ⟨j + 1, hjm, rfl, hb2⟩)
          have HB := Lib.hid hB1
          have HT := Lib.hid hjm
          have HW1 := Lib.hid (And.intro hW1 hbx)
          clear hW1 hbx kx hB1 kC hnei hbe hjm hj hil hpm hx c0 hbl
          go_upto_region 12 with (fail)
          change Code.wp _ _ _ _ (wr.alloc (.cells #[I (xa : Int), I (xb : Int)] 29))
          rw [← HW1.out.1, ← HW1.out.2]
          clear x0 x1
          by_cases e1 : xa = xb
          · have t1 : ((xa : Int) != (xb : Int)) = false := by rw [bne_eq_false_iff_eq]; omega
            clear e1 hpr hlo
            go_quiet (fail)
            go_wp2_with fail
            exact ⟨HN.out _ (below_drewN HB.out _), by have := HT.out; simp [intOf]; omega⟩
          · have t1 : ((xa : Int) != (xb : Int)) = true := by rw [bne_iff_ne]; omega
            have hpr2 := hpr e1
            clear e1 hpr
            by_cases e2 : C xa = -1
            · rw [e2] at z0
              clear hpr2 hlo e2
              go_quiet (fail)
              go_wp2_with fail
              exact ⟨HN.out _ (below_drewN HB.out _), by have := HT.out; simp [intOf]; omega⟩
            · have t2 : decide (0 ≤ C xa) = true := by rw [decide_eq_true_eq]; omega
              have t3 : (C xa == C xb) = false := by rw [beq_eq_false_iff_ne]; exact hpr2 e2
              clear hpr2 hlo e2
              generalize C xa = ca at *
              generalize C xb = cb at *
              go_quiet (fail)
              go_wp2_with fail
              exact ⟨HN.out _ (below_drewN HB.out _), by have := HT.out; simp [intOf]; omega⟩
        · have d0 : decide (j < m) = false := by simpa using hjm
          have HS3 := Lib.hid (show RtR w n (I 0) wr from ⟨0, Nat.zero_le _, rfl, hbe⟩)
          clear hbe hjm hj
          go_wp2_with fail
          go_loopw [68] (fun iv W => RtR w n iv W) (fun iv _ => n - (intOf iv).toNat)
          case atStart => exact HS3.out
          case round =>
            obtain ⟨v, hv, rfl, hbe⟩ := hrel
            by_cases hvn : v < n
            · have kC := HH.out.2.2.2.2.2.2.1.below hbe HH.out.2.2.2.2.2.2.1.lt
              have z0 := kC.get v (I (C v)) (arrF_get _ hvn)
              have hlo := (HH.out.2.2.2.2.1.bo v hvn).1
              have d0 : decide (v < n) = true := by simpa using hvn
              have d1 : (0 : Int) ≤ (v : Int) := by omega
              have d2 : (v : Int) < (n : Int) := by omega
              by_cases e1 : C v = -1
              · have HC := Lib.hid (near_any n bc v C hvn a m c l HH.out.1 HH.out.2.1 HH.out.2.2.1 HH.out.2.2.2.1 wr (HH.out.2.2.2.2.2.1.below pairV_stays hbe) (col_z HH.out.2.2.2.2.2.2.2 HH.out.2.2.2.2.1 kC))
                have hfu := HH.out.2.2.2.2.1.fu v hvn e1
                have HT := Lib.hid (And.intro hvn (And.intro hfu hbe))
                rw [e1] at z0
                clear kC hlo hvn hv hbe hfu e1
                go_wp2_with fail
                refine HC.out.mono ?_
                rintro e w2 ⟨M, rfl, hM, hMk, hb2⟩
                have hk2 := hMk k HH.out.2.2.2.2.2.2.2 HT.out.2.1
                have t1 : ¬ M < k := by omega
                have t2 : decide (M < k) = false := by simpa using hk2
                have HN := Lib.hid (show RtR w n (I ((v : Int) + 1)) w2 from ⟨v + 1, HT.out.1, rfl, HT.out.2.2.trans (hb2.mono HT.out.2.2.size)⟩)
                clear hM hMk hb2 hk2
                go_wp2_with fail
                exact ⟨HN.out, by have := HT.out.1; simp [intOf]; omega⟩
              · have t1 : decide (C v < 0) = false := by rw [decide_eq_false_iff_not]; omega
                have t2 : ¬ C v < 0 := by omega
                have HN := Lib.hid (show RtR w n (I ((v : Int) + 1)) wr from ⟨v + 1, hvn, rfl, hbe⟩)
                have HT := Lib.hid hvn
                clear kC hlo hvn hv hbe e1
                generalize C v = cv at *
                go_wp2_with fail
                exact ⟨HN.out, by have := HT.out; simp [intOf]; omega⟩
            · have d0 : decide (v < n) = false := by simpa using hvn
              have FIN := Lib.hid (show RightT w wr (.returned (.bool true)) from ⟨rfl, hbe⟩)
              clear hbe hvn hv
              go_wp2_with fail
              go_ret
              exact FIN.out
end Go.Proofs.Ytgblpfahgpneoaa
