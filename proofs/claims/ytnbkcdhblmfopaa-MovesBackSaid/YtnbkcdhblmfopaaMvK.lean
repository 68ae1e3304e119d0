/-
  The document's count of rings, walked.
-/
import Derived.Test.YtnbkcdhblmfopaaMvS
import Derived.Deep.CutBlock
import Derived.Deep.DeepCutAuto
namespace Go.Proofs.Ytnbkcdhblmfopaa
open Go Go.RowKit Mv

def nlK (l : List M) (a : Int) (i k : Nat) : Bool := (List.range k).all fun j => decide (tO l j ≠ a) || decide (i < j)
theorem nlK_succ (l : List M) (a : Int) (i k : Nat) : nlK l a i (k + 1) = (nlK l a i k && (decide (tO l k ≠ a) || decide (i < k))) := by
  unfold nlK
  rw [List.range_succ, List.all_append]
  simp
theorem nlK_all (l : List M) (a : Int) (i : Nat) : nlK l a i l.length = noLess l a i := rfl
theorem rl_none {l : List M} {i k : Nat} {a : Int} {b : Bool} (h : src l a = none) : rl l i (k + 1) a b = (a, false) := by rw [rl]; rw [h]
theorem rl_back {l : List M} {i k : Nat} {a : Int} {b : Bool} (h : src l a = some (tO l i)) : rl l i (k + 1) a b = (tO l i, b) := by rw [rl]; rw [h]; simp
theorem rl_next {l : List M} {i k : Nat} {a a' : Int} {b : Bool} (h : src l a = some a') (hn : a' ≠ tO l i) : rl l i (k + 1) a b = rl l i k a' (b && noLess l a' i) := by rw [rl]; rw [h]; simp [hn]

def CirT (w : World) (l : List M) (W : World) (e : Ending) : Prop := ∃ c : Nat, e = .returned (I (c : Int)) ∧ (Dis l → c = ct l.length (counted l)) ∧ (¬ Dis l → c = 0) ∧ Below w.heap.size w W
def CirR (w : World) (l : List M) (cv iv : Value) (W : World) : Prop := ∃ i : Nat, i ≤ l.length ∧ iv = I (i : Int) ∧ cv = I (ct i (counted l) : Int) ∧ Below w.heap.size w W
/-- In the round: the box of the move. -/
def BxW (w : World) (bx : Nat) (x : M) (W : World) : Prop := Below w.heap.size w W ∧ Blk bx #[I x.1, I x.2] 31 W
theorem BxW.below {w W W' : World} {bx : Nat} {x : M} (h : BxW w bx x W) (hb : Below W.heap.size W W') : BxW w bx x W' := ⟨below_tr h.1 hb, h.2.below hb h.2.lt⟩
theorem BxW.alloc {w W : World} {bx : Nat} {x : M} (h : BxW w bx x W) (o : Obj) : BxW w bx x (W.alloc o) := ⟨h.1.alloc h.1.size _, h.2.alloc _⟩
def CutC (w : World) (bx : Nat) (x : M) (l : List M) (i : Nat) (av bv : Value) (W : World) : Prop := ∃ a b, av = I a ∧ bv = .bool b ∧ rl l i l.length (tO l i) true = (a, b) ∧ BxW w bx x W
def CirI (w : World) (bx : Nat) (x : M) (l : List M) (i : Nat) (av bv jv : Value) (W : World) : Prop := ∃ (j : Nat) (a : Int) (b : Bool), j ≤ l.length ∧ jv = I (j : Int) ∧ av = I a ∧ bv = .bool b ∧ rl l i (l.length - j) a b = rl l i l.length (tO l i) true ∧ BxW w bx x W
def CirL (w : World) (bx : Nat) (x : M) (l : List M) (i : Nat) (a : Int) (b : Bool) (bv kv : Value) (W : World) : Prop := ∃ k : Nat, k ≤ l.length ∧ kv = I (k : Int) ∧ bv = .bool (b && nlK l a i k) ∧ BxW w bx x W

set_option maxRecDepth 100000 in
set_option maxHeartbeats 1600000 in
theorem refCircles_any (a : Option Addr) (c : Nat) (l : List M) (hl : l.length ≤ 1000) (hc : l.length ≤ c) (w : World) (h : MovZ w (.slice a l.length c) l) :
    Calls Try.prog 14 #[.slice a l.length c] w fun e w' => CirT w l w' e := by
  have HC := Lib.hid (check_any a c l hl hc 0 false w h)
  have hsrc : ∀ W, Below w.heap.size w W → ∀ p, Calls Try.prog 20 #[.slice a l.length c, I p] W fun e w' => SrcT W l p w' e := fun W hb p => source_any _ l hl p W (h.below movV_stays hb)
  obtain ⟨n, hn⟩ : ∃ n, n = l.length := ⟨_, rfl⟩
  have hbn : ∀ s : Int, (Bad l s false ↔ ¬ Dis l) := fun s => ⟨fun h => by
    rcases h with ⟨i, _, h1, _⟩ | h
    · cases h1
    · exact h, fun h => Or.inr h⟩
  rw [← hn] at h HC hsrc ⊢
  have hnb : (n : Int) ≤ 1000 := by omega
  have HH := Lib.hid (And.intro h (And.intro hn (And.intro hl hsrc)))
  have HBN := Lib.hid hbn
  clear h hn hl hc hsrc hbn
  go_enter Try.func14, Try.ntmps14
  go_wp2_with fail
  refine HC.out.mono ?_
  rintro e w1 ⟨cc, rfl, hcc, hb1⟩
  rcases hcc with ⟨rfl, hbad⟩ | ⟨rfl, hbad⟩
  · have FIN := Lib.hid (show CirT w l w1 (.returned (I 0)) from ⟨0, rfl, fun hd => absurd hd ((HBN.out 0).1 hbad), fun _ => rfl, hb1⟩)
    clear hbad hb1
    go_wp2_with fail
    go_ret
    exact FIN.out
  · have HD := Lib.hid (show Dis l from Classical.byContradiction fun h => hbad ((HBN.out 0).2 h))
    have HST := Lib.hid (show CirR w l (I 0) (I 0) w1 from ⟨0, Nat.zero_le _, rfl, rfl, hb1⟩)
    clear hbad hb1
    go_wp2_with fail
    go_loopw [3, 17] (fun cv iv W => CirR w l cv iv W) (fun _ iv _ => n - (intOf iv).toNat)
    case atStart => exact HST.out
    case round =>
      obtain ⟨i, hi, rfl, rfl, hbe⟩ := hrel
      by_cases hin : i < n
      · have hil : i < l.length := by rw [← HH.out.2.1]; exact hin
        obtain ⟨b, _, rfl, hbl, c0, e0⟩ := (HH.out.1.below movV_stays hbe).at i hil
        obtain rfl := e0
        rw [getD_mv hil] at c0
        obtain ⟨xt, xf, hx⟩ : ∃ a b, mv l i = (a, b) := ⟨_, _, rfl⟩
        rw [hx] at c0
        have x0 : wr.cell? (b.add (i * 2)) = some (I xt) := c0.f0
        have x1 : wr.cell? ⟨(b.add (i * 2)).block, (b.add (i * 2)).off + 1, none⟩ = some (I xf) := c0.f1
        have hto : tO l i = xt := by unfold tO; rw [hx]
        have hfr : fR l i = xf := by unfold fR; rw [hx]
        have d0 : decide (i < n) = true := by simpa using hin
        have d1 : (0 : Int) ≤ (i : Int) := by omega
        have d2 : (i : Int) < (n : Int) := by omega
        obtain ⟨bx, hbx⟩ : ∃ g, g = wr.heap.size := ⟨_, rfl⟩
        obtain ⟨W1, hW1⟩ : ∃ W, W = wr.alloc (.cells #[I xt, I xf] 31) := ⟨_, rfl⟩
        have kx : BxW w bx (xt, xf) W1 := by rw [hbx, hW1]; exact ⟨hbe.alloc hbe.size _, Blk.new _ _ _⟩
        have hct := ct_le (f := counted l) (n := i)
        have hcb : (ct i (counted l) : Int) ≤ 1000 := by omega
        have hc0 : (0 : Int) ≤ (ct i (counted l) : Int) := by omega
        have HS := Lib.hid (show CirI w bx (xt, xf) l i (I xt) (.bool true) (I 0) W1 from ⟨0, xt, true, Nat.zero_le _, rfl, rfl, rfl, by rw [hto]; rfl, kx⟩)
        have H1 := Lib.hid (And.intro kx (And.intro hto (And.intro hfr (And.intro hin hil))))
        have HW := Lib.hid (And.intro hW1 hbx)
        obtain ⟨CT, hCT⟩ : ∃ m : Nat, m = ct i (counted l) := ⟨_, rfl⟩
        rw [← hCT] at hcb hc0 ⊢
        have HCT := Lib.hid hCT
        clear hbe c0 hx hW1 kx hin hi hbl hbx hto hfr hil hct hCT
        go_upto_block 2 with (fail)
        change Code.wp _ _ _ _ (wr.alloc (.cells #[I xt, I xf] 31))
        rw [← HW.out.2, ← HW.out.1]
        clear x0 x1
        go_cut [6, 7] (fun av bv W => CutC w bx (xt, xf) l i av bv W)
        case first =>
          go_wp2_with fail
          go_loopw [6, 7, 26] (fun av bv jv W => CirI w bx (xt, xf) l i av bv jv W) (fun _ _ jv _ => n - (intOf jv).toNat)
          case atStart => exact HS.out
          case round =>
            obtain ⟨j, a, bb, hj, rfl, rfl, rfl, hrl, hbx⟩ := hrel
            by_cases hjn : j < n
            · have hj2 : l.length - j = (l.length - (j + 1)) + 1 := by have := HH.out.2.1; omega
              rw [hj2] at hrl
              have q0 : decide (j < n) = true := by simpa using hjn
              have q1 : (0 : Int) ≤ (j : Int) := by omega
              have q2 : (j : Int) < (n : Int) := by omega
              have HSRC := Lib.hid (HH.out.2.2.2 wr hbx.1 a)
              have H2 := Lib.hid (And.intro hrl (And.intro hbx hjn))
              clear hrl hbx hjn hj hj2
              go_wp2_with fail
              refine HSRC.out.mono ?_
              rintro e w2 ⟨v2, b2, rfl, hsv, hb2⟩
              have hbx2 := H2.out.2.1.below hb2
              rcases hsv with ⟨rfl, hsv⟩ | ⟨rfl, hsv⟩
              · have y0 := hbx2.2.get 0 (I xt) rfl
                have y1 := hbx2.2.get 1 (I xf) rfl
                by_cases hv : v2 = xt
                · have HM := Lib.hid (show CutC w bx (xt, xf) l i (I v2) (.bool bb) w2 from ⟨_, _, rfl, rfl, by rw [← H2.out.1, hv, ← H1.out.2.1]; exact rl_back (by rw [hsv, hv, H1.out.2.1]), hbx2⟩)
                  subst hv
                  clear hsv hb2 hbx2
                  go_wp2_with fail
                  go_meet
                  case rel => exact HM.out
                · have g1 : (v2 == xt) = false := by simpa using hv
                  have hrl2 : rl l i (l.length - (j + 1)) v2 (bb && nlK l v2 i l.length) = rl l i l.length (tO l i) true := by
                    rw [← H2.out.1, nlK_all]
                    exact (rl_next hsv (by rw [H1.out.2.1]; exact hv)).symm
                  have HR := Lib.hid (And.intro hrl2 hbx2)
                  have HS2 := Lib.hid (show CirL w bx (xt, xf) l i v2 bb (.bool bb) (I 0) w2 from ⟨0, Nat.zero_le _, rfl, by simp [nlK], hbx2⟩)
                  clear hrl2 hsv hb2 hbx2 hv
                  go_wp2_with fail
                  go_loopw [7, 43] (fun bv kv W => CirL w bx (xt, xf) l i v2 bb bv kv W) (fun _ kv _ => n - (intOf kv).toNat)
                  case atStart => exact HS2.out
                  case round =>
                    obtain ⟨k, hk, rfl, rfl, hbk⟩ := hrel
                    by_cases hkn : k < n
                    · have hkl : k < l.length := by rw [← HH.out.2.1]; exact hkn
                      obtain ⟨b', _, e1, hbl', c1, e2⟩ := (HH.out.1.below movV_stays hbk.1).at k hkl
                      obtain rfl := e2
                      cases e1
                      rw [getD_mv hkl] at c1
                      obtain ⟨zt, zf, hz⟩ : ∃ a b, mv l k = (a, b) := ⟨_, _, rfl⟩
                      rw [hz] at c1
                      have z0 : wr.cell? (b.add (k * 2)) = some (I zt) := c1.f0
                      have z1 : wr.cell? ⟨(b.add (k * 2)).block, (b.add (k * 2)).off + 1, none⟩ = some (I zf) := c1.f1
                      have hzo : tO l k = zt := by unfold tO; rw [hz]
                      have q3 : decide (k < n) = true := by simpa using hkn
                      have q4 : (0 : Int) ≤ (k : Int) := by omega
                      have q5 : (k : Int) < (n : Int) := by omega
                      have hsu := nlK_succ l v2 i k
                      rw [hzo] at hsu
                      have hB2 := hbk.alloc (.cells #[I zt, I zf] 31)
                      have HN := Lib.hid (fun (u : Bool) (hu : u = (bb && nlK l v2 i (k + 1))) => (show CirL w bx (xt, xf) l i v2 bb (.bool u) (I ((k : Int) + 1)) (wr.alloc (.cells #[I zt, I zf] 31)) from ⟨k + 1, hkl, rfl, by rw [hu], hB2⟩))
                      have HT := Lib.hid (And.intro hkn hsu)
                      obtain ⟨u, hu⟩ : ∃ u, u = (bb && nlK l v2 i k) := ⟨_, rfl⟩
                      rw [← hu]
                      have HU := Lib.hid hu
                      clear hbk c1 hz hzo hB2 hkn hk hkl hsu hu
                      cases u with
                      | false =>
                        go_wp2_with fail
                        exact ⟨HN.out false (by rw [HT.out.2, ← Bool.and_assoc, ← HU.out]; rfl), by have := HT.out.1; simp [intOf]; omega⟩
                      | true =>
                        by_cases h1 : zt = v2
                        · subst h1
                          by_cases h2 : i < k
                          · have g3 : decide (i < k) = true := decide_eq_true h2
                            have g4 : (i : Int) < (k : Int) := by omega
                            have HV := Lib.hid h2
                            clear h2
                            go_wp2_with fail
                            exact ⟨HN.out true (by rw [HT.out.2, ← Bool.and_assoc, ← HU.out]; simp [HV.out]), by have := HT.out.1; simp [intOf]; omega⟩
                          · have g3 : decide (i < k) = false := decide_eq_false h2
                            have HV := Lib.hid h2
                            clear h2
                            go_wp2_with fail
                            exact ⟨HN.out false (by rw [HT.out.2, ← Bool.and_assoc, ← HU.out]; simp [HV.out]), by have := HT.out.1; simp [intOf]; omega⟩
                        · have g2 : (zt != v2) = true := by simpa using h1
                          have HV := Lib.hid h1
                          clear h1
                          go_wp2_with fail
                          exact ⟨HN.out true (by rw [HT.out.2, ← Bool.and_assoc, ← HU.out]; simp [HV.out]), by have := HT.out.1; simp [intOf]; omega⟩
                    · have q3 : decide (k < n) = false := by simpa using hkn
                      have hkk : k = l.length := by have := HH.out.2.1; omega
                      have HN := Lib.hid (show CirI w bx (xt, xf) l i (I v2) (.bool (bb && nlK l v2 i k)) (I ((j : Int) + 1)) wr from ⟨j + 1, _, _, by have := H2.out.2.2; have := HH.out.2.1; omega, rfl, rfl, rfl, by rw [hkk]; exact HR.out.1, hbk⟩)
                      have HT := Lib.hid H2.out.2.2
                      obtain ⟨u, hu⟩ : ∃ u, u = (bb && nlK l v2 i k) := ⟨_, rfl⟩
                      rw [← hu] at HN ⊢
                      clear hbk hkn hk hkk hu
                      go_wp2_with fail
                      exact ⟨HN.out, by have := HT.out; simp [intOf]; omega⟩
              · have HM := Lib.hid (show CutC w bx (xt, xf) l i (I a) (.bool false) w2 from ⟨_, _, rfl, rfl, by rw [← H2.out.1]; exact rl_none hsv, hbx2⟩)
                clear hsv hb2 hbx2
                go_wp2_with fail
                go_meet
                case rel => exact HM.out
            · have q0 : decide (j < n) = false := by simpa using hjn
              have HM := Lib.hid (show CutC w bx (xt, xf) l i (I a) (.bool bb) wr from ⟨_, _, rfl, rfl, by rw [← hrl, show l.length - j = 0 by have := HH.out.2.1; omega]; rfl, hbx⟩)
              clear hrl hbx hjn hj
              go_wp2_with fail
              go_meet
              case rel => exact HM.out
        case rest =>
          obtain ⟨a, bb, rfl, rfl, hrl, hbx⟩ := hcut
          have y0 := hbx.2.get 0 (I xt) rfl
          have y1 := hbx.2.get 1 (I xf) rfl
          have hco : counted l i = (bb && decide (a = xt) && decide (xt ≠ xf)) := by unfold counted; rw [hrl, H1.out.2.1, H1.out.2.2.1]
          have hsu : ct (i + 1) (counted l) = ct i (counted l) + (counted l i).toNat := rfl
          have HN := Lib.hid (fun (m : Nat) (hm : m = CT + (counted l i).toNat) => (show CirR w l (I (m : Int)) (I ((i : Int) + 1)) wc from ⟨i + 1, H1.out.2.2.2.2, rfl, by rw [hm, hsu, HCT.out], hbx.1⟩))
          have HCO := Lib.hid hco
          have HT := Lib.hid H1.out.2.2.2.1
          clear hrl hbx hco hsu
          cases bb with
          | false =>
            go_wp2_with fail
            go_roundw
            case rel => exact HN.out CT (by rw [HCO.out]; rfl)
            case measure => have := HT.out; simp [intOf]; omega
          | true =>
            by_cases h1 : a = xt
            · subst h1
              by_cases h2 : a = xf
              · have HV := Lib.hid h2
                have g2 : (a != xf) = false := by simpa using h2
                clear h2
                go_wp2_with fail
                go_roundw
                case rel => exact HN.out CT (by rw [HCO.out]; simp [HV.out])
                case measure => have := HT.out; simp [intOf]; omega
              · have HV := Lib.hid h2
                have g2 : (a != xf) = true := by simpa using h2
                clear h2
                have e5 : ((CT + 1 : Nat) : Int) = (CT : Int) + 1 := by omega
                have HN2 := Lib.hid (HN.out (CT + 1) (by rw [HCO.out]; simp [HV.out]))
                rw [e5] at HN2
                clear e5
                go_wp2_with fail
                go_roundw
                case rel => exact HN2.out
                case measure => have := HT.out; simp [intOf]; omega
            · have g1 : (a == xt) = false := by simpa using h1
              have HV := Lib.hid h1
              clear h1
              go_wp2_with fail
              go_roundw
              case rel => exact HN.out CT (by rw [HCO.out]; simp [HV.out])
              case measure => have := HT.out; simp [intOf]; omega
      · have d0 : decide (i < n) = false := by simpa using hin
        have FIN := Lib.hid (show CirT w l wr (.returned (I (ct i (counted l) : Int))) from ⟨_, rfl, fun _ => by rw [show i = l.length by have := HH.out.2.1; omega], fun h => absurd HD.out h, hbe⟩)
        clear hbe hin hi
        go_wp2_with fail
        go_ret
        exact FIN.out
end Go.Proofs.Ytnbkcdhblmfopaa
