/-
  The document's measure of moves done one by one.
-/
import Derived.Test.YtnbkcdhblmfopaaMvK
import Derived.Test.YtnbkcdhblmfopaaMvW
import Derived.StillTailTactics
namespace Go.Proofs.Ytnbkcdhblmfopaa
open Go Go.RowKit Mv

theorem NumI.set {W : World} {base g m k : Nat} {l : List Int} (h : NumI W base (.slice (some ⟨g, 0, none⟩) m k) l) (i : Nat) (y : Int) : NumI (W.setCell ⟨g, i, none⟩ (I y)) base (.slice (some ⟨g, 0, none⟩) m k) (l.set i y) := by
  obtain ⟨_, h2⟩ := h
  rcases h2 with ⟨e, _⟩ | ⟨g', cap, cur, e, hb, hg, hn, hc, hs, ht⟩
  · cases e
  · cases e
    refine ⟨by simp, .inr ⟨g, _, cur.setIfInBounds i (I y), by rw [List.length_set], hb, Blk.set hg i (I y), by rw [List.length_set]; exact hn, hc, by simp [hs], ?_⟩⟩
    rw [Array.toList_setIfInBounds, List.take_set, List.length_set, ht]
    show (l.map I).set i (I y) = (l.set i y).map I
    rw [List.map_set]
theorem getD_set {l : List Int} {i : Nat} {y : Int} (hi : i < l.length) (k : Nat) : (l.set i y).getD k 0 = if k = i then y else l.getD k 0 := by
  rw [List.getD_eq_getElem?_getD, List.getElem?_set, List.getD_eq_getElem?_getD]
  by_cases h : i = k
  · subst h; simp [hi]
  · rw [if_neg h, if_neg (fun e => h e.symm)]
theorem getD_app {l r : List Int} {i : Nat} (hi : i < l.length) : (l ++ r).getD i 0 = l.getD i 0 := by
  rw [List.getD_eq_getElem?_getD, List.getElem?_append_left hi, List.getD_eq_getElem?_getD]
/-- What places have. -/
structure Rep (pl hs : List Int) (st : Int → Int) : Prop where
  nd : pl.Nodup
  ln : pl.length = hs.length
  has : ∀ i, i < pl.length → hs.getD i 0 = st (pl.getD i 0)
  no : ∀ p, p ∉ pl → st p = p
theorem Rep.start : Rep [] [] id := ⟨List.nodup_nil, rfl, fun i hi => absurd hi (by simp), fun _ _ => rfl⟩
theorem Rep.at {pl hs pl' hs' : List Int} {st : Int → Int} {p : Int} (h : Rep pl hs st) (ha : p ∈ pl ∧ pl' = pl ∧ hs' = hs ∨ p ∉ pl ∧ pl' = pl ++ [p] ∧ hs' = hs ++ [p]) : Rep pl' hs' st := by
  rcases ha with ⟨_, rfl, rfl⟩ | ⟨hn, rfl, rfl⟩
  · exact h
  · refine ⟨List.nodup_append.2 ⟨h.nd, by simp, fun a ha b hb e => hn (by rw [← List.mem_singleton.1 hb, ← e]; exact ha)⟩, by simp [h.ln], fun i hi => ?_, fun q hq => h.no q (fun hm => hq (by simp [hm]))⟩
    rcases Nat.lt_or_ge i pl.length with h1 | h1
    · rw [getD_app h1, getD_app (by rw [← h.ln]; exact h1)]
      exact h.has i h1
    · obtain rfl : i = pl.length := by rw [List.length_append, List.length_singleton] at hi; omega
      have e1 : (pl ++ [p]).getD pl.length 0 = p := by rw [List.getD_eq_getElem?_getD]; simp
      have e2 : (hs ++ [p]).getD pl.length 0 = p := by rw [h.ln, List.getD_eq_getElem?_getD]; simp
      rw [e1, e2, h.no p hn]
theorem at_ext {pl hs pl' hs' : List Int} {p : Int} (ha : p ∈ pl ∧ pl' = pl ∧ hs' = hs ∨ p ∉ pl ∧ pl' = pl ++ [p] ∧ hs' = hs ++ [p]) : (∀ i, i < pl.length → i < pl'.length ∧ pl'.getD i 0 = pl.getD i 0) ∧ pl'.length ≤ pl.length + 1 := by
  rcases ha with ⟨_, rfl, rfl⟩ | ⟨_, rfl, rfl⟩
  · exact ⟨fun i hi => ⟨hi, rfl⟩, by omega⟩
  · exact ⟨fun i hi => ⟨by simp; omega, getD_app hi⟩, by simp⟩
theorem nodup_getD {l : List Int} (h : l.Nodup) {i j : Nat} (hi : i < l.length) (hj : j < l.length) (e : l.getD i 0 = l.getD j 0) : i = j := by
  rw [List.getD_eq_getElem?_getD, List.getD_eq_getElem?_getD, List.getElem?_eq_getElem hi, List.getElem?_eq_getElem hj] at e
  have hp := List.pairwise_iff_getElem.1 h
  rcases Nat.lt_trichotomy i j with h1 | h1 | h1
  · exact absurd e (hp i j hi hj h1)
  · exact h1
  · exact absurd e.symm (hp j i hj hi h1)
theorem Rep.move {pl hs : List Int} {st : Int → Int} {m : M} {i j : Nat} (h : Rep pl hs st) (hi : i < pl.length) (hj : j < pl.length) (ei : pl.getD i 0 = m.2) (ej : pl.getD j 0 = m.1) : Rep pl (hs.set j (hs.getD i 0)) (ex1 m st) := by
  refine ⟨h.nd, by rw [List.length_set]; exact h.ln, fun k hk => ?_, fun p hp => ?_⟩
  · rw [getD_set (by rw [← h.ln]; exact hj)]
    unfold ex1
    by_cases hkj : k = j
    · subst hkj
      rw [if_pos rfl, if_pos ej, h.has i hi, ei]
    · rw [if_neg hkj, if_neg (fun e => hkj (nodup_getD h.nd hk hj (by rw [e, ej]))), h.has k hk]
  · unfold ex1
    rw [if_neg (fun e => hp (by rw [e, ← ej]; exact getD_mem hj))]
    exact h.no p hp
theorem ex_snoc (a : List M) (m : M) (s : Int → Int) : ex (a ++ [m]) s = ex1 m (ex a s) := ex_app a [m] s

def RtC (w : World) (l : List M) (cN : Nat) (nv iv : Value) (W : World) : Prop := ∃ i : Nat, i ≤ l.length ∧ iv = I (i : Int) ∧ nv = I ((cN + ct i (fun i => decide (tO l i ≠ fR l i)) : Nat) : Int) ∧ Below w.heap.size w W
def RtO (w : World) (bw : Nat) (out : List M) (iv : Value) (W : World) : Prop := ∃ (i : Nat) (pl hs : List Int), i ≤ out.length ∧ iv = I (i : Int) ∧ WoW w.heap.size bw pl hs W ∧ Rep pl hs (ex (out.take i) id) ∧ pl.length ≤ 2 * i ∧ Below w.heap.size w W
def RtL (w : World) (bw o : Nat) (st : Int → Int) (l : List M) (iv : Value) (W : World) : Prop := ∃ (i : Nat) (pl hs : List Int), i ≤ l.length ∧ iv = I (i : Int) ∧ WoW w.heap.size bw pl hs W ∧ Rep pl hs st ∧ pl.length ≤ 2 * o + i ∧ Below w.heap.size w W
def RtP (w : World) (bw : Nat) (pv hv : Value) (pl hs : List Int) (iv : Value) (W : World) : Prop := ∃ i : Nat, i ≤ pl.length ∧ iv = I (i : Int) ∧ WoV w.heap.size bw pv hv pl hs W ∧ Below w.heap.size w W
def isTo (l : List M) (p : Int) (k : Nat) : Bool := (List.range k).any fun j => decide (tO l j = p)
theorem isTo_succ (l : List M) (p : Int) (k : Nat) : isTo l p (k + 1) = (isTo l p k || decide (tO l k = p)) := by
  unfold isTo
  rw [List.range_succ, List.any_append]
  simp
def RtI (w : World) (bw : Nat) (pv hv : Value) (pl hs : List Int) (l : List M) (p : Int) (b : Bool) (gv kv : Value) (W : World) : Prop := ∃ k : Nat, k ≤ l.length ∧ kv = I (k : Int) ∧ gv = .bool (b || isTo l p k) ∧ WoV w.heap.size bw pv hv pl hs W ∧ Below w.heap.size w W
def RightT (w : World) (W : World) (e : Ending) : Prop := e = .returned (.bool true) ∧ Below w.heap.size w W

set_option maxRecDepth 100000 in
set_option maxHeartbeats 3200000 in
theorem right_any (a : Option Addr) (c : Nat) (l : List M) (hl : l.length ≤ 1000) (hc : l.length ≤ c) (spare : Int) (v : Value) (out : List M) (hlo : out.length ≤ 2000) (hd : Dis l) (hsp : ∀ i, i < l.length → tO l i ≠ spare ∧ fR l i ≠ spare) (hok : OrdOK l spare out)
    (w : World) (h : MovZ w (.slice a l.length c) l) (ho : MovZ w v out) :
    Calls Try.prog 12 #[.slice a l.length c, I spare, v] w fun e w' => RightT w w' e := by
  obtain ⟨css, hcs, hob⟩ := hok
  have hcir : ∀ W, Below w.heap.size w W → Calls Try.prog 14 #[.slice a l.length c] W fun e w' => e = .returned (I (css.length : Int)) ∧ Below W.heap.size W w' := fun W hb => (refCircles_any a c l hl hc W (h.below movV_stays hb)).mono fun e w' ⟨x, h1, h2, _, h4⟩ => ⟨by rw [h1, h2 hd, counted_len hd hcs], h4⟩
  obtain ⟨oa, oc, rfl⟩ := ho.size
  obtain ⟨n, hn⟩ : ∃ n, n = l.length := ⟨_, rfl⟩
  obtain ⟨o, hoo⟩ : ∃ n, n = out.length := ⟨_, rfl⟩
  obtain ⟨cN, hcN⟩ : ∃ n, n = css.length := ⟨_, rfl⟩
  have hln := hob.ln
  rw [← hn] at h hcir
  rw [← hoo, ← hcN] at hln
  rw [← hn, ← hoo]
  rw [← hoo] at ho
  rw [← hcN] at hcir
  have hnb : (n : Int) ≤ 1000 := by omega
  have hno : (o : Int) ≤ 2000 := by omega
  have hcb : (cN : Int) ≤ 2000 := by omega
  have HH := Lib.hid (And.intro h (And.intro hn (And.intro hl hcir)))
  have HO := Lib.hid (And.intro ho (And.intro hoo (And.intro hlo (And.intro hob (And.intro hln (And.intro hcN hsp))))))
  have HC := Lib.hid (hcir w (Below.refl _ _))
  clear h hn hl hc hcir ho hoo hlo hob hln hcN hsp hcs hd
  go_enter Try.func12, Try.ntmps12
  go_wp2_with fail
  refine HC.out.mono ?_
  rintro e w1 ⟨rfl, hb1⟩
  have HS1 := Lib.hid (show RtC w l cN (I (cN : Int)) (I 0) w1 from ⟨0, Nat.zero_le _, rfl, by simp [ct], hb1⟩)
  clear hb1
  go_wp2_with fail
  go_loopw [7, 27] (fun nv iv W => RtC w l cN nv iv W) (fun _ iv _ => n - (intOf iv).toNat)
  case atStart => exact HS1.out
  case round =>
    obtain ⟨i, hi, rfl, rfl, hbe⟩ := hrel
    by_cases hin : i < n
    · have hil : i < l.length := by rw [← HH.out.2.1]; exact hin
      obtain ⟨b, _, rfl, hbl, c0, e0⟩ := (HH.out.1.below movV_stays hbe).at i hil
      obtain rfl := e0
      rw [getD_mv hil] at c0
      obtain ⟨xt, xf, hx⟩ : ∃ a b, mv l i = (a, b) := ⟨_, _, rfl⟩
      rw [hx] at c0
      have x0 : wr.cell? (b.add (i * 2)) = some (I xt) := c0.f0
      have x1 : wr.cell? ⟨(b.add (i * 2)).block, (b.add (i * 2)).off + 1, none⟩ = some (I xf) := c0.f1
      have hco : decide (tO l i ≠ fR l i) = decide (xt ≠ xf) := by unfold tO fR; rw [hx]
      have d0 : decide (i < n) = true := by simpa using hin
      have d1 : (0 : Int) ≤ (i : Int) := by omega
      have d2 : (i : Int) < (n : Int) := by omega
      have hct := ct_le (f := fun i => decide (tO l i ≠ fR l i)) (n := i)
      have hsu : ct (i + 1) (fun i => decide (tO l i ≠ fR l i)) = ct i (fun i => decide (tO l i ≠ fR l i)) + (decide (xt ≠ xf)).toNat := by rw [← hco]; rfl
      have hB1 : Below w.heap.size w (wr.alloc (.cells #[I xt, I xf] 31)) := hbe.alloc hbe.size _
      obtain ⟨CT, hCT⟩ : ∃ m : Nat, m = cN + ct i (fun i => decide (tO l i ≠ fR l i)) := ⟨_, rfl⟩
      have hcb2 : (CT : Int) ≤ 4000 := by omega
      have HN := Lib.hid (fun (m : Nat) (hm : m = CT + (decide (xt ≠ xf)).toNat) => (show RtC w l cN (I (m : Int)) (I ((i : Int) + 1)) (wr.alloc (.cells #[I xt, I xf] 31)) from ⟨i + 1, hil, rfl, by rw [hsu, hm, hCT, Nat.add_assoc], hB1⟩))
      rw [← hCT]
      have HT := Lib.hid hin
      clear hbe c0 hx hB1 hin hi hbl hil hct hco hsu hCT
      by_cases h2 : xt = xf
      · have HN2 := Lib.hid (HN.out CT (by simp [h2]))
        have g2 : (xt != xf) = false := by simpa using h2
        clear h2 HN
        go_wp2_with fail
        exact ⟨HN2.out, by have := HT.out; simp [intOf]; omega⟩
      · have g2 : (xt != xf) = true := by simpa using h2
        have e5 : ((CT + 1 : Nat) : Int) = (CT : Int) + 1 := by omega
        have HN2 := Lib.hid (HN.out (CT + 1) (by simp [h2]))
        rw [e5] at HN2
        clear h2 HN e5
        go_wp2_with fail
        exact ⟨HN2.out, by have := HT.out; simp [intOf]; omega⟩
    · have d0 : decide (i < n) = false := by simpa using hin
      have hil : i = l.length := by have := HH.out.2.1; omega
      have hnv : cN + ct i (fun i => decide (tO l i ≠ fR l i)) = o := by rw [hil, HO.out.2.2.2.2.1]; omega
      rw [hnv]
      obtain ⟨bw, hbw⟩ : ∃ b, b = wr.heap.size := ⟨_, rfl⟩
      obtain ⟨W2, hW2⟩ : ∃ W, W = wr.alloc (.cells #[.slice none 0 0, .slice none 0 0] 52) := ⟨_, rfl⟩
      have HS2 := Lib.hid (show RtO w bw out (I 0) W2 from ⟨0, [], [], Nat.zero_le _, rfl, ⟨.slice none 0 0, .slice none 0 0, by rw [hbw, hW2]; exact Blk.new _ _ _, World.ownsRow_nil _ _ _ _, World.ownsRow_nil _ _ _ _, (fun k hk => by cases hk), (fun k hk => by cases hk), by rw [hbw]; exact hbe.size, rfl⟩, Rep.start, by simp, by rw [hW2]; exact hbe.alloc hbe.size _⟩)
      have HW2 := Lib.hid (And.intro hW2 hbw)
      have hlb : w.heap.size ≤ bw := by rw [hbw]; exact hbe.size
      have HLB := Lib.hid hlb
      clear hbe hin hi hil hnv hW2 hbw hlb
      go_upto_region 11 with (fail)
      change Code.wp _ _ _ _ (wr.alloc (.cells #[.slice none 0 0, .slice none 0 0] 52))
      rw [← HW2.out.2, ← HW2.out.1]
      go_wp2_with fail
      go_loopw [47] (fun iv W => RtO w bw out iv W) (fun iv _ => o - (intOf iv).toNat)
      case atStart => exact HS2.out
      case round =>
        obtain ⟨i, pl, hs, hi, rfl, hwo, hre, hpl, hbe⟩ := hrel
        by_cases hin : i < o
        · have hil : i < out.length := by rw [← HO.out.2.1]; exact hin
          obtain ⟨b, _, rfl, hbl, c0, e0⟩ := (HO.out.1.below movV_stays hbe).at i hil
          obtain rfl := e0
          rw [getD_mv hil] at c0
          obtain ⟨xt, xf, hx⟩ : ∃ a b, mv out i = (a, b) := ⟨_, _, rfl⟩
          rw [hx] at c0
          have x0 : wr.cell? (b.add (i * 2)) = some (I xt) := c0.f0
          have x1 : wr.cell? ⟨(b.add (i * 2)).block, (b.add (i * 2)).off + 1, none⟩ = some (I xf) := c0.f1
          have d0 : decide (i < o) = true := by simpa using hin
          have d1 : (0 : Int) ≤ (i : Int) := by omega
          have d2 : (i : Int) < (o : Int) := by omega
          obtain ⟨bx, hbx⟩ : ∃ g, g = wr.heap.size := ⟨_, rfl⟩
          obtain ⟨W1, hW1⟩ : ∃ W, W = wr.alloc (.cells #[I xt, I xf] 31) := ⟨_, rfl⟩
          obtain ⟨pv, hv, hwo⟩ := hwo
          have hap : bx ≠ bw ∧ pv.ownBlock ≠ some bx ∧ hv.ownBlock ≠ some bx := by
            have h1 := hwo.bk.lt
            exact ⟨by omega, fun e => by have := (hwo.po.lt bx e).2; omega, fun e => by have := (hwo.ho.lt bx e).2; omega⟩
          have HAP := Lib.hid hap
          have hbb : Below wr.heap.size wr W1 := by rw [hW1]; exact (Below.refl _ _).alloc (Nat.le_refl _) _
          have kx : Blk bx #[I xt, I xf] 31 W1 := by rw [hbx, hW1]; exact Blk.new _ _ _
          have hb1 := below_tr hbe hbb
          have hmem : (xt, xf) ∈ out := by rw [← hx]; exact mv_mem hil
          have hst : ex (out.take (i + 1)) id = ex1 (xt, xf) (ex (out.take i) id) := by rw [take_mv hil, hx, ex_snoc]
          have HCI := Lib.hid (HH.out.2.2.2 W1 hb1)
          have H1 := Lib.hid (And.intro (hwo.below hbb) (And.intro hre (And.intro hpl (And.intro hb1 (And.intro kx (And.intro hst (And.intro hin hil)))))))
          have hsafe : cN = 0 → xt ≠ spare ∧ xf ≠ spare := fun h0 => by
            have h9 := HO.out.2.2.2.1.mo (List.length_eq_zero_iff.1 (by rw [← HO.out.2.2.2.2.2.1, h0])) _ hmem
            obtain ⟨j, hj, e⟩ := mem_mv h9
            have h8 := HO.out.2.2.2.2.2.2 j hj
            unfold tO fR at h8
            rw [e] at h8
            exact h8
          have HW := Lib.hid (And.intro hW1 hbx)
          clear hap hwo hre hpl hbe hbb hb1 kx hmem hst hin hil hbl c0 hx hW1 hbx hi
          go_upto_region 14 with (fail)
          change Code.wp _ _ _ _ (wr.alloc (.cells #[I xt, I xf] 31))
          rw [← HW.out.2, ← HW.out.1]
          clear x0 x1
          go_cut [65] (fun bv W => bv = .bool false ∧ Below W1.heap.size W1 W)
          case first =>
            have y0 := H1.out.2.2.2.2.1.get 0 (I xt) rfl
            go_wp2_with fail
            refine HCI.out.mono ?_
            rintro e w2 ⟨rfl, hb2⟩
            have y0 := (H1.out.2.2.2.2.1.below hb2 H1.out.2.2.2.2.1.lt).get 0 (I xt) rfl
            have y1 := (H1.out.2.2.2.2.1.below hb2 H1.out.2.2.2.2.1.lt).get 1 (I xf) rfl
            have HB2 := Lib.hid hb2
            by_cases h0 : cN = 0
            · obtain ⟨s1, s2⟩ := hsafe h0
              have g1 : (xt == spare) = false := by simpa using s1
              have g2 : (xf == spare) = false := by simpa using s2
              subst h0
              clear s1 s2 hsafe hb2
              go_wp2_with fail
              go_meet
              case rel => exact ⟨rfl, HB2.out⟩
            · have g0 : ((cN : Int) == 0) = false := by simpa using h0
              clear h0 hsafe hb2
              go_wp2_with fail
              go_meet
              case rel => exact ⟨rfl, HB2.out⟩
          case rest =>
            obtain ⟨rfl, hb2⟩ := hcut
            have k2 := H1.out.2.2.2.2.1.below hb2 H1.out.2.2.2.2.1.lt
            have y1 := k2.get 1 (I xf) rfl
            have hbx := HW.out.2
            have HAT := Lib.hid (at_any w.heap.size bw pv hv xf pl hs (by have := H1.out.2.2.1; have := HO.out.2.2.1; have := H1.out.2.2.2.2.2.2.2; omega) wc (H1.out.1.below hb2))
            have H2 := Lib.hid (And.intro (below_tr H1.out.2.2.2.1 hb2) k2)
            clear hsafe hb2 k2 hbx
            go_wp2_with fail
            refine HAT.out.mono ?_
            rintro e w3 ⟨i1, pl1, hs1, rfl, hi1, hp1, ha1, ⟨pv1, hv1, hwo1⟩, hb3, hap3⟩
            have k3 : Blk bx #[I xt, I xf] 31 w3 := (hap3 bx H2.out.2.lt HAP.out.1 HAP.out.2.1 HAP.out.2.2).trans H2.out.2
            have y0 := k3.get 0 (I xt) rfl
            have hre1 := H1.out.2.1.at ha1
            have hx1 := at_ext ha1
            have hpb := H1.out.2.2.1
            have hob := HO.out.2.2.1
            have hib := H1.out.2.2.2.2.2.2.2
            have HAT2 := Lib.hid (at_any w.heap.size bw pv1 hv1 xt pl1 hs1 (by omega) w3 hwo1)
            have H3 := Lib.hid (And.intro hre1 (And.intro (H2.out.1.trans hb3) (And.intro hi1 (And.intro hp1 (show pl1.length ≤ 2 * i + 1 by omega)))))
            clear hwo1 hb3 hap3 k3 hre1 hx1 hpb hob hib hi1 hp1 ha1 y1
            go_wp2_with fail
            refine HAT2.out.mono ?_
            rintro e w4 ⟨i2, pl2, hs2, rfl, hi2, hp2, ha2, ⟨pv2, hv2, hwo2⟩, hb4, _⟩
            have hre2 := H3.out.1.at ha2
            have hx2 := at_ext ha2
            obtain ⟨hi1, hp1⟩ := hx2.1 i1 H3.out.2.2.1
            rw [H3.out.2.2.2.1] at hp1
            obtain ⟨gh, kh, hhv⟩ : ∃ g k, hv2 = .slice (some ⟨g, 0, none⟩) hs2.length k := by
              rcases hwo2.ho.form with ⟨_, h⟩ | h
              · rw [← hwo2.ln] at h; omega
              · exact h
            subst hhv
            have hln2 := hwo2.ln
            have hpl2 : pl2.length ≤ 2 * (i + 1) := by have := H3.out.2.2.2.2; have := hx2.2; omega
            have y1 := hwo2.bk.get 1 _ rfl
            have z1 := hwo2.ho.cell (i := i1) (by omega)
            have z2 := hwo2.ho.cell (i := i2) (by omega)
            have hfr : FreeB w4 gh := own_free hwo2.ho
            have f2 : w4.frozen? ⟨gh, i2, none⟩ = false := FreeB.thaw (a := ⟨gh, i2, none⟩) hfr
            obtain ⟨N2, hN2⟩ : ∃ m, m = hs2.length := ⟨_, rfl⟩
            have hi1b : i1 < N2 := by omega
            have hi2b : i2 < N2 := by omega
            have hNb : (N2 : Int) ≤ 4002 := by have := HO.out.2.2.1; have := H1.out.2.2.2.2.2.2.2; omega
            have hgw : gh ≠ bw := hwo2.d2 gh rfl
            have hgb : w.heap.size ≤ gh := (hwo2.ho.lt gh rfl).1
            obtain ⟨h1, hh1⟩ : ∃ z, z = hs2.getD i1 0 := ⟨_, rfl⟩
            obtain ⟨h2, hh2⟩ : ∃ z, z = hs2.getD i2 0 := ⟨_, rfl⟩
            rw [← hh1] at z1
            rw [← hh2] at z2
            rw [← hN2] at y1
            have HN := Lib.hid (show RtO w bw out (I ((i : Int) + 1)) (w4.drew.setCell ⟨gh, i2, none⟩ (I h1)) from
              ⟨i + 1, pl2, hs2.set i2 h1, by have := H1.out.2.2.2.2.2.2.2; omega, rfl, ⟨pv2, .slice (some ⟨gh, 0, none⟩) hs2.length kh,
                ⟨Blk.setOther (w := w4.drew) hwo2.bk (fun e => hgw e.symm) _ _, own_set (w := w4.drew) hwo2.po (fun e => by
                  have := (hwo2.d1 gh e.symm).2
                  exact this rfl), NumI.set (W := w4.drew) hwo2.ho i2 h1, hwo2.d1, hwo2.d2, hwo2.le, by rw [List.length_set]; exact hwo2.ln⟩⟩, by
                have h9 := hre2.move (m := (xt, xf)) hi1 hi2 hp1 hp2
                rw [H1.out.2.2.2.2.2.1, hh1]
                exact h9, hpl2, ((H3.out.2.1.trans hb4).drew).setCell hgb _⟩)
            have HT := Lib.hid H1.out.2.2.2.2.2.2.1
            have e1 : (0 : Int) ≤ (i1 : Int) := by omega
            have e2 : (i1 : Int) < (N2 : Int) := by omega
            have e3 : (0 : Int) ≤ (i2 : Int) := by omega
            have e4 : (i2 : Int) < (N2 : Int) := by omega
            clear hwo2 hb4 hre2 hx2 hi1 hp1 hln2 hpl2 hfr hN2 hi1b hi2b hgw hgb hh1 hh2 hi2 hp2 ha2 y0
            go_upto_region 18 with (fail)
            go_still_tail 13, (by kernel_rfl)
            go_wp2_with fail
            exact ⟨HN.out, by have := HT.out; simp [intOf]; omega⟩
        · have d0 : decide (i < o) = false := by simpa using hin
          have hio : i = out.length := by have := HO.out.2.1; omega
          have HS3 := Lib.hid (show RtL w bw o (ex out id) l (I 0) wr from ⟨0, pl, hs, Nat.zero_le _, rfl, hwo, by rw [hio, List.take_length] at hre; exact hre, by have := HO.out.2.1; omega, hbe⟩)
          clear hwo hre hpl hbe hin hi hio
          go_wp2_with fail
          go_loopw [90] (fun iv W => RtL w bw o (ex out id) l iv W) (fun iv _ => n - (intOf iv).toNat)
          case atStart => exact HS3.out
          case round =>
            obtain ⟨i, pl, hs, hi, rfl, hwo, hre, hpl, hbe⟩ := hrel
            by_cases hin : i < n
            · have hil : i < l.length := by rw [← HH.out.2.1]; exact hin
              obtain ⟨b, _, rfl, hbl, c0, e0⟩ := (HH.out.1.below movV_stays hbe).at i hil
              obtain rfl := e0
              rw [getD_mv hil] at c0
              obtain ⟨xt, xf, hx⟩ : ∃ a b, mv l i = (a, b) := ⟨_, _, rfl⟩
              rw [hx] at c0
              have x0 : wr.cell? (b.add (i * 2)) = some (I xt) := c0.f0
              have x1 : wr.cell? ⟨(b.add (i * 2)).block, (b.add (i * 2)).off + 1, none⟩ = some (I xf) := c0.f1
              have d0 : decide (i < n) = true := by simpa using hin
              have d1 : (0 : Int) ≤ (i : Int) := by omega
              have d2 : (i : Int) < (n : Int) := by omega
              obtain ⟨pv, hv, hwo⟩ := hwo
              obtain ⟨bx, hbx⟩ : ∃ g, g = wr.heap.size := ⟨_, rfl⟩
              obtain ⟨W1, hW1⟩ : ∃ W, W = wr.alloc (.cells #[I xt, I xf] 31) := ⟨_, rfl⟩
              have hbb : Below wr.heap.size wr W1 := by rw [hW1]; exact (Below.refl _ _).alloc (Nat.le_refl _) _
              have kx : Blk bx #[I xt, I xf] 31 W1 := by rw [hbx, hW1]; exact Blk.new _ _ _
              have hap : bx ≠ bw ∧ pv.ownBlock ≠ some bx ∧ hv.ownBlock ≠ some bx := by
                have h1 := hwo.bk.lt
                exact ⟨by omega, fun e => by have := (hwo.po.lt bx e).2; omega, fun e => by have := (hwo.ho.lt bx e).2; omega⟩
              have hed : ex out id xt = xf := by
                have h9 := HO.out.2.2.2.1.ed i hil
                unfold tO fR at h9
                rw [hx] at h9
                exact h9
              have HAT := Lib.hid (at_any w.heap.size bw pv hv xt pl hs (by have := HO.out.2.2.1; have := HO.out.2.1; have := HH.out.2.2.1; omega) W1 (hwo.below hbb))
              have H1 := Lib.hid (And.intro hre (And.intro hpl (And.intro (below_tr hbe hbb) (And.intro kx (And.intro hap (And.intro hed (And.intro hin hil)))))))
              have HW := Lib.hid (And.intro hW1 hbx)
              clear hwo hre hpl hbe hbb kx hap hed hin hil hbl c0 hx hW1 hbx hi
              go_upto_region 23 with (fail)
              change Code.wp _ _ _ _ (wr.alloc (.cells #[I xt, I xf] 31))
              rw [← HW.out.2, ← HW.out.1]
              clear x0 x1
              have y0 := H1.out.2.2.2.1.get 0 (I xt) rfl
              go_wp2_with fail
              refine HAT.out.mono ?_
              rintro e w4 ⟨i2, pl2, hs2, rfl, hi2, hp2, ha2, ⟨pv2, hv2, hwo2⟩, hb4, hap4⟩
              have k4 : Blk bx #[I xt, I xf] 31 w4 := (hap4 bx H1.out.2.2.2.1.lt H1.out.2.2.2.2.1.1 H1.out.2.2.2.2.1.2.1 H1.out.2.2.2.2.1.2.2).trans H1.out.2.2.2.1
              have hre2 := H1.out.1.at ha2
              have hx2 := at_ext ha2
              obtain ⟨gh, kh, hhv⟩ : ∃ g k, hv2 = .slice (some ⟨g, 0, none⟩) hs2.length k := by
                rcases hwo2.ho.form with ⟨_, h⟩ | h
                · rw [← hwo2.ln] at h; omega
                · exact h
              subst hhv
              have hln2 := hwo2.ln
              have y1 := hwo2.bk.get 1 _ rfl
              have z2 := hwo2.ho.cell (i := i2) (by omega)
              have hval : hs2.getD i2 0 = xf := by rw [hre2.has i2 hi2, hp2]; exact H1.out.2.2.2.2.2.1
              rw [hval] at z2
              obtain ⟨N2, hN2⟩ : ∃ m, m = hs2.length := ⟨_, rfl⟩
              rw [← hN2] at y1
              have hi2b : i2 < N2 := by omega
              have hNb : (N2 : Int) ≤ 5002 := by have := HO.out.2.2.1; have := HO.out.2.1; have := H1.out.2.1; have := hx2.2; have := HH.out.2.2.1; have := H1.out.2.2.2.2.2.2.2; omega
              have hb5 := H1.out.2.2.1.trans hb4
              have HN := Lib.hid (show RtL w bw o (ex out id) l (I ((i : Int) + 1)) w4 from ⟨i + 1, pl2, hs2, H1.out.2.2.2.2.2.2.2, rfl, ⟨_, _, hwo2⟩, hre2, by have := H1.out.2.1; have := hx2.2; omega, hb5⟩)
              have HT := Lib.hid H1.out.2.2.2.2.2.2.1
              have e3 : (0 : Int) ≤ (i2 : Int) := by omega
              have e4 : (i2 : Int) < (N2 : Int) := by omega
              have u0 := k4.get 0 (I xt) rfl
              have u1 := k4.get 1 (I xf) rfl
              clear y0 hwo2 hb4 hre2 hx2 hln2 hN2 hi2b hi2 hp2 ha2 hap4 k4 hval hb5
              go_wp2_with fail
              go_quiet (fail)
              have HN2 := Lib.hid (show RtL w bw o (ex out id) l (I ((i : Int) + 1)) (w4.drewN nq) from by
                obtain ⟨j, p, h, q1, q2, ⟨pv, hv, q3⟩, q4, q5, q6⟩ := HN.out
                exact ⟨j, p, h, q1, q2, ⟨pv, hv, ⟨q3.bk, q3.po, q3.ho, q3.d1, q3.d2, q3.le, q3.ln⟩⟩, q4, q5, below_drewN q6 nq⟩)
              go_wp2_with fail
              exact ⟨HN2.out, by have := HT.out; simp [intOf]; omega⟩
            · have d0 : decide (i < n) = false := by simpa using hin
              obtain ⟨pv, hv, hwo⟩ := hwo
              obtain ⟨N, hN⟩ : ∃ N, N = pl.length := ⟨_, rfl⟩
              obtain ⟨sp, kp, hpv⟩ := hwo.po.row
              obtain ⟨sh, kh, hhv⟩ := hwo.ho.row
              rw [← hwo.ln, ← hN] at hhv
              rw [← hN] at hpv
              have y0 := hwo.bk.get 0 pv rfl
              rw [hpv] at y0
              have hNb : (N : Int) ≤ 5002 := by have := HO.out.2.2.1; have := HO.out.2.1; have := HH.out.2.2.1; omega
              have HS4 := Lib.hid (show RtP w bw pv hv pl hs (I 0) wr from ⟨0, Nat.zero_le _, rfl, hwo, hbe⟩)
              have HP := Lib.hid (And.intro hN (And.intro hpv (And.intro hhv (And.intro hre hwo.ln))))
              clear hwo hre hpl hbe hin hi hN hpv hhv
              go_wp2_with fail
              go_loopw [114] (fun iv W => RtP w bw pv hv pl hs iv W) (fun iv _ => N - (intOf iv).toNat)
              case atStart => exact HS4.out
              case round =>
                obtain ⟨i, hi, rfl, hwo, hbe⟩ := hrel
                by_cases hin : i < N
                · have hil : i < pl.length := by rw [← HP.out.1]; exact hin
                  obtain ⟨gp, rfl⟩ : ∃ g, sp = some ⟨g, 0, none⟩ := by
                    rcases hwo.po.form with ⟨_, h⟩ | ⟨g, k, h⟩
                    · omega
                    · rw [HP.out.2.1] at h; cases h; exact ⟨g, rfl⟩
                  have hpo := hwo.po
                  rw [HP.out.2.1] at hpo
                  have z0 := hpo.cell hil
                  obtain ⟨p, hp⟩ : ∃ p, p = pl.getD i 0 := ⟨_, rfl⟩
                  rw [← hp] at z0
                  have d0 : decide (i < N) = true := by simpa using hin
                  have d1 : (0 : Int) ≤ (i : Int) := by omega
                  have d2 : (i : Int) < (N : Int) := by omega
                  have HS5 := Lib.hid (show RtI w bw pv hv pl hs l p (p == spare) (.bool (p == spare)) (I 0) wr from ⟨0, Nat.zero_le _, rfl, by simp [isTo], hwo, hbe⟩)
                  have HT := Lib.hid (And.intro hin (And.intro hp hil))
                  clear hpo hwo hbe hin hil hp hi
                  go_wp2_with fail
                  go_loopw [20, 124] (fun gv kv W => RtI w bw pv hv pl hs l p (p == spare) gv kv W) (fun _ kv _ => n - (intOf kv).toNat)
                  case atStart => exact HS5.out
                  case round =>
                    obtain ⟨k, hk, rfl, rfl, hwo, hbe⟩ := hrel
                    by_cases hkn : k < n
                    · have hkl : k < l.length := by rw [← HH.out.2.1]; exact hkn
                      obtain ⟨b', _, rfl, hbl', c1, e2⟩ := (HH.out.1.below movV_stays hbe).at k hkl
                      obtain rfl := e2
                      rw [getD_mv hkl] at c1
                      obtain ⟨zt, zf, hz⟩ : ∃ a b, mv l k = (a, b) := ⟨_, _, rfl⟩
                      rw [hz] at c1
                      have w0 : wr.cell? (b'.add (k * 2)) = some (I zt) := c1.f0
                      have w1 : wr.cell? ⟨(b'.add (k * 2)).block, (b'.add (k * 2)).off + 1, none⟩ = some (I zf) := c1.f1
                      have q3 : decide (k < n) = true := by simpa using hkn
                      have q4 : (0 : Int) ≤ (k : Int) := by omega
                      have q5 : (k : Int) < (n : Int) := by omega
                      have hsu := isTo_succ l p k
                      rw [show tO l k = zt by unfold tO; rw [hz]] at hsu
                      have HN := Lib.hid (fun (u : Bool) (hu : u = ((p == spare) || isTo l p (k + 1))) => (show RtI w bw pv hv pl hs l p (p == spare) (.bool u) (I ((k : Int) + 1)) (wr.alloc (.cells #[I zt, I zf] 31)) from ⟨k + 1, hkl, rfl, by rw [hu], hwo.below ((Below.refl _ _).alloc (Nat.le_refl _) _), hbe.alloc hbe.size _⟩))
                      obtain ⟨u, hu⟩ : ∃ u, u = ((p == spare) || isTo l p k) := ⟨_, rfl⟩
                      rw [← hu]
                      have HU := Lib.hid (And.intro hu (And.intro hsu hkn))
                      clear hwo hbe c1 hz hkl hkn hsu hu hk hbl'
                      cases u with
                      | true =>
                        go_wp2_with fail
                        exact ⟨HN.out true (by rw [HU.out.2.1, ← Bool.or_assoc, ← HU.out.1]; rfl), by have := HU.out.2.2; simp [intOf]; omega⟩
                      | false =>
                        by_cases h1 : zt = p
                        · subst h1
                          go_wp2_with fail
                          exact ⟨HN.out true (by rw [HU.out.2.1, ← Bool.or_assoc, ← HU.out.1]; simp), by have := HU.out.2.2; simp [intOf]; omega⟩
                        · have g1 : (zt == p) = false := by simpa using h1
                          have HV := Lib.hid h1
                          clear h1
                          go_wp2_with fail
                          exact ⟨HN.out false (by rw [HU.out.2.1, ← Bool.or_assoc, ← HU.out.1]; simp [HV.out]), by have := HU.out.2.2; simp [intOf]; omega⟩
                    · have q3 : decide (k < n) = false := by simpa using hkn
                      have hkk : k = l.length := by have := HH.out.2.1; omega
                      have HN := Lib.hid (show RtP w bw pv hv pl hs (I ((i : Int) + 1)) wr from ⟨i + 1, HT.out.2.2, rfl, hwo, hbe⟩)
                      have hgv : ((p == spare) || isTo l p k) = false → hs.getD i 0 = p := fun hf => by
                        rw [Bool.or_eq_false_iff] at hf
                        rw [HP.out.2.2.2.1.has i HT.out.2.2, ← HT.out.2.1]
                        refine HO.out.2.2.2.1.eo p (by simpa using hf.1) (fun j hj e => ?_)
                        have h9 := hf.2
                        unfold isTo at h9
                        have h8 := List.any_eq_false.1 h9 j (List.mem_range.2 (by omega))
                        simp [e] at h8
                      obtain ⟨gh, hsh⟩ : ∃ g, sh = some ⟨g, 0, none⟩ := by
                        rcases hwo.ho.form with ⟨_, h⟩ | ⟨g, k, h⟩
                        · rw [← HP.out.2.2.2.2] at h
                          have := HT.out.2.2
                          omega
                        · rw [HP.out.2.2.1] at h; cases h; exact ⟨g, rfl⟩
                      have y1 := hwo.bk.get 1 hv rfl
                      have hho := hwo.ho
                      rw [HP.out.2.2.1, hsh] at hho
                      have z1 := hho.cell (i := i) (by rw [← HP.out.2.2.2.2]; exact HT.out.2.2)
                      rw [HP.out.2.2.1, hsh] at y1
                      obtain ⟨u, hu⟩ : ∃ u, u = ((p == spare) || isTo l p k) := ⟨_, rfl⟩
                      rw [← hu] at hgv ⊢
                      clear hwo hbe hkn hkk hho hsh hu hk
                      cases u with
                      | true =>
                        clear hgv
                        go_wp2_with fail
                        exact ⟨HN.out, by have := HT.out.1; simp [intOf]; omega⟩
                      | false =>
                        rw [hgv rfl] at z1
                        clear hgv
                        go_wp2_with fail
                        exact ⟨HN.out, by have := HT.out.1; simp [intOf]; omega⟩
                · have d0 : decide (i < N) = false := by simpa using hin
                  have FIN := Lib.hid (show RightT w wr (.returned (.bool true)) from ⟨rfl, hbe⟩)
                  clear hwo hbe hin hi
                  go_wp2_with fail
                  go_ret
                  exact FIN.out
end Go.Proofs.Ytnbkcdhblmfopaa
