/-
  Paint: walked.
-/
import Derived.Test.YtgblpfahgpneoaaPtU
import Derived.Test.YtgblpfahgpneoaaPtK
import Derived.Test.YtgblpfahgpneoaaPtN
import Derived.Test.YtgblpfahgpneoaaPtQ
namespace Go.Proofs.Ytgblpfahgpneoaa
open Go Go.RowKit

def PaintOK (n k : Nat) (l : List P2) (w W : World) (e : Ending) : Prop := ∃ b C, e = .returned (.tuple #[.slice (some ⟨b, 0, none⟩) n n, I 0]) ∧ w.heap.size ≤ b ∧ Blk b (arrF n fun i => I (C i)) 3 W ∧ Col n k l C ∧ Below w.heap.size w W
def PaintForm (w W : World) (e : Ending) : Prop := e = .returned (.tuple #[.slice none 0 0, I 3]) ∧ Below w.heap.size w W
theorem PaF.trans {w W W' : World} {base bc bw bt : Nat} (h : PaF w base bc bw bt W) (h' : PaF W base bc bw bt W') : PaF w base bc bw bt W' :=
  ⟨h.b.trans h'.b, fun j hj e1 e2 e3 => (h'.f j (Nat.lt_of_lt_of_le hj h.b.size) e1 e2 e3).trans (h.f j hj e1 e2 e3)⟩
def Pv (n : Nat) (nr lk : Nat → List Nat) (k base bp bc bw bt : Nat) (nv lv : Value) (out : List Nat) (w : World) (iv : Value) (W : World) : Prop :=
  ∃ (i : Nat) (C Wh : Nat → Int) (T : Nat → Nat), i ≤ out.length ∧ iv = I (i : Int) ∧ PvI n nr lk k (out.take i) C Wh T ∧ Pain n nr lk k base bp bc bw bt nv lv C Wh T W ∧ PaF w base bc bw bt W

set_option maxRecDepth 100000 in
set_option maxHeartbeats 1600000 in
theorem paint_bad (n k : Int) (a a' : Option Addr) (m c m' c' : Nat) (h : n < 0 ∨ 60000 < n ∨ k < 0 ∨ 16 < k) (w : World) :
    Calls Try.prog 9 #[I n, .slice a m c, .slice a' m' c', I k] w fun e w' => e = .returned (.tuple #[.slice none 0 0, I 1]) ∧ w' = w := by
  go_enter Try.func9, Try.ntmps9
  go_wp2_with fail
  all_goals first
    | (exfalso; omega)
    | (go_ret2
       exact ⟨rfl, rfl⟩)

set_option maxRecDepth 100000 in
set_option maxHeartbeats 3200000 in
theorem paint_of (n k : Nat) (hn : n ≤ 60000) (hk : k ≤ 16) (a a' : Option Addr) (m c m' c' : Nat) (l l2 : List P2) (hm : m = l.length) (hl : m ≤ 4000) (hc : m ≤ c) (hm2 : m' = l2.length) (hl2 : m' ≤ 4000) (hc2 : m' ≤ c') (w : World) (h : PairZ w (.slice a m c) l) (h2 : PairZ w (.slice a' m' c') l2) :
    Calls Try.prog 9 #[I (n : Int), .slice a m c, .slice a' m' c', I (k : Int)] w fun e w' => (AreN n l ∧ AreN n l2 → PaintOK n k l w w' e) ∧ (¬ (AreN n l ∧ AreN n l2) → PaintForm w w' e) := by
  have HN1 := Lib.hid (areNodes_any n hn a m c l hm hl hc w h)
  have e1 : (n : Int) ≤ 60000 := by omega
  have e2 : (k : Int) ≤ 16 := by omega
  have e3 : (0 : Int) ≤ (n : Int) := by omega
  have e4 : (0 : Int) ≤ (k : Int) := by omega
  have HH := Lib.hid (And.intro hn (And.intro hk (And.intro hm (And.intro hl (And.intro hc (And.intro hm2 (And.intro hl2 (And.intro hc2 (And.intro h h2)))))))))
  clear hn hk hm hl hc hm2 hl2 hc2 h h2
  go_enter Try.func9, Try.ntmps9
  go_wp2_with fail
  refine HN1.out.mono ?_
  rintro e w1 ⟨b1, rfl, hb1, hB1⟩
  cases b1 with
  | false =>
    have FIN := Lib.hid (show PaintForm w w1 (.returned (.tuple #[.slice none 0 0, I 3])) from ⟨rfl, hB1⟩)
    have HA := Lib.hid (show ¬ AreN n l from fun hx => by have h9 := hb1.2 hx; cases h9)
    clear hb1 hB1
    go_wp2_with fail
    go_ret2
    exact ⟨fun hx => absurd hx.1 HA.out, fun _ => FIN.out⟩
  | true =>
    have hA := hb1.1 rfl
    obtain ⟨hn, hk, hm, hl, hc, hm2, hl2, hc2, h, h2⟩ := HH.out
    have HN2 := Lib.hid (areNodes_any n hn a' m' c' l2 hm2 hl2 hc2 w1 (h2.below pairV_stays hB1))
    have H1 := Lib.hid (And.intro hA hB1)
    clear hb1 hB1 hA hn hk hm hl hc hm2 hl2 hc2 h h2
    go_wp2_with fail
    refine HN2.out.mono ?_
    rintro e w2 ⟨b2, rfl, hb2, hB2⟩
    cases b2 with
    | false =>
      have FIN := Lib.hid (show PaintForm w w2 (.returned (.tuple #[.slice none 0 0, I 3])) from ⟨rfl, H1.out.2.trans (hB2.mono H1.out.2.size)⟩)
      have HA := Lib.hid (show ¬ AreN n l2 from fun hx => by have h9 := hb2.2 hx; cases h9)
      clear hb2 hB2
      go_wp2_with fail
      go_ret2
      exact ⟨fun hx => absurd hx.2 HA.out, fun _ => FIN.out⟩
    | true =>
      have hA2 := hb2.1 rfl
      have hB2' : Below w.heap.size w w2 := H1.out.2.trans (hB2.mono H1.out.2.size)
      obtain ⟨hn, hk, hm, hl, hc, hm2, hl2, hc2, h, h2⟩ := HH.out
      have HK := Lib.hid (neighbours_any n hn a m c l hm hl hc H1.out.1 w2 (h.below pairV_stays hB2'))
      have H2 := Lib.hid (And.intro hA2 hB2')
      clear hb2 hB2 hB2' hA2 hn hk hm hl hc hm2 hl2 hc2 h h2
      go_wp2_with fail
      refine HK.out.mono ?_
      rintro e w3 ⟨nv, rfl, hz3, hB3⟩
      have hB3' : Below w.heap.size w w3 := H2.out.2.trans (hB3.mono H2.out.2.size)
      obtain ⟨hn, hk, hm, hl, hc, hm2, hl2, hc2, h, h2⟩ := HH.out
      have HK2 := Lib.hid (neighbours_any n hn a' m' c' l2 hm2 hl2 hc2 H2.out.1 w3 (h2.below pairV_stays hB3'))
      have H3 := Lib.hid (And.intro hz3 hB3')
      clear hz3 hB3 hB3' hn hk hm hl hc hm2 hl2 hc2 h h2
      go_wp2_with fail
      refine HK2.out.mono ?_
      rintro e w4 ⟨lv, rfl, hz4, hB4⟩
      have hB4' : Below w.heap.size w w4 := H3.out.2.trans (hB4.mono H3.out.2.size)
      have hz3' : Gz w4.heap.size nv n (fun t => dd (nbs l t)) w4 := (H3.out.1.keep hB4.block).lower hB4.size
      have HNP := Lib.hid (newPainter_any (k := k) HH.out.1 w4 hz3' hz4)
      have H4 := Lib.hid hB4'
      clear hz4 hB4 hB4' hz3'
      go_wp2_with fail
      refine HNP.out.mono ?_
      rintro e w5 ⟨p, rfl, bp, bc, bw, bt, rfl, hpn, hB5⟩
      have hB5' : Below w.heap.size w w5 := H4.out.trans (hB5.mono H4.out.size)
      have HO := Lib.hid (order_any HH.out.1 (gr_of H1.out.1) w5 (by have := hpn.pb.lt; have := hpn.lt.1; omega) hpn.ng)
      have x0 := hpn.pb.get 0 nv rfl
      have H5 := Lib.hid (And.intro hpn hB5')
      clear hpn hB5 hB5'
      go_wp2_with fail
      refine HO.out.mono ?_
      rintro e w6 ⟨ov, out, rfl, hown, hnd, hmem, hB6⟩
      have hpn := H5.out.1.below hB6
      have hB6' : Below w.heap.size w w6 := H5.out.2.trans (hB6.mono H5.out.2.size)
      have hI0 : PvI n (fun t => dd (nbs l t)) (fun t => dd (nbs l2 t)) k [] (lessM n) (lessM n) fun _ => 0 := by
        refine PvI.start HH.out.1 HH.out.2.1 (fun v hv => ⟨?_, fun x hx => (gr_of H1.out.1).lt v hv x hx⟩) (fun v hv => ⟨?_, fun x hx => (gr_of H2.out.1).lt v hv x hx⟩) (fun v hv => ?_) (fun v hv => ?_)
        · have := dd_len (nbs l v); have := nbs_len v l; have := HH.out.2.2.1; have := HH.out.2.2.2.1; omega
        · have := dd_len (nbs l2 v); have := nbs_len v l2; have := HH.out.2.2.2.2.2.1; have := HH.out.2.2.2.2.2.2.1; omega
        · unfold lessM; rw [if_pos hv]
        · unfold lessM; rw [if_pos hv]
      have HS := Lib.hid (show Pv n (fun t => dd (nbs l t)) (fun t => dd (nbs l2 t)) k w4.heap.size bp bc bw bt nv lv out w6 (I 0) w6 from ⟨0, _, _, _, Nat.zero_le _, rfl, hI0, hpn, Below.refl _ _, fun _ _ _ _ _ => rfl⟩)
      obtain ⟨oa, oc, rfl⟩ := nums_row hown
      obtain ⟨o, ho⟩ : ∃ o, o = out.length := ⟨_, rfl⟩
      rw [← ho] at hown
      have hon : o ≤ n := by rw [ho]; exact Po.nodup_len hnd (fun x hx => (hmem x).1 hx)
      have e6 : (o : Int) ≤ 60000 := by omega
      have hcell : ∀ i (h : i < o), ∃ g, oa = some ⟨g, 0, none⟩ ∧ w5.heap.size ≤ g ∧ g < w6.heap.size ∧ w6.cell? ⟨g, i, none⟩ = some (I ((out.getD i 0 : Nat) : Int)) := fun i hi => by
        unfold Nums at hown
        rw [← ho] at hown
        rcases own_slice hown with ⟨_, e⟩ | ⟨g, cap, e⟩
        · omega
        · cases e
          exact ⟨g, rfl, (hown.lt g rfl).1, (hown.lt g rfl).2, nums_get hown ho.symm i hi⟩
      have hlt : bc < w5.heap.size ∧ bw < w5.heap.size ∧ bt < w5.heap.size ∧ bp < w5.heap.size := ⟨H5.out.1.cb.lt, H5.out.1.wb.lt, H5.out.1.tb.lt, H5.out.1.pb.lt⟩
      have HP := Lib.hid (And.intro hnd (And.intro hmem (And.intro hB6' (And.intro hcell (And.intro hlt (And.intro ho (And.intro H5.out.1.lt (hB6.size))))))))
      clear hnd hmem hB6' hcell hlt ho hI0 hpn hB6 x0 hown
      rw [← HP.out.2.2.2.2.2.1]
      go_wp2_with fail
      go_loopw [51] (fun iv W => Pv n (fun t => dd (nbs l t)) (fun t => dd (nbs l2 t)) k w4.heap.size bp bc bw bt nv lv out w6 iv W) (fun iv _ => o - (intOf iv).toNat)
      case atStart => exact HS.out
      case round =>
        obtain ⟨i, C, Wh, T, hi, rfl, hI, hpn, hF⟩ := hrel
        by_cases hin : i < o
        · obtain ⟨g, rfl, g1, g2, g3⟩ := HP.out.2.2.2.1 i hin
          obtain ⟨v, hv⟩ : ∃ v, v = out.getD i 0 := ⟨_, rfl⟩
          rw [← hv] at g3
          have hio : i < out.length := by rw [← HP.out.2.2.2.2.2.1]; exact hin
          have hvm : v = out[i] := by rw [hv, getD_of _ _ _ hio]
          have hvn : v < n := (HP.out.2.1 v).1 (by rw [hvm]; exact List.getElem_mem hio)
          have hvo : v ∉ out.take i := by rw [hvm]; exact Po.take_new HP.out.1 hio
          have cx : wr.cell? ⟨g, i, none⟩ = some (I (v : Int)) := by
            unfold World.cell? at g3 ⊢
            have := HP.out.2.2.2.2.1
            rw [hF.f g g2 (by omega) (by omega) (by omega)]
            exact g3
          have HC := Lib.hid (paint_any v hvn hI.ok wr hpn)
          have d0 : decide (i < o) = true := by simpa using hin
          have d1 : (0 : Int) ≤ (i : Int) := by omega
          have d2 : (i : Int) < (o : Int) := by omega
          have hst := fun (b : Int) (hb : BestP (fun c => !tk T v c) (fun c => slS C T k (dd (nbs l2 v)) c - wnS C Wh (dd (nbs l v)) c) k b) => PvI.step (gr_of H1.out.1) hI hvn hvo hb
          rw [show out.take i ++ [v] = out.take (i + 1) by rw [List.take_succ_eq_append_getElem hio, hvm]] at hst
          have HT := Lib.hid (And.intro hF (And.intro hin hio))
          have HSt := Lib.hid hst
          clear hI hpn hF hin hio hvm hvn hvo g3 hv hi hst
          go_wp2_with fail
          refine HC.out.mono ?_
          rintro e w7 ⟨bb, rfl, hbp, hF7, hpn7⟩
          have HN := Lib.hid (show Pv n (fun t => dd (nbs l t)) (fun t => dd (nbs l2 t)) k w4.heap.size bp bc bw bt nv lv out w6 (I ((i : Int) + 1)) w7 from ⟨i + 1, _, _, _, HT.out.2.2, rfl, HSt.out _ hbp, hpn7, HT.out.1.trans hF7⟩)
          clear hbp hF7 hpn7
          go_wp2_with fail
          exact ⟨HN.out, by have := HT.out.2.1; simp [intOf]; omega⟩
        · have d0 : decide (i < o) = false := by simpa using hin
          have hil : i = out.length := by have := HP.out.2.2.2.2.2.1; omega
          rw [hil, List.take_length] at hI
          have x3 := hpn.pb.get 3 _ rfl
          have FIN := Lib.hid (show PaintOK n k l w wr (.returned (.tuple #[.slice (some ⟨bc, 0, none⟩) n n, I 0])) from ⟨bc, C, rfl, by have := H4.out.size; have := HP.out.2.2.2.2.2.2.1; omega, hpn.cb, hI.col H1.out.1 (fun v hv => (HP.out.2.1 v).2 hv), HP.out.2.2.1.trans (hF.b.mono (by have := H4.out.size; omega))⟩)
          have HA := Lib.hid (And.intro H1.out.1 H2.out.1)
          clear hI hpn hF hin hi hil
          go_wp2_with fail
          go_ret2
          exact ⟨fun _ => FIN.out, fun hx => absurd HA.out hx⟩
end Go.Proofs.Ytgblpfahgpneoaa
