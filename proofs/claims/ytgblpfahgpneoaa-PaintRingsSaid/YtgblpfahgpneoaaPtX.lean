/-
  PaintRings: walked.
-/
import Derived.Test.YtgblpfahgpneoaaPtY
namespace Go.Proofs.Ytgblpfahgpneoaa
open Go Go.RowKit Go.Sort Go.BigFrame

def rn (M i : Nat) : Nat := if i + 1 < M then i + 1 else 0
def rg (M i : Nat) : P2 := ((i : Int), (rn M i : Int))
def ringL (M i : Nat) : List P2 := (List.range i).map (rg M)
theorem ringL_len (M i : Nat) : (ringL M i).length = i := by simp [ringL]
theorem ringL_app (M i : Nat) : ringL M (i + 1) = ringL M i ++ [rg M i] := by unfold ringL; rw [List.range_succ, List.map_append]; rfl
theorem ring_are {M : Nat} (h : 1 ≤ M) : AreN M (ringL M M) := fun p hp => by
  obtain ⟨i, hi, rfl⟩ := List.mem_map.1 hp
  have := List.mem_range.1 hi
  unfold NodeP rg rn
  dsimp only
  split <;> omega
theorem ring_nei {M v x : Nat} (h : Nei (ringL M M) v x) : x = rn M v ∨ v = rn M x ∧ x < M := by
  obtain ⟨p, hp, h1, h2⟩ := h
  obtain ⟨i, hi, rfl⟩ := List.mem_map.1 hp
  have hi' := List.mem_range.1 hi
  unfold rg at h2
  dsimp only at h2
  rcases h2 with ⟨e1, e2⟩ | ⟨e1, e2⟩
  · obtain rfl : i = v := by omega
    left; omega
  · obtain rfl : i = x := by omega
    right; omega
theorem rn_inj {M x y : Nat} (hx : x < M) (hy : y < M) (h : rn M x = rn M y) : x = y := by
  unfold rn at h
  split at h <;> split at h <;> omega
/-- Three colours are enough for a ring. -/
theorem ring_col {M : Nat} {C : Nat → Int} (h : Col M 3 (ringL M M) C) {v : Nat} (hv : v < M) : 0 ≤ C v := Classical.byContradiction fun hc => by
  have hm1 : C v = -1 := by have := (h.bo v hv).1; omega
  obtain ⟨x0, n0, c0⟩ := h.fu v hv hm1 0 (by omega)
  obtain ⟨x1, n1, c1⟩ := h.fu v hv hm1 1 (by omega)
  obtain ⟨x2, n2, c2⟩ := h.fu v hv hm1 2 (by omega)
  have ne01 : x0 ≠ x1 := fun e => by rw [e, c1] at c0; omega
  have ne02 : x0 ≠ x2 := fun e => by rw [e, c2] at c0; omega
  have ne12 : x1 ≠ x2 := fun e => by rw [e, c2] at c1; omega
  have inj : ∀ x y, (v = rn M x ∧ x < M) → (v = rn M y ∧ y < M) → x = y := fun x y hx hy => rn_inj hx.2 hy.2 (hx.1.symm.trans hy.1)
  rcases ring_nei n0 with e0 | e0 <;> rcases ring_nei n1 with e1 | e1 <;> rcases ring_nei n2 with e2 | e2
  · exact ne01 (e0.trans e1.symm)
  · exact ne01 (e0.trans e1.symm)
  · exact ne02 (e0.trans e2.symm)
  · exact ne12 (inj _ _ e1 e2)
  · exact ne12 (e1.trans e2.symm)
  · exact ne02 (inj _ _ e0 e2)
  · exact ne01 (inj _ _ e0 e1)
  · exact ne01 (inj _ _ e0 e1)
def RgR (w : World) (M base : Nat) (ov iv : Value) (W : World) : Prop := ∃ i : Nat, i ≤ M ∧ iv = I (i : Int) ∧ PairO W base ov (ringL M i) ∧ Below w.heap.size w W ∧ base ≤ W.heap.size ∧ w.heap.size ≤ base
theorem tmod_nat (a b : Nat) : ((a : Int) + 1).tmod (b : Int) = (((a + 1) % b : Nat) : Int) := by
  rw [Int.tmod_eq_emod_of_nonneg (by omega)]
  rfl
theorem rn_mod {M i : Nat} (h : i < M) : (i + 1) % M = rn M i := by
  unfold rn
  by_cases e : i + 1 < M
  · rw [if_pos e, Nat.mod_eq_of_lt e]
  · rw [if_neg e, show i + 1 = M by omega, Nat.mod_self]

set_option maxRecDepth 100000 in
set_option maxHeartbeats 3200000 in
theorem paintRings_body (n k : Int) (hn : 0 ≤ n ∧ n ≤ 255) (hk : 0 ≤ k ∧ k ≤ 255) (w : World) :
    Calls Try.prog 5 #[.int .u8 n, .int .u8 k] w fun e w' => LawT w w' e := by
  obtain ⟨i0, p1, p2, p3, p4⟩ := info_parts infoP
  have HI := Lib.hid (And.intro p1 (And.intro p2 (And.intro p3 p4)))
  clear p1 p2 p3 p4
  have HAW := Lib.hid (awake_any w)
  obtain ⟨hn0, hn1⟩ := hn
  obtain ⟨hk0, hk1⟩ := hk
  obtain ⟨M, hM⟩ : ∃ M : Nat, 3 + n % 40 = (M : Int) := ⟨(3 + n % 40).toNat, by omega⟩
  obtain ⟨K, hK⟩ : ∃ K : Nat, k % 17 = (K : Int) := ⟨(k % 17).toNat, by omega⟩
  have HMK := Lib.hid (show 3 ≤ M ∧ M ≤ 42 ∧ K ≤ 16 by omega)
  have hM2 : (M : Int) ≤ 42 := by omega
  have hM1 : (3 : Int) ≤ (M : Int) := by omega
  have hMz : ¬ (M : Int) = 0 := by omega
  have hMz2 : ¬ M = 0 := by omega
  have HKK := Lib.hid hK
  clear hK
  go_enter Try.func5, Try.ntmps5
  go_wp2_with fail
  refine HAW.out.mono ?_
  rintro e w1 ⟨rfl, hb1⟩
  have HS := Lib.hid (show RgR w M w1.heap.size (.slice none 0 0) (I 0) w1 from ⟨0, Nat.zero_le _, rfl, PairO.start, hb1, Nat.le_refl _, hb1.size⟩)
  clear hb1
  go_upto_region 6 with (fail)
  clear hM hn0 hn1
  go_loopw [6, 21] (fun ov iv W => RgR w M w1.heap.size ov iv W) (fun _ iv _ => M - (intOf iv).toNat)
  case atStart => exact HS.out
  case round =>
    obtain ⟨i, hi, rfl, hO, hbe, hba, hwb⟩ := hrel
    obtain ⟨oa, oc, hov⟩ := hO.row
    rw [ringL_len] at hov
    subst hov
    by_cases hin : i < M
    · have hmod : ((i : Int) + 1).tmod (M : Int) = (rn M i : Int) := by rw [tmod_nat, rn_mod hin]
      have hmod2 : ((i : Int) + 1) % (M : Int) = (rn M i : Int) := by rw [← hmod, Int.tmod_eq_emod_of_nonneg (by omega)]
      have d0 : decide (i < M) = true := by simpa using hin
      have d1 : (0 : Int) ≤ (i : Int) := by omega
      have d2 : (i : Int) < (M : Int) := by omega
      have hO2 : wr.ownsRow w1.heap.size 29 2 (.slice oa i oc) i (cellsP (ringL M i)) := by
        have h9 := hO
        unfold PairO at h9
        rw [ringL_len] at h9
        exact h9
      have H1 := Lib.hid (And.intro hO2 (And.intro hbe (And.intro hba (And.intro hwb hin))))
      have hi42 : i ≤ 42 := by have := HMK.out; omega
      clear hO hO2 hbe hba hwb hin hi
      generalize hr : rn M i = r at *
      have HR := Lib.hid hr
      clear hr
      go_wp2_with (first | (at_builtin; refine Hid.out ?_) | go_in)
      unfold Hid
      refine wpList_append_lies _ rfl (.tmp 24) (.tmp 31) 22 rfl w1.heap.size 29 i0 (.agg #[I 0, I 0]) 2 16 Try.underlying22 HI.out.1 HI.out.2.1 HI.out.2.2.1 HI.out.2.2.2 rfl (by decide) (.slice oa i oc) i (cellsP (ringL M i)) rfl (H1.out.1.alloc _) ⟨wr.heap.size, 0, none⟩ 1 1 [I (i : Int), I (r : Int)] rfl rfl (World.news_of_block (heap_alloc_new wr _)) (by simp [Value.oneCell']) (by decide) (by unfold maxLen; omega) (by omega) (by have h1 := H1.out.2.2.1; simp; omega) _ rfl ?_
      intro g4 c4 w4 ho4 hg4 hat4 hlt4
      have hB4 : Below w.heap.size w w4 := (H1.out.2.1.alloc H1.out.2.1.size (.cells #[I (i : Int), I (r : Int)] 29)).grown hg4 (by have := H1.out.2.1.size; simp; omega) (fun k hk => by have h9 := (World.ownsRow.lt H1.out.1 k hk).1; have := H1.out.2.2.2.1; omega)
      have HN := Lib.hid (show RgR w M w1.heap.size (.slice (some ⟨g4, 0, none⟩) (i + 1) c4) (I ((i : Int) + 1)) w4 from ⟨i + 1, H1.out.2.2.2.2, rfl, by
        rw [ringL_app]
        refine PairO.app ?_
        rw [ringL_len]
        have e : rg M i = ((i : Int), (r : Int)) := by unfold rg; rw [HR.out]
        rw [e]
        exact ho4, hB4, by have h1 := hg4.size; have h2 := H1.out.2.2.1; simp at h1; omega, H1.out.2.2.2.1⟩)
      clear ho4 hg4 hat4 hlt4 hB4
      go_wp2_with fail
      exact ⟨HN.out, by have := H1.out.2.2.2.2; simp [intOf]; omega⟩
    · obtain rfl : i = M := by omega
      have d0 : decide (i < i) = false := by simp
      have hcap := hO.cap.1
      have HTW := Lib.hid (twins_any i (by have := HMK.out; omega) oa i oc (ringL i i) (ringL_len i i).symm hcap wr hO.z)
      have H1 := Lib.hid (And.intro hO (And.intro hbe hcap))
      clear hO hbe hba hwb hi hin hcap
      go_wp2_with fail
      refine HTW.out.mono ?_
      rintro e w2 ⟨u, rfl, how, hb2⟩
      rw [List.take_of_length_le (by rw [ringL_len]; exact Nat.le_refl _)] at how
      obtain ⟨ua, uc, rfl⟩ := how.row
      rw [ringL_len] at how ⊢
      have huz := how.z pairV_stays
      have hare := ring_are (M := i) (by have := HMK.out; omega)
      have HP := Lib.hid (paint_of i 3 (by have := HMK.out; omega) (by omega) ua none i uc 0 0 (ringL i i) [] (ringL_len i i).symm (by have := HMK.out; omega) (pcap how) rfl (by omega) (by omega) w2 huz (SlS.nil _ _))
      have H2 := Lib.hid (And.intro (below_tr H1.out.2.1 hb2) (And.intro (H1.out.1.z.below pairV_stays hb2) hare))
      clear how hb2 huz hare
      go_wp2_with fail
      refine HP.out.mono ?_
      rintro e w3 ⟨hok, _⟩
      obtain ⟨bc, C, rfl, hlc, kc, hcol, hb3⟩ := hok ⟨H2.out.2.2, no_are⟩
      have hB3 := below_tr H2.out.1 hb3
      have hz3 := H2.out.2.1.below pairV_stays hb3
      have HRT := Lib.hid (right_any i 3 bc (by have := HMK.out; omega) (by omega) C oa i oc (ringL i i) (ringL_len i i).symm (by have := HMK.out; omega) H1.out.2.2 H2.out.2.2 hcol w3 hz3 kc)
      have H3 := Lib.hid (And.intro kc (And.intro hcol hB3))
      clear hok hlc kc hcol hb3 hB3 hz3
      go_wp2_with fail
      refine HRT.out.mono ?_
      rintro e w4 ⟨rfl, hb4⟩
      have k4 := H3.out.1.below hb4 H3.out.1.lt
      have H4 := Lib.hid (And.intro k4 (below_tr H3.out.2.2 hb4))
      have HS4 := Lib.hid (show RtR w4 i (I 0) w4 from ⟨0, Nat.zero_le _, rfl, Below.refl _ _⟩)
      clear hb4 k4
      go_wp2_with fail
      go_loopw [53] (fun iv W => RtR w4 i iv W) (fun iv _ => i - (intOf iv).toNat)
      case atStart => exact HS4.out
      case round =>
        obtain ⟨j, hj, rfl, hbe⟩ := hrel
        by_cases hjm : j < i
        · have z0 := (H4.out.1.below hbe H4.out.1.lt).get j (I (C j)) (arrF_get _ hjm)
          have hc0 : 0 ≤ C j := ring_col H3.out.2.1 hjm
          have f0 : decide (j < i) = true := by simpa using hjm
          have d1 : (0 : Int) ≤ (j : Int) := by omega
          have d2 : (j : Int) < (i : Int) := by omega
          have t1 : ¬ C j < 0 := by omega
          have t2 : decide (C j < 0) = false := by simpa using hc0
          have HN := Lib.hid (show RtR w4 i (I ((j : Int) + 1)) wr from ⟨j + 1, hjm, rfl, hbe⟩)
          have HT := Lib.hid hjm
          clear hbe hjm hj hc0
          generalize C j = cj at *
          go_wp2_with fail
          exact ⟨HN.out, by have := HT.out; simp [intOf]; omega⟩
        · have f0 : decide (j < i) = false := by simpa using hjm
          have HP2 := Lib.hid (paint_of i K (by have := HMK.out; omega) HMK.out.2.2 none none 0 0 0 0 [] [] rfl (by omega) (by omega) rfl (by omega) (by omega) wr (SlS.nil _ _) (SlS.nil _ _))
          have H5 := Lib.hid (below_tr H4.out.2 hbe)
          have hKK := HKK.out
          clear hbe hjm hj
          go_wp2_with fail
          refine HP2.out.mono ?_
          rintro e w5 ⟨hok, _⟩
          obtain ⟨bd, D, rfl, hld, kd, hcd, hb5⟩ := hok ⟨no_are, no_are⟩
          have HRT2 := Lib.hid (right_any i K bd (by have := HMK.out; omega) HMK.out.2.2 D none 0 0 [] rfl (by omega) (by omega) no_are hcd w5 (SlS.nil _ _) kd)
          have H6 := Lib.hid (below_tr H5.out hb5)
          clear hok hld kd hcd hb5
          go_wp2_with fail
          refine HRT2.out.mono ?_
          rintro e w6 ⟨rfl, hb6⟩
          have FIN := Lib.hid (show LawT w w6 (.returned (.bool true)) from ⟨rfl, below_tr H6.out hb6⟩)
          clear hb6
          go_wp2_with fail
          go_ret
          exact FIN.out
end Go.Proofs.Ytgblpfahgpneoaa
