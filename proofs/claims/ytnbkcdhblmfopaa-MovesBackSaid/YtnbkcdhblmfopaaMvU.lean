/-
  Rings of any lengths, one behind the other, as the statement lays them: walked.
-/
import Derived.Test.YtnbkcdhblmfopaaMvL
import Derived.Test.YtnbkcdhblmfopaaMvG
import Derived.Deep.CutBlock
import Derived.Deep.DeepCutAuto
namespace Go.Proofs.Ytnbkcdhblmfopaa
open Go Go.RowKit Go.Maps Mv

/-- Bytes. -/
def encB (x : Nat) : List Value := [.int .u8 (x : Int)]
abbrev ByteV := FlatV encB
abbrev ByteZ (W : World) := SlS (LtW W) 1 ByteV W
theorem byteV_stays : StaysV ByteV := fun _ _ _ _ _ _ h _ _ => h
def Byt (b : List Nat) : Prop := ∀ x ∈ b, x < 256
theorem Mv.Laid.wf {l : List M} {css : List (List Nat)} (h : Laid l css) (hl : l.length ≤ 1000) : WfL l := fun m hm => by
  obtain ⟨i, hi, rfl⟩ := mem_mv hm
  have h1 := h.to i hi
  have h2 := h.fr i hi
  have e1 : IntKind.i64.min = -9223372036854775808 := rfl
  have e2 : IntKind.i64.max = 9223372036854775807 := rfl
  unfold tO at h1
  unfold fR at h2
  simp [Lit.wf, e1, e2]
  omega
theorem Mv.Laid.notBad {l : List M} {css : List (List Nat)} (h : Laid l css) : ¬ Bad l 0 true := by
  rintro (⟨i, hi, _, h1⟩ | h1)
  · have h2 := h.to i hi
    have h3 := h.fr i hi
    rcases h1 with e | e <;> omega
  · exact h1 h.dis
def TuR (w : World) (nb : Nat) (lv nv rv iv : Value) (W : World) : Prop := ∃ (i : Nat) (l : List M) (css : List (List Nat)), i ≤ nb ∧ i ≤ 8 ∧ iv = I (i : Int) ∧ nv = I ((l.length : Int) + 1) ∧ rv = I (css.length : Int) ∧ MovO W w.heap.size 31 lv l ∧ Laid l css ∧ l.length ≤ 8 * i ∧ css.length ≤ i ∧ Below w.heap.size w W
def TuE (w : World) (lv nv rv : Value) (W : World) : Prop := ∃ (l : List M) (css : List (List Nat)), nv = I ((l.length : Int) + 1) ∧ rv = I (css.length : Int) ∧ MovO W w.heap.size 31 lv l ∧ Laid l css ∧ l.length ≤ 64 ∧ css.length ≤ 8 ∧ Below w.heap.size w W
def TuI (w : World) (l : List M) (k : Nat) (lv jv : Value) (W : World) : Prop := ∃ j : Nat, j ≤ k ∧ jv = I (j : Int) ∧ MovO W w.heap.size 31 lv (l ++ blkM l.length k j) ∧ Below w.heap.size w W

set_option maxRecDepth 100000 in
set_option maxHeartbeats 3200000 in
theorem movesTurn_body (a : Option Addr) (n c : Nat) (bs : List Nat) (hn : n = bs.length) (hby : Byt bs) (w : World) (h : ByteZ w (.slice a n c) bs) :
    Calls Try.prog 5 #[.slice a n c] w fun e w' => LawT w w' e := by
  obtain ⟨i1, p1, p2, p3, p4⟩ := info_parts infoMr
  have HM := Lib.hid (And.intro p1 (And.intro p2 (And.intro p3 p4)))
  clear p1 p2 p3 p4
  have HAW := Lib.hid (awake_any w)
  have HH := Lib.hid (And.intro h (And.intro hn hby))
  clear h hn hby
  go_enter Try.func5, Try.ntmps5
  go_wp2_with fail
  refine HAW.out.mono ?_
  rintro e w1 ⟨rfl, hb1⟩
  have HS := Lib.hid (show TuR w n (.slice none 0 0) (I 1) (I 0) (I 0) w1 from ⟨0, [], [], Nat.zero_le _, by omega, rfl, rfl, rfl, MovO.start, Laid.start, by simp, by simp, hb1⟩)
  clear hb1
  go_upto_block 0 with (fail)
  go_cut [3, 4, 5] (fun lv nv rv W => TuE w lv nv rv W)
  case first =>
    go_wp2_with fail
    go_loopw [3, 4, 5, 16] (fun lv nv rv iv W => TuR w n lv nv rv iv W) (fun _ _ _ iv _ => n - (intOf iv).toNat)
    case atStart => exact HS.out
    case round =>
      obtain ⟨i, l, css, hi, hi8, rfl, rfl, rfl, hmo, hla, hll, hcl, hbe⟩ := hrel
      by_cases hin : i < n
      · have hil : i < bs.length := by rw [← HH.out.2.1]; exact hin
        obtain ⟨b, _, rfl, hbl, c0, e0⟩ := (HH.out.1.below byteV_stays hbe).at i hil
        obtain rfl := e0
        obtain ⟨q, hq⟩ : ∃ q, q = bs[i] := ⟨_, rfl⟩
        rw [← hq, Nat.mul_one] at c0
        have x0 : wr.cell? (b.add i) = some (.int .u8 (q : Int)) := c0.f0
        have hq8 : q < 256 := by rw [hq]; exact HH.out.2.2 _ (List.getElem_mem hil)
        have d0 : decide (i < n) = true := by simpa using hin
        have d1 : (0 : Int) ≤ (i : Int) := by omega
        have d2 : (i : Int) < (n : Int) := by omega
        by_cases h8 : i < 8
        · have g8 : decide ((8 : Int) ≤ (i : Int)) = false := by simp; omega
          have H1 := Lib.hid (And.intro hmo (And.intro hla (And.intro hll (And.intro hcl (And.intro hbe (And.intro hin h8))))))
          have q1 : (q : Int) < 256 := by omega
          have d6 : (i : Int) < 8 := by omega
          have q0 : (0 : Int) ≤ (q : Int) := by omega
          obtain ⟨L, hL⟩ : ∃ L, L = l.length := ⟨_, rfl⟩
          obtain ⟨C, hC⟩ : ∃ C, C = css.length := ⟨_, rfl⟩
          rw [← hL, ← hC]
          have HLC := Lib.hid (And.intro hL hC)
          clear hmo hla hll hcl hbe hin hi hi8 h8 hil hbl c0 hq hq8 hL hC
          go_upto_region 10 with (fail)
          obtain ⟨K, hK⟩ : ∃ K, K = q % 9 := ⟨_, rfl⟩
          have e9 : (q : Int) % 9 = (K : Int) := by omega
          have hKb : K < 9 := by omega
          rw [e9]
          obtain ⟨C', hC'⟩ : ∃ C', C' = if 2 ≤ K then C + 1 else C := ⟨_, rfl⟩
          have HC' := Lib.hid hC'
          have HK := Lib.hid hKb
          have hkb : (K : Int) < 9 := by omega
          have hk0 : (0 : Int) ≤ (K : Int) := by omega
          have hlb : (L : Int) ≤ 64 := by have := HLC.out.1; have := H1.out.2.2.1; have := H1.out.2.2.2.2.2.2; omega
          have hcb : (C : Int) ≤ 8 := by have := HLC.out.2; have := H1.out.2.2.2.1; have := H1.out.2.2.2.2.2.2; omega
          have hl0 : (0 : Int) ≤ (L : Int) := by omega
          have hc0 : (0 : Int) ≤ (C : Int) := by omega
          clear hK e9 hKb hC' x0 q1 q0
          go_upto_if 27 with (fail)
          go_cut [5] (fun rv W => rv = I (C' : Int) ∧ W = wr)
          case first =>
            by_cases h2 : 2 ≤ K
            · have g2 : decide ((2 : Int) ≤ (K : Int)) = true := by simp; omega
              have e5 : (C : Int) + 1 = (C' : Int) := by rw [HC'.out, if_pos h2]; omega
              have HE := Lib.hid e5
              clear h2 e5
              rw [g2]
              go_wp2_with fail
              go_meet
              case rel => exact ⟨by rw [HE.out], rfl⟩
            · have g2 : decide ((2 : Int) ≤ (K : Int)) = false := by simp; omega
              have e5 : C' = C := by rw [HC'.out, if_neg h2]
              have HE := Lib.hid e5
              clear h2 e5
              rw [g2]
              go_wp2_with fail
              go_meet
              case rel => exact ⟨by rw [HE.out], rfl⟩
          case rest =>
            obtain ⟨rfl, hWc⟩ := hcut
            rw [hWc]
            clear hWc
            have HS2 := Lib.hid (show TuI w l K u3 (I 0) wr from ⟨0, Nat.zero_le _, rfl, by simpa [blkM] using H1.out.1, H1.out.2.2.2.2.1⟩)
            go_wp2_with fail
            go_loopw [3, 31] (fun lv jv W => TuI w l K lv jv W) (fun _ jv _ => K - (intOf jv).toNat)
            case atStart => exact HS2.out
            case round =>
              obtain ⟨j, hj, rfl, hmo, hbe⟩ := hrel
              by_cases hjk : j < K
              · have d3 : decide (j < K) = true := by simpa using hjk
                have d4 : (0 : Int) ≤ (j : Int) := by omega
                have d5 : (j : Int) < (K : Int) := by omega
                obtain ⟨oa, oc, hov⟩ := hmo.row
                obtain ⟨m, hm⟩ : ∃ m, m = (l ++ blkM l.length K j).length := ⟨_, rfl⟩
                have hmb : m ≤ 100 := by rw [hm, List.length_append, blkM_len]; have := HLC.out.1; omega
                rw [← hm] at hov
                have ho' : wr.ownsRow w.heap.size 31 2 u3 m (cellsM (l ++ blkM l.length K j)) := by rw [hm]; exact hmo
                have H2 := Lib.hid (And.intro ho' (And.intro hbe (And.intro hm hjk)))
                have hmod : ((j : Int) + 1) % (K : Int) = (((j + 1) % K : Nat) : Int) := by simp
                obtain ⟨R, hR⟩ : ∃ R, R = (j + 1) % K := ⟨_, rfl⟩
                rw [← hR] at hmod
                have hRb : R < K := by rw [hR]; exact Nat.mod_lt _ (by omega)
                have HR := Lib.hid hR
                have r0 : (0 : Int) ≤ (R : Int) := by omega
                have r1 : (R : Int) < 9 := by omega
                have r2 : ¬ (K : Int) = 0 := by omega
                subst hov
                clear hmo hbe hm hjk ho' hR hRb hj
                go_wp2_with (first | (at_builtin; refine Hid.out ?_) | go_in)
                unfold Hid
                change wpList _ _ _ _ _ (wr.alloc (.cells #[I ((L : Int) + 1 + (j : Int)), I ((L : Int) + 1 + (R : Int))] 31))
                refine wpList_append_lies _ rfl (.tmp 34) (.tmp 45) 22 rfl w.heap.size 31 i1 (.agg #[I 0, I 0]) 2 16 Try.underlying22 HM.out.1 HM.out.2.1 HM.out.2.2.1 HM.out.2.2.2 rfl (by decide) (.slice oa m oc) m (cellsM (l ++ blkM l.length K j)) rfl (H2.out.1.alloc _) ⟨wr.heap.size, 0, none⟩ 1 1 [I ((L : Int) + 1 + (j : Int)), I ((L : Int) + 1 + (R : Int))] rfl rfl (World.news_of_block (heap_alloc_new wr _)) (by simp [Value.oneCell']) (by decide) (by unfold maxLen; omega) (by omega) (by have h1 := H2.out.2.1.size; simp; omega) _ rfl ?_
                intro gg cg w9 hown9 hgr9 hat9 hlt9
                have ha1 : ((L + 1 + j : Nat) : Int) = (L : Int) + 1 + (j : Int) := by omega
                have ha2 : ((L + 1 + R : Nat) : Int) = (L : Int) + 1 + (R : Int) := by omega
                have hx : blkM l.length K (j + 1) = blkM l.length K j ++ [((L : Int) + 1 + (j : Int), (L : Int) + 1 + (R : Int))] := by rw [blkM_succ, ← HR.out, ← HLC.out.1, ha1, ha2]
                have HN := Lib.hid (show TuI w l K (.slice (some ⟨gg, 0, none⟩) (m + 1) cg) (I ((j : Int) + 1)) w9 from ⟨j + 1, H2.out.2.2.2, rfl, by
                  rw [hx, ← List.append_assoc]
                  exact MovO.app (by rw [← H2.out.2.2.1]; exact hown9), (H2.out.2.1.alloc H2.out.2.1.size _).grown hgr9 (by have := H2.out.2.1.size; simp; omega) (fun x hx => (H2.out.1.lt x hx).1)⟩)
                have HT := Lib.hid H2.out.2.2.2
                clear hown9 hgr9 hat9 hlt9 ha1 ha2 hx
                go_wp2_with fail
                exact ⟨HN.out, by have := HT.out; simp [intOf]; omega⟩
              · have d3 : decide (j < K) = false := by simpa using hjk
                obtain rfl : j = K := by omega
                have hlen : (l ++ blkM l.length j j).length = L + j := by rw [List.length_append, blkM_len, HLC.out.1]
                have hcl : (if 2 ≤ j then css ++ [List.range' l.length j] else css).length = C' := by
                  rw [HC'.out]
                  split
                  · rw [List.length_append, HLC.out.2]; rfl
                  · exact HLC.out.2.symm
                have HN := Lib.hid (show TuR w n u3 (I ((L : Int) + 1 + (j : Int))) (I (C' : Int)) (I ((i : Int) + 1)) wr from ⟨i + 1, l ++ blkM l.length j j, _, by have := H1.out.2.2.2.2.2.1; omega, by have := H1.out.2.2.2.2.2.2; omega, rfl, by rw [hlen]; congr 1; omega, by rw [hcl], hmo, H1.out.2.1.block j, by rw [hlen]; have := H1.out.2.2.1; have := HLC.out.1; have := HK.out; omega, by rw [hcl, HC'.out]; have := H1.out.2.2.2.1; have := HLC.out.2; split <;> omega, hbe⟩)
                have HT := Lib.hid H1.out.2.2.2.2.2.1
                clear hmo hbe hjk hj hlen hcl
                go_wp2_with fail
                go_roundw
                case rel => exact HN.out
                case measure => have := HT.out; simp [intOf]; omega
        · have g8 : decide ((8 : Int) ≤ (i : Int)) = true := by simp; omega
          have HM2 := Lib.hid (show TuE w u3 (I ((l.length : Int) + 1)) (I (css.length : Int)) wr from ⟨l, css, rfl, rfl, hmo, hla, by omega, by omega, hbe⟩)
          clear hmo hla hll hcl hbe hin hi hi8 hil hbl c0 hq hq8 h8
          go_wp2_with fail
          go_meet
          case rel => exact HM2.out
      · have d0 : decide (i < n) = false := by simpa using hin
        have HM2 := Lib.hid (show TuE w u3 (I ((l.length : Int) + 1)) (I (css.length : Int)) wr from ⟨l, css, rfl, rfl, hmo, hla, by omega, by omega, hbe⟩)
        clear hmo hla hll hcl hbe hin hi hi8
        go_wp2_with fail
        go_meet
        case rel => exact HM2.out
  case rest =>
    obtain ⟨l, css, rfl, rfl, hmo, hla, hll, hcl, hbe⟩ := hcut
    obtain ⟨oa, oc, hov⟩ := hmo.row
    have hoc : l.length ≤ oc := by
      rcases hmo.2 with ⟨e, h0⟩ | ⟨g, cap, cur, e, _, _, hn, _⟩
      · omega
      · rw [hov] at e; cases e; exact hn
    have hwf := hla.wf (by omega)
    have HL := Lib.hid (list_any u3 l (by omega) wc hmo.z)
    obtain ⟨C, hC⟩ : ∃ C, C = css.length := ⟨_, rfl⟩
    rw [← hC]
    have H1 := Lib.hid (And.intro hmo.z (And.intro hla (And.intro hll (And.intro hbe (And.intro hov (And.intro hoc (And.intro hwf hC)))))))
    clear hmo hla hll hcl hbe hov hoc hwf hC
    go_wp2_with fail
    refine HL.out.mono ?_
    rintro e w2 ⟨g2, c2, rfl, _, hown2, hb2⟩
    have hz2 := (list_own hown2).z
    have HO := Lib.hid (order_any _ l (by have := H1.out.2.2.1; omega) H1.out.2.2.2.2.2.2.1 0 w2 hz2)
    have H2 := Lib.hid (And.intro (below_tr H1.out.2.2.2.1 hb2) (H1.out.1.below movV_stays hb2))
    clear hown2 hb2 hz2
    go_wp2_with fail
    refine HO.out.mono ?_
    rintro e w3 ⟨v3, c3, rfl, hor, hb3⟩
    obtain ⟨rfl, out, hol, hmo3, hok⟩ : c3 = 0 ∧ ∃ out, out.length ≤ 2000 ∧ MovO w3 w2.heap.size 32 v3 out ∧ OrdOK l 0 out := by
      rcases hor with ⟨h1, _⟩ | ⟨_, h1, h2⟩
      · exact absurd h1 H1.out.2.1.notBad
      · exact ⟨h1, h2⟩
    have hz3 := H2.out.2.below movV_stays hb3
    have HL2 := Lib.hid (list_any u3 l (by have := H1.out.2.2.1; omega) w3 hz3)
    have H3 := Lib.hid (And.intro (below_tr H2.out.1 hb3) (And.intro hz3 (And.intro hol (And.intro hmo3 hok))))
    clear hor hb3 hol hmo3 hok hz3
    go_wp2_with fail
    refine HL2.out.mono ?_
    rintro e w4 ⟨g4, c4, rfl, _, hown4, hb4⟩
    have hz4 := (list_own hown4).z
    have HP := Lib.hid (progCircles_any _ l (by have := H1.out.2.2.1; omega) H1.out.2.2.2.2.2.2.1 w4 hz4)
    have H4 := Lib.hid (And.intro (below_tr H3.out.1 hb4) (And.intro (H3.out.2.1.below movV_stays hb4) hb4))
    clear hown4 hb4 hz4
    go_wp2_with fail
    refine HP.out.mono ?_
    rintro e w5 ⟨c5, rfl, hc5, _, hb5⟩
    obtain rfl : c5 = C := by
      obtain ⟨css2, h1, h2⟩ := hc5 H1.out.2.1.dis
      rw [h2, H1.out.2.2.2.2.2.2.2]
      exact cset_len H1.out.2.1.dis h1 H1.out.2.1.cset
    have h35 := below_tr H4.out.2.2 hb5
    have hmo5 := H3.out.2.2.2.1.below h35
    have HB := Lib.hid (back_any2 v3 out H3.out.2.2.1 w5 hmo5.z)
    have H5 := Lib.hid (And.intro (below_tr H4.out.1 hb5) (H4.out.2.1.below movV_stays hb5))
    clear hc5 hb5 h35 hmo5
    go_wp2_with fail
    refine HB.out.mono ?_
    rintro e w6 ⟨u6, rfl, hmo6, hb6⟩
    have hz6 := H5.out.2.below movV_stays hb6
    rw [H1.out.2.2.2.2.1] at hz6
    have HRT := Lib.hid (right_any oa oc l (by have := H1.out.2.2.1; omega) H1.out.2.2.2.2.2.1 0 u6 out H3.out.2.2.1 H1.out.2.1.dis (fun i hi => by
      have h2 := H1.out.2.1.to i hi
      have h3 := H1.out.2.1.fr i hi
      omega) H3.out.2.2.2.2 w6 hz6 hmo6.z)
    have H6 := Lib.hid (below_tr H5.out.1 hb6)
    rw [← H1.out.2.2.2.2.1] at HRT
    clear hmo6 hb6 hz6
    go_wp2_with fail
    refine HRT.out.mono ?_
    rintro e w7 ⟨rfl, hb7⟩
    have FIN := Lib.hid (show LawT w w7 (.returned (.bool true)) from ⟨rfl, below_tr H6.out hb7⟩)
    clear hb7
    go_wp2_with fail
    go_ret
    exact FIN.out
end Go.Proofs.Ytnbkcdhblmfopaa
