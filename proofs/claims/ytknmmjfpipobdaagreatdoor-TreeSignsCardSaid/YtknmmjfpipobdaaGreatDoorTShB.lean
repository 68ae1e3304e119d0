/-
  Expressions of two written; all that are written here.
-/
import Derived.Test.YtknmmjfpipobdaaGreatDoorTShE
namespace Go.Proofs.YtknmmjfpipobdaaGreatDoor
open Go Go.RowKit Px

theorem SupE.op_le {x : Ex} {t : Bytes} {c : Nat} (h : SupE x t c) : opOf x < 256 := by
  cases h with
  | num n pos h => exact (by decide : 0 < 256)
  | bin op pos a b ta tb ca cb h1 h2 ha hb => exact (by show op < 256; omega)

theorem ExC_form {w : World} {ok : Nat → Prop} {x : Ex} {cs : List Value} (h : ExC w ok x cs) : ∃ (k op : Nat) (nm : Bytes) (n pos : Nat) (a : Option Addr) (m c : Nat), cs = (exCells k op nm n pos a m c).toList := by
  obtain ⟨k, op, nm, n, pos, args⟩ := x
  simp only [ExC] at h
  obtain ⟨sv, rfl, h2⟩ := h
  rcases h2 with ⟨_, rfl⟩ | ⟨g, cap, xs, rfl, _⟩
  · exact ⟨k, op, nm, n, pos, none, 0, 0, rfl⟩
  · exact ⟨k, op, nm, n, pos, some ⟨g, 0, none⟩, args.length, cap, rfl⟩

set_option maxRecDepth 100000 in
set_option maxHeartbeats 2000000 in
theorem bin_W (op pos : Nat) (xa xb : Ex) (ta tb : Bytes) (ca cb : Nat) (h1 : 1 ≤ op) (h2 : op ≤ 18) (hA : OpW2 xa ta ca) (hB : OpW2 xb tb cb) :
    ExW (.mk 9 op [] 0 pos [xa, xb]) (wrapT xa (signOf op).2 ta ++ (([32] ++ ((signOf op).1 ++ [32])) ++ wrapT xb ((signOf op).2 + 1) tb)) (1 + ca + cb) := by
  intro N b l k w kk op' nm n' pos' a m c hN hNw hb hx hk1 hk2 hlen
  obtain ⟨rfl, rfl, rfl, rfl, rfl, hrow⟩ := ExC_cells hx
  rcases hrow with ⟨h, _⟩ | ⟨g, cap, xs, hsl, hg, ho, hxs⟩
  · cases h
  simp only [ExsC] at hxs
  obtain ⟨ka, d, rfl, hxa, kb, d2, rfl, hxb, rfl⟩ := hxs
  obtain ⟨ak, ao, an, am, ap, aa, al, ac, rfl⟩ := ExC_form hxa
  obtain ⟨bk, bo, bn, bm, bp, ba, bl, bc, rfl⟩ := ExC_form hxb
  cases hsl
  obtain ⟨W, hW⟩ : ∃ W, W = w.alloc (.cells (exCells 9 op' [] 0 pos' (some ⟨g, 0, none⟩) 2 c) 36) := ⟨_, rfl⟩
  have hbW : Below w.heap.size w W := by rw [hW]; exact (Below.refl _ _).alloc (Nat.le_refl _) _
  have hE : Blk w.heap.size (exCells 9 op' [] 0 pos' (some ⟨g, 0, none⟩) 2 c) 36 W := by rw [hW]; exact Blk.new _ _ _
  have HM := Lib.hid (more_any N b l k W hN ⟨by omega, by omega⟩ (hb.below hbW))
  have hKW : WK N b w W := WK.of_below hNw hbW
  have hadd : ∀ j, (⟨g, 0, none⟩ : Addr).add j = ⟨g, j, none⟩ := by intro j; unfold Addr.add; split <;> simp_all
  have hcell : ∀ j u, ((exCells ak ao an am ap aa al ac).toList ++ (((exCells bk bo bn bm bp ba bl bc).toList) ++ []))[j]? = some u → w.cell? ⟨g, j, none⟩ = some u := fun j u hu => by
    have := ho.cells (g := g) rfl j u hu
    rwa [hadd] at this
  have hca : ∀ w1, WK N b w w1 → ∀ j u, (exCells ak ao an am ap aa al ac).toList[j]? = some u → w1.cell? ⟨g, 0 * 6 + j, none⟩ = some u := fun w1 hk j u hu =>
    (hk.1.cell (p := ⟨g, 0 * 6 + j, none⟩) hg).trans (hcell _ u (by
      have hj : j < 6 := by have := (List.getElem?_eq_some_iff.1 hu).1; simpa using this
      rw [show 0 * 6 + j = j from by omega, List.getElem?_append_left (by simpa using hj)]; exact hu))
  have hcb : ∀ w1, WK N b w w1 → ∀ j u, (exCells bk bo bn bm bp ba bl bc).toList[j]? = some u → w1.cell? ⟨g, 1 * 6 + j, none⟩ = some u := fun w1 hk j u hu =>
    (hk.1.cell (p := ⟨g, 1 * 6 + j, none⟩) hg).trans (hcell _ u (by
      rw [List.getElem?_append_right (by simp), List.append_nil, show 1 * 6 + j - ((exCells ak ao an am ap aa al ac).toList).length = j from by simp]; exact hu))
  have hsz : ∀ w1, WK N b w w1 → g < w1.heap.size := fun w1 hk => Nat.lt_of_lt_of_le hg (Nat.le_trans hNw hk.1.size)
  have HPA := Lib.hid fun w1 (hk : WK N b w w1) => part_any g c 2 0 (by omega) (by omega) ak ao an am ap aa al ac w1 (hca w1 hk) (hsz w1 hk)
  have HPB := Lib.hid fun w1 (hk : WK N b w w1) => part_any g c 2 1 (by omega) (by omega) bk bo bn bm bp ba bl bc w1 (hcb w1 hk) (hsz w1 hk)
  have HXA := Lib.hid fun w1 (hk : WK N b w w1) => ExC_down hxa hk
  have HXB := Lib.hid fun w1 (hk : WK N b w w1) => ExC_down hxb hk
  have HH := Lib.hid (And.intro hKW (And.intro hE hb))
  have HS := Lib.hid fun w1 => signs_any op' (by omega) w1
  have HA := Lib.hid fun l1 k1 w1 h1 h2 h3 h4 h5 h6 h7 => hA N b l1 k1 w1 ak ao an am ap aa al ac (signOf op').2 hN h1 h2 h3 h4 h5 h6 h7
  have HB := Lib.hid fun l1 k1 w1 h1 h2 h3 h4 h5 h6 h7 => hB N b l1 k1 w1 bk bo bn bm bp ba bl bc ((signOf op').2 + 1) hN h1 h2 h3 h4 h5 h6 h7
  have HP3 := Lib.hid fun l1 k1 w1 (h1 : N ≤ w1.heap.size) (h2 : WB N b l1 k1 w1) h3 => put3 N b [32] (signOf op').1 [32] l1 k1 w1 hN h1 h2 h3
  have hk0 : decide (1 ≤ k) = true := by simp; omega
  have hq12 := signOf_lt op'
  have hblt := hb.lt
  have HWW := Lib.hid hW
  have htl : (wrapT xa (signOf op').2 ta).length ≤ ta.length + 2 ∧ (wrapT xb ((signOf op').2 + 1) tb).length ≤ tb.length + 2 ∧ ta.length ≤ (wrapT xa (signOf op').2 ta).length ∧ tb.length ≤ (wrapT xb ((signOf op').2 + 1) tb).length := by
    unfold wrapT
    refine ⟨?_, ?_, ?_, ?_⟩ <;> (split <;> (simp; try omega))
  have HLEN := Lib.hid (And.intro htl hlen)
  clear hx hbW hE hW hb ho hxa hxb hcell hca hcb hsz hadd hKW hA hB htl hlen
  go_enter Tryz.func103, Tryz.ntmps103
  go_upto_region 1 with (fail)
  rw [← HWW.out]
  go_wp2_with fail
  refine HM.out.mono ?_
  rintro e w1 ⟨rfl, h1', h2'⟩
  rw [hk0]
  have hE1 := h2'.blk HH.out.2.1 (by omega) (by decide)
  have HW1 := Lib.hid (And.intro h1' (HH.out.1.trans h2'))
  obtain ⟨c0, c1, c2, c3, c4, c5⟩ := hE1.get6
  have HE1 := Lib.hid hE1
  clear h1' h2' hE1
  go_wp2_with fail
  refine (HS.out w1).mono ?_
  rintro e w1x ⟨rfl, rfl⟩
  unfold signV
  go_wp2_with fail
  refine (HPA.out w1 HW1.out.2).mono ?_
  rintro e w2 ⟨rfl, hb2⟩
  have hN1 : N ≤ w1.heap.size := Nat.le_trans hNw HW1.out.2.1.size
  have hk2' : WK N b w w2 := HW1.out.2.trans (WK.of_below hN1 hb2)
  have hN2 : N ≤ w2.heap.size := Nat.le_trans hN1 hb2.size
  have HK2 := Lib.hid hk2'
  have HWB2 := Lib.hid (HW1.out.1.below hb2)
  have HEb2 := Lib.hid (HE1.out.below hb2 HE1.out.lt)
  clear hb2 hk2' c0 c1 c2 c3 c4 c5
  have hlA : l.length + (wrapT xa (signOf op').2 ta).length ≤ 1000000 := by
    have x5 := HLEN.out.2
    simp only [List.length_append] at x5
    omega
  have HCA := Lib.hid (HA.out l (k - 1) w2 hN2 HWB2.out (HXA.out w2 HK2.out) (by omega) (by omega) hlA (by omega))
  go_wp2_with fail
  refine HCA.out.mono ?_
  rintro e w3 ⟨rfl, h1', h2'⟩
  have hE3 := h2'.blk HEb2.out (by omega) (by decide)
  obtain ⟨c0, c1, c2, c3, c4, c5⟩ := hE3.get6
  have hN3 : N ≤ w3.heap.size := Nat.le_trans hN2 h2'.1.size
  have HK3 := Lib.hid (HK2.out.trans h2')
  have HE3 := Lib.hid hE3
  have hl3 : (l ++ wrapT xa (signOf op').2 ta).length + ([32] ++ ((signOf op').1 ++ [32])).length ≤ 10000000 := by
    obtain ⟨⟨x1, _, _, _⟩, x5⟩ := HLEN.out
    simp only [List.length_append, List.length_cons, List.length_nil] at x5 ⊢
    omega
  have HP := Lib.hid (HP3.out _ _ w3 hN3 h1' hl3)
  clear h1' h2' hE3 hl3 hlA
  go_wp2_with fail
  refine HP.out.mono ?_
  rintro e w4 ⟨rfl, h1', h2'⟩
  have hE4 := h2'.blk HE3.out (by omega) (by decide)
  have hN4 : N ≤ w4.heap.size := Nat.le_trans hN3 h2'.1.size
  have HK4 := Lib.hid (HK3.out.trans h2')
  have HW4 := Lib.hid h1'
  clear c0 c1 c2 c3 c4 c5
  obtain ⟨c0, c1, c2, c3, c4, c5⟩ := hE4.get6
  have HPB4 := Lib.hid (HPB.out w4 HK4.out)
  clear h1' h2' hE4
  go_wp2_with fail
  refine HPB4.out.mono ?_
  rintro e w5 ⟨rfl, hb5⟩
  have hN5 : N ≤ w5.heap.size := Nat.le_trans hN4 hb5.size
  have HK5 := Lib.hid (HK4.out.trans (WK.of_below hN4 hb5))
  have hl5 : ((l ++ wrapT xa (signOf op').2 ta) ++ ([32] ++ ((signOf op').1 ++ [32]))).length + (wrapT xb ((signOf op').2 + 1) tb).length ≤ 1000000 := by
    have x5 := HLEN.out.2
    simp only [List.length_append] at x5 ⊢
    omega
  have HCB := Lib.hid (HB.out _ (k - 1 - ca) w5 hN5 (HW4.out.below hb5) (HXB.out w5 HK5.out) (by omega) (by omega) hl5 (by omega))
  rw [show (((signOf op').2 + 1 : Nat) : Int) = ((signOf op').2 : Int) + 1 from rfl] at HCB
  clear hb5 hl5 c0 c1 c2 c3 c4 c5
  go_wp2_with fail
  refine HCB.out.mono ?_
  rintro e w6 ⟨rfl, h1', h2'⟩
  have FIN := Lib.hid (show WPost N b (l ++ (wrapT xa (signOf op').2 ta ++ (([32] ++ ((signOf op').1 ++ [32])) ++ wrapT xb ((signOf op').2 + 1) tb))) (k - ((1 + ca + cb : Nat) : Int)) w (.returned (.tuple #[])) w6 from
    ⟨rfl, by rw [show k - ((1 + ca + cb : Nat) : Int) = k - 1 - ca - cb from by omega]; simpa [List.append_assoc] using h1', HK5.out.trans h2'⟩)
  clear h1' h2'
  go_wp2
  go_end0
  exact FIN.out

theorem sup_W {x : Ex} {t : Bytes} {c : Nat} (h : SupE x t c) : ExW x t c := by
  induction h with
  | num n pos h => exact num_W n pos h
  | bin op pos a b ta tb ca cb h1 h2 ha hb iha ihb => exact bin_W op pos a b ta tb ca cb h1 h2 (operand_W a ta ca ha.op_le iha) (operand_W b tb cb hb.op_le ihb)
end Go.Proofs.YtknmmjfpipobdaaGreatDoor
