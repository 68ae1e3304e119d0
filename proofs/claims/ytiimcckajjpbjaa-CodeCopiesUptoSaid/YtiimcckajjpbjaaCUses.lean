/-
  One block's instructions, each a number, a copy or a print: is what they use made ahead?
-/
import Derived.Test.YtiimcckajjpbjaaCShapes
namespace Go.Proofs.Ytiimcckajjpbjaa
open Go Go.RowKit Go.Maps Cd

namespace Cd
def madeB (f : Int → Option (Int × Int)) (x : Int) (j : Nat) : Bool := (f x).isSome && decide (((f x).getD (0, 0)).2 < (j : Int))
def useB (f : Int → Option (Int × Int)) (j op : Nat) : Bool := op == 30 || madeB f (argOf op) j
def usesB (f : Int → Option (Int × Int)) (ks : Nat → Nat) (k : Nat) : Bool := (List.range k).all (fun j => useB f j (ks j)) && madeB f 0 k
end Cd

theorem mayUse_all (B bk bm : Nat) (c0 c1 c2 c3 c4 c5 c6 c7 c8 c9 : Value) (f : Int → Option (Int × Int)) (n op j : Nat) (av : Value) (w : World) (h : CkB bk bm c0 c1 c2 c3 c4 c5 c6 c7 c8 c9 w) (hm : MadeW bm f n w) (hz : ∀ x, ((f x).getD (0, 0)).1 = 0) (hav : ArgAt B w op av) :
    Calls Try.prog 61 #[.pointer (some ⟨bk, 0, none⟩), instV op (dstOf op) av (immOf op), placeV 0 (j : Int)] w fun e w' => e = .returned (.bool (useB f j op)) ∧ Below w.heap.size w w' := by
  rcases hav with ⟨rfl, rfl⟩ | ⟨hop, ba, hba, rfl, hk⟩
  · exact mayUse_none _ _ _ _ _ w
  · refine (mayUse_one op hop ba (argOf op) bk bm c0 c1 c2 c3 c4 c5 c6 c7 c8 c9 f n (dstOf op) (immOf op) 0 (j : Int) (by rcases hop with rfl | rfl <;> decide) w h hm hk ((f (argOf op)).getD (0, 0)).1 ((f (argOf op)).getD (0, 0)).2 rfl (hz _)).mono ?_
    rintro e w' ⟨rfl, hb⟩
    refine ⟨ret_bool ?_, hb⟩
    unfold useB madeB
    rcases hop with rfl | rfl <;> rfl

theorem useB_fail {f : Int → Option (Int × Int)} {ks : Nat → Nat} {k j : Nat} (hj : j < k) (h : useB f j (ks j) = false) : usesB f ks k = false := by
  unfold usesB
  rw [Bool.and_eq_false_iff]
  left
  rw [List.all_eq_false]
  exact ⟨j, List.mem_range.2 hj, by rw [h]; decide⟩
theorem useB_end {f : Int → Option (Int × Int)} {ks : Nat → Nat} {k : Nat} (h : ∀ j, j < k → useB f j (ks j) = true) : usesB f ks k = madeB f 0 k := by
  unfold usesB
  rw [List.all_eq_true.2 (fun j hj => h j (List.mem_range.1 hj)), Bool.true_and]

def UsesRel (f : Int → Option (Int × Int)) (ks : Nat → Nat) (k : Nat) (w0 : World) (i : Value) (wr : World) : Prop := ∃ j, j ≤ k ∧ i = I (j : Int) ∧ (∀ i, i < j → useB f i (ks i) = true) ∧ Below w0.heap.size w0 wr

set_option maxRecDepth 100000 in
set_option maxHeartbeats 2000000 in
theorem hasUses_one (B bk bm bb bi k cap : Nat) (ks : Nat → Nat) (vals : Int) (c4 c5 c6 c7 c8 c9 : Value) (f : Int → Option (Int × Int)) (n : Nat) (w : World) (hck : Ck1 bk bm bb vals c4 c5 c6 c7 c8 c9 w) (hbl : Blk1 bb bi k cap w) (hB : B ≤ w.heap.size) (hins : ∀ j, j < k → InsAt B w bi j (ks j)) (hlen : k ≤ 100000)
    (hm : MadeW bm f n w) (hz : ∀ x, ((f x).getD (0, 0)).1 = 0) :
    Calls Try.prog 38 #[.pointer (some ⟨bk, 0, none⟩)] w fun e w' => e = .returned (.bool (usesB f ks k)) ∧ Below w.heap.size w w' := by
  have H := Lib.hid (And.intro hck (And.intro hB (And.intro hins (And.intro hm hz))))
  have x3 := hck.get 3 (.slice (some ⟨bb, 0, none⟩) 1 1) rfl
  have b0 := hbl.get 0 (.slice none 0 0) rfl
  have b1 := hbl.get 1 (.slice (some ⟨bi, 0, none⟩) k cap) rfl
  have b2 := hbl.get 2 (.int .u8 3) rfl
  have b3 := hbl.get 3 (I 0) rfl
  have b4 := hbl.get 4 (I 0) rfl
  have b5 := hbl.get 5 (I 0) rfl
  obtain ⟨W, hW⟩ : ∃ W, W = w.alloc (.cells #[.slice none 0 0, .slice (some ⟨bi, 0, none⟩) k cap, .int .u8 3, I 0, I 0, I 0] 45) := ⟨_, rfl⟩
  obtain ⟨p4, hp4⟩ : ∃ p, p = w.heap.size := ⟨_, rfl⟩
  have hbel : Below w.heap.size w W := by rw [hW]; exact (Below.refl _ _).alloc (Nat.le_refl _) _
  have k4 : Blk1 p4 bi k cap W := by rw [hW, hp4]; exact Blk.new _ _ _
  have y0 := k4.get 0 (.slice none 0 0) rfl
  have y1 := k4.get 1 (.slice (some ⟨bi, 0, none⟩) k cap) rfl
  have HW := Lib.hid (And.intro hW (And.intro hp4 (And.intro hbel k4)))
  clear hck hbl hB hins hm hz hW hp4 hbel k4
  go_enter Try.func38, Try.ntmps38
  go_wp2_with fail
  refine wp_loop_rounds 2 ?_
  rw [rounds_succ]
  go_upto_region 4 with (fail)
  rw [← HW.out.2.1]
  change Code.wp _ _ _ _ (w.alloc (.cells #[.slice none 0 0, .slice (some ⟨bi, 0, none⟩) k cap, .int .u8 3, I 0, I 0, I 0] 45))
  rw [← HW.out.1]
  clear b0 b1 b2 b3 b4 b5 x3
  go_wp2_with fail
  refine wp_loop_rounds 1 ?_
  rw [rounds_succ]
  go_wp2_with fail
  go_loopw [43] (fun i wr => UsesRel f ks k W i wr) (fun i _ => k - (intOf i).toNat)
  case atStart => exact ⟨0, Nat.zero_le _, rfl, fun _ h => absurd h (by omega), Below.refl _ _⟩
  case round =>
    obtain ⟨j, hj, rfl, hu, hb⟩ := hrel
    have HU := Lib.hid (And.intro hu hb)
    have hbw : Below w.heap.size w wr := HW.out.2.2.1.trans (hb.mono HW.out.2.2.1.size)
    have hck := H.out.1.below hbw H.out.1.lt
    have hmd := H.out.2.2.2.1.kept hbw
    clear hu
    by_cases hlt : j < k
    · obtain ⟨_, av, d0, d1, d2, d3, d4, d5, d6⟩ := (H.out.2.2.1 j hlt).same (same_of_below hbw H.out.2.1)
      obtain ⟨aa, am, ac, rfl⟩ : ∃ a m c, av = .slice a m c := by
        rcases d6 with ⟨_, rfl⟩ | ⟨_, ba, _, rfl, _⟩
        · exact ⟨_, _, _, rfl⟩
        · exact ⟨_, _, _, rfl⟩
      obtain ⟨op, hop⟩ : ∃ op, op = ks j := ⟨_, rfl⟩
      rw [← hop] at d0 d1 d3 d6
      obtain ⟨dst, hdst⟩ : ∃ d, d = dstOf op := ⟨_, rfl⟩
      obtain ⟨imm, himm⟩ : ∃ d, d = immOf op := ⟨_, rfl⟩
      rw [← hdst] at d1
      rw [← himm] at d3
      obtain ⟨W2, hW2⟩ : ∃ W2, W2 = wr.alloc (instC op dst (.slice aa am ac) imm) := ⟨_, rfl⟩
      obtain ⟨p8, hp8⟩ : ∃ p, p = wr.heap.size := ⟨_, rfl⟩
      have hbel : Below wr.heap.size wr W2 := by rw [hW2]; exact (Below.refl _ _).alloc (Nat.le_refl _) _
      have k8 : Blk p8 #[.int .u8 (op : Int), I dst, .slice aa am ac, I imm, I 0, .slice none 0 0] 50 W2 := by rw [hW2, hp8]; exact Blk.new _ _ _
      have z0 := k8.get 0 (.int .u8 (op : Int)) rfl
      have z1 := k8.get 1 (I dst) rfl
      have z2 := k8.get 2 (.slice aa am ac) rfl
      have z3 := k8.get 3 (I imm) rfl
      have z4 := k8.get 4 (I 0) rfl
      have z5 := k8.get 5 (.slice none 0 0) rfl
      have hav : ArgAt B W2 op (.slice aa am ac) := by
        rcases d6 with h | ⟨h, ba, hba, e, hk⟩
        · exact Or.inl h
        · exact Or.inr ⟨h, ba, hba, e, hk.below hbel hk.lt⟩
      have HC := Lib.hid (mayUse_all B bk bm (I 0) (I 0) (I vals) (.slice (some ⟨bb, 0, none⟩) 1 1) c4 c5 c6 c7 c8 c9 f n op j (.slice aa am ac) W2 (hck.below hbel hck.lt) (hmd.kept hbel) H.out.2.2.2.2 hav)
      rw [← hdst, ← himm] at HC
      obtain ⟨r, hr⟩ : ∃ r, r = useB f j op := ⟨_, rfl⟩
      rw [← hr] at HC
      rw [hop] at hr
      have HW2 := Lib.hid (And.intro hW2 (And.intro hp8 (And.intro hbel hr)))
      have hltI : decide ((j : Int) < (k : Int)) = true := by simp; omega
      clear hbw hb hck hmd hop hdst himm hW2 hp8 hbel k8 hav hr d6
      go_upto_region 13 with (fail)
      rw [← HW2.out.2.1]
      change Code.wp _ _ _ _ (wr.alloc (instC op dst (.slice aa am ac) imm))
      rw [← HW2.out.1]
      clear d0 d1 d2 d3 d4 d5
      go_wp2_with fail
      refine HC.out.mono ?_
      rintro e w3 ⟨rfl, h4⟩
      have HB3 := Lib.hid (HU.out.2.trans (Below.trans (HW2.out.2.2.1.mono HU.out.2.size) (h4.mono (Nat.le_trans HU.out.2.size HW2.out.2.2.1.size))))
      clear h4 z0 z1 z2 z3 z4 z5
      cases r
      · have FIN := Lib.hid (And.intro (useB_fail hlt HW2.out.2.2.2.symm) (HW.out.2.2.1.trans (HB3.out.mono HW.out.2.2.1.size)))
        go_wp2_with fail
        go_ret
        exact ⟨ret_bool FIN.out.1.symm, FIN.out.2⟩
      · have H3 := Lib.hid (show UsesRel f ks k W (I ((j + 1 : Nat) : Int)) w3 from ⟨j + 1, hlt, rfl, fun i hi => by
          rcases Nat.lt_or_ge i j with h | h
          · exact HU.out.1 i h
          · obtain rfl : i = j := by omega
            exact HW2.out.2.2.2.symm, HB3.out⟩)
        go_wp2_with fail
        go_roundw
        case rel => exact H3.out
        case measure => simp [intOf]; omega
    · obtain rfl : j = k := by omega
      have hltI : decide ((j : Int) < (j : Int)) = false := by simp
      have k4 := H.out.1
      have hp4 := HW.out.2.2.2.below hb HW.out.2.2.2.lt
      have y1 := hp4.get 1 (.slice (some ⟨bi, 0, none⟩) j cap) rfl
      have y2 := hp4.get 2 (.int .u8 3) rfl
      have y3 := hp4.get 3 (I 0) rfl
      have HC := Lib.hid (isMade_near bk bm (I 0) (I 0) (I vals) (.slice (some ⟨bb, 0, none⟩) 1 1) c4 c5 c6 c7 c8 c9 f n 0 0 (j : Int) (by decide) wr hck hmd ((f 0).getD (0, 0)).1 ((f 0).getD (0, 0)).2 rfl (H.out.2.2.2.2 0))
      obtain ⟨r, hr⟩ : ∃ r, r = usesB f ks j := ⟨_, rfl⟩
      have hr2 : ((f 0).isSome && decide (((f 0).getD (0, 0)).2 < (j : Int))) = r := by rw [hr, useB_end HU.out.1]; rfl
      rw [hr2] at HC
      have HBW := Lib.hid (And.intro hbw hr)
      clear hr hr2 hp4 hck hmd hb hbw k4
      go_wp2_with fail
      refine HC.out.mono ?_
      rintro e w3 ⟨rfl, h4⟩
      have FIN := Lib.hid (HBW.out.1.trans (h4.mono HBW.out.1.size))
      clear h4
      cases r
      · go_wp2_with fail
        go_ret
        exact ⟨ret_bool HBW.out.2, FIN.out⟩
      · go_wp2_with fail
        rw [rounds_succ]
        go_wp2_with fail
        go_ret
        exact ⟨ret_bool HBW.out.2, FIN.out⟩
end Go.Proofs.Ytiimcckajjpbjaa
