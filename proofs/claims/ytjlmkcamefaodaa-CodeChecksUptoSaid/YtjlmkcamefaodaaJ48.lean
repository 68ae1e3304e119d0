/-
  Joined: CRight, CLittle.
-/
import Derived.Test.YtjlmkcamefaodaaJ47
import Derived.Laws.AppendOwnNone
/-! CRight: Code of one function of one block that answers a value: is it right? -/

namespace Go.Proofs.Ytjlmkcamefaodaa
open Go Go.RowKit Go.Maps Cd

/-- Code of one function of one block, in memory. -/
structure Cod (B bf bb bi k cap : Nat) (ks : Nat → Nat) (vals : Int) (w : World) : Prop where
  fn : Blk bf #[I 0, I 0, I vals, .slice (some ⟨bb, 0, none⟩) 1 1] 36 w
  bl : Blk1 bb bi k cap w
  ins : ∀ j, j < k → InsAt B w bi j (ks j)
  hf : bf < B
  hb : bb < B
  hB : B ≤ w.heap.size
  len : k ≤ 100000
abbrev codV (bf : Nat) : Value := .agg #[.slice (some ⟨bf, 0, none⟩) 1 1, .slice none 0 0, I 0]
abbrev codC (bf : Nat) : Obj := .cells #[.slice (some ⟨bf, 0, none⟩) 1 1, .slice none 0 0, I 0] 25

theorem Cod.below {B bf bb bi k cap : Nat} {ks : Nat → Nat} {vals : Int} {w w' : World} (h : Cod B bf bb bi k cap ks vals w) (hb : Below w.heap.size w w') : Cod B bf bb bi k cap ks vals w' :=
  have hs : Same B w w' := same_of_below hb h.hB
  ⟨hs.blk h.hf h.fn, hs.blk h.hb h.bl, fun j hj => (h.ins j hj).same hs, h.hf, h.hb, Nat.le_trans h.hB hb.size, h.len⟩

set_option maxRecDepth 100000 in
set_option maxHeartbeats 800000 in
theorem size_one (B bf bb bi k cap : Nat) (ks : Nat → Nat) (vals : Int) (w : World) (h : Cod B bf bb bi k cap ks vals w) :
    Calls Try.prog 12 #[codV bf] w fun e w' => e = .returned (I (k : Int)) ∧ Below w.heap.size w w' := by
  obtain ⟨W, hW⟩ : ∃ W, W = w.alloc (codC bf) := ⟨_, rfl⟩
  obtain ⟨W2, hW2⟩ : ∃ W2, W2 = W.alloc (funC bb vals) := ⟨_, rfl⟩
  obtain ⟨W3, hW3⟩ : ∃ W3, W3 = W2.alloc (blkC bi k cap) := ⟨_, rfl⟩
  obtain ⟨p1, hp1⟩ : ∃ p, p = w.heap.size := ⟨_, rfl⟩
  obtain ⟨p5, hp5⟩ : ∃ p, p = W.heap.size := ⟨_, rfl⟩
  obtain ⟨p7, hp7⟩ : ∃ p, p = W2.heap.size := ⟨_, rfl⟩
  have e1 : Below w.heap.size w W := by rw [hW]; exact (Below.refl _ _).alloc (Nat.le_refl _) _
  have e2 : Below W.heap.size W W2 := by rw [hW2]; exact (Below.refl _ _).alloc (Nat.le_refl _) _
  have e3 : Below W2.heap.size W2 W3 := by rw [hW3]; exact (Below.refl _ _).alloc (Nat.le_refl _) _
  have k1 : Blk p1 #[.slice (some ⟨bf, 0, none⟩) 1 1, .slice none 0 0, I 0] 25 W := by rw [hW, hp1]; exact Blk.new _ _ _
  have k5 : Blk p5 #[I 0, I 0, I vals, .slice (some ⟨bb, 0, none⟩) 1 1] 36 W2 := by rw [hW2, hp5]; exact Blk.new _ _ _
  have k7 : Blk1 p7 bi k cap W3 := by rw [hW3, hp7]; exact Blk.new _ _ _
  have h1 := h.below e1
  have h2 := h1.below e2
  have HW := Lib.hid (And.intro hW (And.intro hp1 (And.intro hW2 (And.intro hp5 (And.intro hW3 hp7)))))
  have FIN := Lib.hid (e1.trans ((e2.trans (e3.mono e2.size)).mono e1.size))
  have hkl := h.len
  have x0 := k1.get 0 (.slice (some ⟨bf, 0, none⟩) 1 1) rfl
  have f0 := h1.fn.get 0 (I 0) rfl
  have f1 := h1.fn.get 1 (I 0) rfl
  have f2 := h1.fn.get 2 (I vals) rfl
  have f3 := h1.fn.get 3 (.slice (some ⟨bb, 0, none⟩) 1 1) rfl
  have g3 := k5.get 3 (.slice (some ⟨bb, 0, none⟩) 1 1) rfl
  have b0 := h2.bl.get 0 (.slice none 0 0) rfl
  have b1 := h2.bl.get 1 (.slice (some ⟨bi, 0, none⟩) k cap) rfl
  have b2 := h2.bl.get 2 (.int .u8 3) rfl
  have b3 := h2.bl.get 3 (I 0) rfl
  have b4 := h2.bl.get 4 (I 0) rfl
  have b5 := h2.bl.get 5 (I 0) rfl
  have y0 := k7.get 0 (.slice none 0 0) rfl
  have y1 := k7.get 1 (.slice (some ⟨bi, 0, none⟩) k cap) rfl
  clear h h1 h2 hW hW2 hW3 hp1 hp5 hp7 e1 e2 e3 k1 k5 k7
  go_enter Try.func12, Try.ntmps12
  go_upto_region 1 with (fail)
  rw [← HW.out.2.1]
  change Code.wp _ _ _ _ (w.alloc (codC bf))
  rw [← HW.out.1]
  go_wp2_with fail
  refine wp_loop_rounds 2 ?_
  rw [rounds_succ]
  go_upto_region 5 with (fail)
  rw [← HW.out.2.2.2.1]
  change Code.wp _ _ _ _ (W.alloc (funC bb vals))
  rw [← HW.out.2.2.1]
  go_wp2_with fail
  refine wp_loop_rounds 2 ?_
  rw [rounds_succ]
  go_upto_region 8 with (fail)
  rw [← HW.out.2.2.2.2.2]
  change Code.wp _ _ _ _ (W2.alloc (blkC bi k cap))
  rw [← HW.out.2.2.2.2.1]
  go_wp2_with fail
  rw [rounds_succ]
  go_wp2_with fail
  rw [rounds_succ]
  go_wp2_with fail
  go_ret
  exact ⟨rfl, FIN.out⟩

theorem Cod.same {B bf bb bi k cap : Nat} {ks : Nat → Nat} {vals : Int} {w w' : World} (h : Cod B bf bb bi k cap ks vals w) (hs : Same B w w') (hl : w.heap.size ≤ w'.heap.size) : Cod B bf bb bi k cap ks vals w' :=
  ⟨hs.blk h.hf h.fn, hs.blk h.hb h.bl, fun j hj => (h.ins j hj).same hs, h.hf, h.hb, Nat.le_trans h.hB hl, h.len⟩
theorem MadeW.grown {bm b : Nat} {f : Int → Option (Int × Int)} {n : Nat} {w w' : World} (h : MadeW bm f n w) (hg : w.grownBy w' (some b)) (hne : bm ≠ b) : MadeW bm f n w' := by
  obtain ⟨D, h1, h2⟩ := h
  exact ⟨D, h1.kept hg (by simpa using hne), h2⟩
theorem below_of_grown {B b : Nat} {w0 w w' : World} (h : Below B w0 w) (hg : w.grownBy w' (some b)) (hB : B ≤ w.heap.size) (hb : B ≤ b) : Below B w0 w' := h.grown hg hB (by intro k hk; simp at hk; omega)

set_option maxRecDepth 100000 in
set_option maxHeartbeats 800000 in
theorem isRight_one (B bf bb bi k cap : Nat) (ks : Nat → Nat) (vals : Int) (w : World) (h : Cod B bf bb bi k cap ks vals w) (hfr : 0 ≤ vals ∧ vals ≤ 60000 → ∀ j, j < k → ks j ≠ 40 → noteF ks j (dstOf (ks j)) = none ∧ 0 ≤ dstOf (ks j) ∧ dstOf (ks j) ≤ vals - 1) (hz : ∀ x, ((noteF ks k x).getD (0, 0)).1 = 0) :
    Calls Try.prog 20 #[codV bf] w fun e w' => e = .returned (.bool (decide (0 ≤ vals ∧ vals ≤ 60000) && usesB (noteF ks k) ks k)) ∧ Below w.heap.size w w' := by
  obtain ⟨W, hW⟩ : ∃ W, W = w.alloc (codC bf) := ⟨_, rfl⟩
  obtain ⟨p1, hp1⟩ : ∃ p, p = w.heap.size := ⟨_, rfl⟩
  have e1 : Below w.heap.size w W := by rw [hW]; exact (Below.refl _ _).alloc (Nat.le_refl _) _
  have k1 : Blk p1 #[.slice (some ⟨bf, 0, none⟩) 1 1, .slice none 0 0, I 0] 25 W := by rw [hW, hp1]; exact Blk.new _ _ _
  obtain ⟨W2, hW2⟩ : ∃ W2, W2 = ((W.alloc (funC bb vals)).alloc (.map #[] 0)).alloc (.cells #[I 0, I 0, I vals, .slice (some ⟨bb, 0, none⟩) 1 1, .slice (some ⟨bf, 0, none⟩) 1 1, .slice none 0 0, I 0, .slice none 0 0, .slice none 0 0, .slice none 0 0, .map (some (W.heap.size + 1))] 66) := ⟨_, rfl⟩
  have h1 := h.below e1
  have x0 := k1.get 0 (.slice (some ⟨bf, 0, none⟩) 1 1) rfl
  have x1 := k1.get 1 (.slice none 0 0) rfl
  have x2 := k1.get 2 (I 0) rfl
  have f0 := h1.fn.get 0 (I 0) rfl
  have f1 := h1.fn.get 1 (I 0) rfl
  have f2 := h1.fn.get 2 (I vals) rfl
  have f3 := h1.fn.get 3 (.slice (some ⟨bb, 0, none⟩) 1 1) rfl
  have hlt : p1 < W.heap.size := k1.lt
  have hne : ¬ p1 = W.heap.size := by omega
  have HW := Lib.hid (And.intro hW (And.intro hp1 hW2))
  have H1 := Lib.hid (And.intro e1 h1)
  have HF := Lib.hid (And.intro hfr hz)
  have hmm := @run_makeMap Try.prog
  clear h h1 hW hW2 hp1 e1 k1 hfr hz
  go_enter Try.func20, Try.ntmps20
  go_upto_region 1 with (fail)
  rw [← HW.out.2.1]
  change Code.wp _ _ _ _ (w.alloc (codC bf))
  rw [← HW.out.1]
  go_wp2_with fail
  refine wp_loop_rounds 1 ?_
  rw [rounds_succ]
  go_wp2_with fail
  refine wp_loop_rounds 2 ?_
  rw [rounds_succ]
  go_upto_region 13 with (fail)
  obtain ⟨bm, hbm⟩ : ∃ p, p = W.heap.size + 1 := ⟨_, rfl⟩
  obtain ⟨bk, hbk⟩ : ∃ p, p = W.heap.size + 1 + 1 := ⟨_, rfl⟩
  have e2 : Below W.heap.size W W2 := by rw [HW.out.2.2]; exact (((Below.refl _ _).alloc (Nat.le_refl _) _).alloc (by simp) _).alloc (by simp; omega) _
  have ck : Ck1 bk bm bb vals (.slice (some ⟨bf, 0, none⟩) 1 1) (.slice none 0 0) (I 0) (.slice none 0 0) (.slice none 0 0) (.slice none 0 0) W2 := by
    rw [HW.out.2.2, hbk, hbm]; exact Blk.new' _ _ _ (by simp)
  have md : MadeW bm (noteF ks 0) 0 W2 := by
    refine ⟨.map [], ?_, MadeIs.none⟩
    rw [HW.out.2.2, hbm]
    have := World.ownsMap_made (W.alloc (funC bb vals)) Try.prog 3 placeR
    rw [show (W.alloc (funC bb vals)).heap.size = W.heap.size + 1 by simp] at this
    exact this.alloc _
  have cd := H1.out.2.below e2
  have hBW : B ≤ W.heap.size := H1.out.2.hB
  have H2 := Lib.hid (And.intro (H1.out.1.trans (e2.mono H1.out.1.size)) (And.intro ck (And.intro md (And.intro cd (show B ≤ bm ∧ B ≤ bk ∧ bk ≠ bm ∧ bb ≠ bk ∧ w.heap.size ≤ bm ∧ w.heap.size ≤ bk by have := H1.out.1.size; have := H1.out.2.hb; omega)))))
  have HB := Lib.hid (And.intro hbm hbk)
  clear hbm hbk e2 ck md cd hBW x0 x1 x2 f0 f1 f2 f3 hlt hne
  rw [← HB.out.2]
  change Code.wp _ _ _ _ (((W.alloc (funC bb vals)).alloc (.map #[] 0)).alloc (.cells #[I 0, I 0, I vals, .slice (some ⟨bb, 0, none⟩) 1 1, .slice (some ⟨bf, 0, none⟩) 1 1, .slice none 0 0, I 0, .slice none 0 0, .slice none 0 0, .slice none 0 0, .map (some (W.heap.size + 1))] 66))
  rw [← HW.out.2.2]
  go_wp2_with fail
  refine (hasSizes_one bk bm bb vals _ _ _ _ _ _ W2 H2.out.2.1).mono ?_
  rintro e w' ⟨rfl, rfl⟩
  obtain ⟨d, hd⟩ : ∃ d, d = decide (0 ≤ vals ∧ vals ≤ 60000) := ⟨_, rfl⟩
  rw [← hd]
  have HD := Lib.hid hd
  clear hd
  cases d
  · go_wp2_with fail
    go_ret
    exact ⟨ret_bool (by rw [← HD.out]; rfl), H2.out.1⟩
  · have hv : 0 ≤ vals ∧ vals ≤ 60000 := of_decide_eq_true HD.out.symm
    have HV := Lib.hid hv
    clear hv
    go_wp2_with fail
    refine (hasWays_one bk bm bb bi k cap vals _ _ _ W2 H2.out.2.1 H2.out.2.2.2.1.bl H2.out.2.2.2.2.2.2.2.1).mono ?_
    rintro e w3 ⟨rfl, ⟨c7, c8, c9, ck3⟩, g3⟩
    have cd3 := H2.out.2.2.2.1.same (same_of_grown g3 H2.out.2.2.2.1.hB H2.out.2.2.2.2.2.1) g3.size
    have md3 := H2.out.2.2.1.grown g3 (Ne.symm H2.out.2.2.2.2.2.2.1)
    have b3 := below_of_grown H2.out.1 g3 H2.out.1.size H2.out.2.2.2.2.2.2.2.2.2
    have H3 := Lib.hid (And.intro ck3 (And.intro cd3 (And.intro md3 b3)))
    have HS := Lib.hid (hasShapes_one B bk bm bb bi k cap ks vals _ _ _ c7 c8 c9 w3 ⟨ck3, cd3.bl, cd3.hb, cd3.hB, H2.out.2.2.2.2.1, H2.out.2.2.2.2.2.2.1, cd3.ins, cd3.len, HV.out, HF.out.1 HV.out⟩ md3)
    clear ck3 cd3 md3 b3 g3
    go_wp2_with fail
    refine HS.out.mono ?_
    rintro e w4 ⟨rfl, md4, g4⟩
    have cd4 := H3.out.2.1.same (same_of_grown g4 H3.out.2.1.hB H2.out.2.2.2.2.1) g4.size
    have ck4 : Ck1 bk bm bb vals (.slice (some ⟨bf, 0, none⟩) 1 1) (.slice none 0 0) (I 0) c7 c8 c9 w4 := H3.out.1.other g4 (by have := H2.out.2.2.2.2.2.2.1; simpa using this)
    have b4 := below_of_grown H3.out.2.2.2 g4 H3.out.2.2.2.size H2.out.2.2.2.2.2.2.2.2.1
    have HU := Lib.hid (hasUses_one B bk bm bb bi k cap ks vals _ _ _ c7 c8 c9 (noteF ks k) k w4 ck4 cd4.bl cd4.hB cd4.ins cd4.len md4 HF.out.2)
    have HB4 := Lib.hid b4
    clear md4 g4 cd4 ck4 b4
    go_wp2_with fail
    refine HU.out.mono ?_
    rintro e w5 ⟨rfl, h5⟩
    have FIN := Lib.hid (HB4.out.trans (h5.mono HB4.out.size))
    clear h5
    obtain ⟨r, hr⟩ : ∃ r, r = usesB (noteF ks k) ks k := ⟨_, rfl⟩
    rw [← hr]
    have HR := Lib.hid hr
    clear hr
    cases r
    · go_wp2_with fail
      go_ret
      exact ⟨ret_bool (by rw [← HD.out, ← HR.out]; rfl), FIN.out⟩
    · go_wp2_with fail
      rw [rounds_succ]
      go_wp2_with fail
      go_ret
      exact ⟨ret_bool (by rw [← HD.out, ← HR.out]; rfl), FIN.out⟩

/-- What Check answers. -/
def checkI (ks : Nat → Nat) (k : Nat) (vals : Int) : Int := if 40000 < k then 15 else if decide (0 ≤ vals ∧ vals ≤ 60000) && usesB (noteF ks k) ks k then 0 else 3

set_option maxRecDepth 100000 in
set_option maxHeartbeats 800000 in
theorem check_one (B bf bb bi k cap : Nat) (ks : Nat → Nat) (vals : Int) (w : World) (h : Cod B bf bb bi k cap ks vals w) (hfr : 0 ≤ vals ∧ vals ≤ 60000 → ∀ j, j < k → ks j ≠ 40 → noteF ks j (dstOf (ks j)) = none ∧ 0 ≤ dstOf (ks j) ∧ dstOf (ks j) ≤ vals - 1) (hz : ∀ x, ((noteF ks k x).getD (0, 0)).1 = 0) :
    Calls Try.prog 8 #[codV bf] w fun e w' => e = .returned (I (checkI ks k vals)) ∧ Below w.heap.size w w' := by
  obtain ⟨W, hW⟩ : ∃ W, W = w.alloc (codC bf) := ⟨_, rfl⟩
  obtain ⟨p1, hp1⟩ : ∃ p, p = w.heap.size := ⟨_, rfl⟩
  have e1 : Below w.heap.size w W := by rw [hW]; exact (Below.refl _ _).alloc (Nat.le_refl _) _
  have k1 : Blk p1 #[.slice (some ⟨bf, 0, none⟩) 1 1, .slice none 0 0, I 0] 25 W := by rw [hW, hp1]; exact Blk.new _ _ _
  have h1 := h.below e1
  have H1 := Lib.hid (And.intro e1 (And.intro h1 k1))
  have HW := Lib.hid (And.intro hW hp1)
  have HF := Lib.hid (And.intro hfr hz)
  have x0 := k1.get 0 (.slice (some ⟨bf, 0, none⟩) 1 1) rfl
  have x1 := k1.get 1 (.slice none 0 0) rfl
  have x2 := k1.get 2 (I 0) rfl
  clear h h1 e1 k1 hW hp1 hfr hz
  go_enter Try.func8, Try.ntmps8
  go_upto_region 1 with (fail)
  rw [← HW.out.2]
  change Code.wp _ _ _ _ (w.alloc (codC bf))
  rw [← HW.out.1]
  go_wp2_with fail
  refine (size_one B bf bb bi k cap ks vals W H1.out.2.1).mono ?_
  rintro e w1 ⟨rfl, b1⟩
  have h2 := H1.out.2.1.below b1
  have k2 := H1.out.2.2.below b1 H1.out.2.2.lt
  have e2 := H1.out.1.trans (b1.mono H1.out.1.size)
  have H2 := Lib.hid (And.intro e2 h2)
  have x0 := k2.get 0 (.slice (some ⟨bf, 0, none⟩) 1 1) rfl
  have x1 := k2.get 1 (.slice none 0 0) rfl
  have x2 := k2.get 2 (I 0) rfl
  have hkl := h2.len
  clear b1 h2 k2 e2
  by_cases hbig : 40000 < k
  · have hbI : decide ((40000 : Int) < (k : Int)) = true := by simp; omega
    have FIN := Lib.hid (And.intro (show (15 : Int) = checkI ks k vals by unfold checkI; rw [if_pos hbig]) H2.out.1)
    go_wp2_with fail
    go_ret
    exact ⟨ret_int FIN.out.1, FIN.out.2⟩
  · have hbI : decide ((40000 : Int) < (k : Int)) = false := by simp; omega
    go_wp2_with fail
    refine (isRight_one B bf bb bi k cap ks vals w1 H2.out.2 HF.out.1 HF.out.2).mono ?_
    rintro e w2 ⟨rfl, b2⟩
    have FIN := Lib.hid (H2.out.1.trans (b2.mono H2.out.1.size))
    clear b2
    obtain ⟨r, hr⟩ : ∃ r, r = (decide (0 ≤ vals ∧ vals ≤ 60000) && usesB (noteF ks k) ks k) := ⟨_, rfl⟩
    have HR := Lib.hid (show (if r = true then (0 : Int) else 3) = checkI ks k vals by unfold checkI; rw [if_neg hbig, ← hr])
    rw [← hr]
    clear hr
    cases r
    · go_wp2_with fail
      go_ret
      exact ⟨ret_int HR.out, FIN.out⟩
    · go_wp2_with fail
      go_ret
      exact ⟨ret_int HR.out, FIN.out⟩
end Go.Proofs.Ytjlmkcamefaodaa

/-! CLittle: The statement's own little code. -/

namespace Go.Proofs.Ytjlmkcamefaodaa
open Go Go.RowKit Go.Maps Cd

theorem info_inst : (Try.prog.info? 44).map (fun i => (i.zero, i.size, i.bytes)) = some (some (.agg #[.int .u8 0, I 0, .slice none 0 0, I 0, I 0, .slice none 0 0]), 6, 80) := by kernel_rfl
/-- An instruction's cells. -/
def instL (op : Nat) (av : Value) : List Value := [.int .u8 (op : Int), I (dstOf op), av, I (immOf op), I 0, .slice none 0 0]
theorem instL_get (op : Nat) (av : Value) (m : Nat) (hm : m < 6) : (instL op av)[m]? = some ((instL op av)[m]'hm) := List.getElem?_eq_getElem _

theorem add_off (b n : Nat) : (⟨b, 0, none⟩ : Addr).add n = ⟨b, n, none⟩ := by unfold Addr.add; split <;> simp_all
/-- Instructions in a row of their own. -/
theorem ins_of {w : World} {base B bi k cap j op : Nat} {av : Value} {xs : List Value} (h : w.ownsRow base 44 6 (.slice (some ⟨bi, 0, none⟩) k cap) k xs) (hB : bi < B) (hx : ∀ m, m < 6 → xs[j * 6 + m]? = (instL op av)[m]?) (ha : ArgAt B w op av) : InsAt B w bi j op := by
  have key : ∀ m u, m < 6 → (instL op av)[m]? = some u → w.cell? ⟨bi, j * 6 + m, none⟩ = some u := by
    intro m u hm hu
    have := h.cells (g := bi) rfl (j * 6 + m) u ((hx m hm).trans hu)
    rw [add_off] at this
    exact this
  exact ⟨hB, av, key 0 _ (by decide) rfl, key 1 _ (by decide) rfl, key 2 _ (by decide) rfl, key 3 _ (by decide) rfl, key 4 _ (by decide) rfl, key 5 _ (by decide) rfl, ha⟩

def Littled (k : Nat) (ks : Nat → Nat) (w w' : World) (e : Ending) : Prop := ∃ bf bb bi cap, e = .returned (codV bf) ∧ Cod w'.heap.size bf bb bi k cap ks 3 w' ∧ Below w.heap.size w w' ∧ w.heap.size ≤ bf ∧ w.heap.size ≤ bb ∧ bf ≠ bb

theorem int0 (n : Int) : Value.int .i64 n = I n := rfl

set_option maxRecDepth 100000 in
set_option maxHeartbeats 800000 in
theorem little_none (w : World) : Calls Try.prog 17 #[.slice none 0 0] w fun e w' => Littled 1 (fun _ => 30) w w' e := by
  obtain ⟨W, hW⟩ : ∃ W, W = (((((w.alloc (codC (w.heap.size + 1 + 1 + 1 + 1))).alloc (instC 30 0 (.slice none 0 0) 7)).alloc (blkC (w.heap.size + 1) 1 1)).alloc (blkC (w.heap.size + 1) 1 1)).alloc (funC (w.heap.size + 1 + 1 + 1) 3)) := ⟨_, rfl⟩
  have get : ∀ i o, [codC (w.heap.size + 1 + 1 + 1 + 1), instC 30 0 (.slice none 0 0) 7, blkC (w.heap.size + 1) 1 1, blkC (w.heap.size + 1) 1 1, funC (w.heap.size + 1 + 1 + 1) 3][i]? = some o → W.heap[w.heap.size + i]? = some o := by
    intro i o hi
    rw [hW]
    exact five_get w _ _ _ _ _ i o hi
  have hsz : W.heap.size = w.heap.size + 5 := by rw [hW]; simp
  have k0 : Blk w.heap.size #[.slice (some ⟨w.heap.size + 1 + 1 + 1 + 1, 0, none⟩) 1 1, .slice none 0 0, I 0] 25 W := get 0 _ rfl
  have k1 : Blk (w.heap.size + 1) #[.int .u8 30, I 0, .slice none 0 0, I 7, I 0, .slice none 0 0] 44 W := get 1 _ rfl
  have hb : Below w.heap.size w W := by rw [hW]; exact (((((Below.refl _ _).alloc (Nat.le_refl _) _).alloc (by simp) _).alloc (by simp; omega) _).alloc (by simp; omega) _).alloc (by simp; omega) _
  have FIN := Lib.hid (show Littled 1 (fun _ => 30) w W (.returned (codV (w.heap.size + 1 + 1 + 1 + 1))) from
    ⟨_, w.heap.size + 1 + 1 + 1, w.heap.size + 1, 1, rfl, ⟨get 4 _ rfl, get 3 _ rfl, fun j hj => by
      obtain rfl : j = 0 := by omega
      refine ins_of (k1.owns (size := 6) (n := 1) (Nat.zero_le _) (by unfold maxLen; omega) rfl) (by omega) (av := .slice none 0 0) (fun m hm => ?_) (Or.inl ⟨rfl, rfl⟩)
      rw [Nat.zero_mul, Nat.zero_add]
      rfl, by omega, by omega, Nat.le_refl _, by omega⟩, hb, by omega, by omega, by omega⟩)
  have HW := Lib.hid hW
  have g0 := k0.get 0 (.slice (some ⟨w.heap.size + 1 + 1 + 1 + 1, 0, none⟩) 1 1) rfl
  have g1 := k0.get 1 (.slice none 0 0) rfl
  have g2 := k0.get 2 (I 0) rfl
  have HG := Lib.hid (And.intro g0 (And.intro g1 g2))
  clear get hsz k0 k1 hb hW g0 g1 g2
  go_enter Try.func17, Try.ntmps17
  go_wp2_with fail
  change bodyPost _ _ _ _ _ (((((w.alloc (codC (w.heap.size + 1 + 1 + 1 + 1))).alloc (instC 30 0 (.slice none 0 0) 7)).alloc (blkC (w.heap.size + 1) 1 1)).alloc (blkC (w.heap.size + 1) 1 1)).alloc (funC (w.heap.size + 1 + 1 + 1) 3))
  rw [← HW.out]
  have g0 := HG.out.1
  have g1 := HG.out.2.1
  have g2 := HG.out.2.2
  exact bodyPost_ret (v := codV (w.heap.size + 1 + 1 + 1 + 1)) (by simp [results, Try.results17, go_sem, g0, g1, g2]) rfl FIN.out

set_option maxRecDepth 100000 in
set_option maxHeartbeats 1600000 in
theorem little_one (bq ba : Nat) (w : World) (hq : Blk bq #[.int .u8 31, I 1, .slice (some ⟨ba, 0, none⟩) 1 1, I 0, I 0, .slice none 0 0] 44 w) (ha : Blk ba #[I 1] 3 w) :
    Calls Try.prog 17 #[.slice (some ⟨bq, 0, none⟩) 1 1] w fun e w' => Littled 2 (fun j => if j = 0 then 30 else 31) w w' e := by
  obtain ⟨i0, hi, hz0, hz1, hz2⟩ := info_parts info_inst
  have HI := Lib.hid (And.intro hi (And.intro hz0 (And.intro hz1 hz2)))
  have H := Lib.hid (And.intro hq ha)
  clear hi hz0 hz1 hz2 hq ha
  go_enter Try.func17, Try.ntmps17
  go_wp2_with (at_builtin; refine Hid.out ?_)
  unfold Hid
  obtain ⟨p2, hp2⟩ : ∃ p, p = w.heap.size := ⟨_, rfl⟩
  obtain ⟨W, hW⟩ : ∃ W, W = (w.alloc (.cells #[.slice none 0 0, .slice none 0 0, I 0] 25)).alloc (instC 30 0 (.slice none 0 0) 7) := ⟨_, rfl⟩
  have hbel : Below w.heap.size w W := by rw [hW]; exact ((Below.refl _ _).alloc (Nat.le_refl _) _).alloc (by simp) _
  have hsz : W.heap.size = w.heap.size + 2 := by rw [hW]; simp
  have kp : Blk p2 #[.slice none 0 0, .slice none 0 0, I 0] 25 W := by rw [hW, hp2]; exact (Blk.new _ _ _).alloc _
  have ki : Blk (w.heap.size + 1) #[.int .u8 30, I 0, .slice none 0 0, I 7, I 0, .slice none 0 0] 44 W := by rw [hW]; exact Blk.new' _ _ _ (by simp)
  have hq := H.out.1.below hbel H.out.1.lt
  have ha := H.out.2.below hbel H.out.2.lt
  have ho := ki.owns (base := w.heap.size) (size := 6) (n := 1) (by omega) (by unfold maxLen; omega) rfl
  change wpList _ _ _ _ _ ((w.alloc (.cells #[.slice none 0 0, .slice none 0 0, I 0] 25)).alloc (instC 30 0 (.slice none 0 0) 7))
  rw [← hW]
  have H1 := Lib.hid (And.intro hbel (And.intro hsz (And.intro kp (And.intro ha (And.intro hp2 (And.intro H.out.1.lt H.out.2.lt))))))
  refine wpList_append_own_at _ rfl _ _ 38 rfl w.heap.size 44 i0 _ 6 80 Try.underlying38 HI.out.1 HI.out.2.1 HI.out.2.2.1 HI.out.2.2.2 rfl (by decide) (.slice (some ⟨w.heap.size + 1, 0, none⟩) 1 1) 1 (instL 30 (.slice none 0 0)) rfl ho ⟨bq, 0, none⟩ 1 1 (instL 31 (.slice (some ⟨ba, 0, none⟩) 1 1)) rfl rfl ?_ (by unfold instL; simp [Value.oneCell']) (by unfold maxLen; omega) (by omega) (by omega) ?_
  · intro j u hu
    rw [add_off]
    exact hq.get j u (by rw [← Array.getElem?_toList]; exact hu)
  · intro v' w4 ho4 hg4 _ hat
    obtain ⟨g, cap, rfl⟩ : ∃ g cap, v' = .slice (some ⟨g, 0, none⟩) 2 cap := by
      rcases own_slice ho4 with ⟨_, h⟩ | ⟨g, cap, h⟩
      · exact absurd h (by decide)
      · exact ⟨g, cap, h⟩
    have hgl := ho4.lt g rfl
    have kp4 : Blk p2 #[.slice none 0 0, .slice none 0 0, I 0] 25 w4 := H1.out.2.2.1.other hg4 (by have := H1.out.2.2.2.2.1; simp [Value.ownBlock]; omega)
    have ka4 : Blk ba #[I 1] 3 w4 := H1.out.2.2.2.1.other hg4 (by have := H1.out.2.2.2.2.2.2; simp [Value.ownBlock]; omega)
    have hb4 : Below w.heap.size w w4 := H1.out.1.grown hg4 H1.out.1.size (by intro k hk; simp [Value.ownBlock] at hk; omega)
    have hs4 : W.heap.size ≤ w4.heap.size := hg4.size
    have hgp : g ≠ p2 := by
      have h1 := H1.out.2.2.2.2.1
      have h2 := H1.out.2.1
      rcases hat with h | h
      · simp [Value.ownBlock] at h; omega
      · simp [Value.ownBlock] at h; omega
    obtain ⟨bb, hbb⟩ : ∃ p, p = w4.heap.size + 1 := ⟨_, rfl⟩
    obtain ⟨bf, hbf⟩ : ∃ p, p = w4.heap.size + 1 + 1 := ⟨_, rfl⟩
    obtain ⟨W5, hW5⟩ : ∃ W5, W5 = ((w4.setCell ⟨p2, 0, none⟩ (.slice (some ⟨bf, 0, none⟩) 1 1)).setCell ⟨p2, 1, none⟩ (.slice none 0 0)).setCell ⟨p2, 2, none⟩ (I 0) := ⟨_, rfl⟩
    have hs5 : W5.heap.size = w4.heap.size := by rw [hW5]; simp [World.setCell]
    have kp5 : Blk p2 #[.slice (some ⟨bf, 0, none⟩) 1 1, .slice none 0 0, I 0] 25 W5 := by rw [hW5]; exact ((kp4.set 0 _).set 1 _).set 2 _
    have hbl : p2 ≠ ba := by have := H1.out.2.2.2.2.1; have := H1.out.2.2.2.2.2.2; omega
    have ka5 : Blk ba #[I 1] 3 W5 := by rw [hW5]; exact ((ka4.setOther (Ne.symm hbl) _ _).setOther (Ne.symm hbl) _ _).setOther (Ne.symm hbl) _ _
    have ho5 : W5.ownsRow w.heap.size 44 6 (.slice (some ⟨g, 0, none⟩) 2 cap) 2 (instL 30 (.slice none 0 0) ++ instL 31 (.slice (some ⟨ba, 0, none⟩) 1 1)) := by
      rw [hW5]
      exact own_set (own_set (own_set ho4 (by simp [Value.ownBlock]; exact Ne.symm hgp)) (by simp [Value.ownBlock]; exact Ne.symm hgp)) (by simp [Value.ownBlock]; exact Ne.symm hgp)
    have hb5 : Below w.heap.size w W5 := by
      rw [hW5]
      have h1 := H1.out.2.2.2.2.1
      exact ((hb4.setCell (p := ⟨p2, 0, none⟩) (by show w.heap.size ≤ p2; omega) _).setCell (p := ⟨p2, 1, none⟩) (by show w.heap.size ≤ p2; omega) _).setCell (p := ⟨p2, 2, none⟩) (by show w.heap.size ≤ p2; omega) _
    obtain ⟨W6, hW6⟩ : ∃ W6, W6 = ((W5.alloc (blkC g 2 cap)).alloc (blkC g 2 cap)).alloc (funC bb 3) := ⟨_, rfl⟩
    have hc6 : Below W5.heap.size W5 W6 := by rw [hW6]; exact (((Below.refl _ _).alloc (Nat.le_refl _) _).alloc (by simp) _).alloc (by simp; omega) _
    have kb6 : Blk1 bb g 2 cap W6 := by rw [hW6, hbb, ← hs5]; exact (Blk.new' _ _ _ (by simp)).alloc _
    have kf6 : Blk bf #[I 0, I 0, I 3, .slice (some ⟨bb, 0, none⟩) 1 1] 36 W6 := by rw [hW6, hbf, ← hs5]; exact Blk.new' _ _ _ (by simp)
    have hs6 : W6.heap.size = w4.heap.size + 3 := by rw [hW6]; simp; omega
    have kp6 := kp5.below hc6 kp5.lt
    have ka6 := ka5.below hc6 ka5.lt
    have ho6 := own_below ho5 hc6
    have FIN := Lib.hid (show Littled 2 (fun j => if j = 0 then 30 else 31) w W6 (.returned (codV bf)) from
      ⟨bf, bb, g, cap, rfl, ⟨kf6, kb6, fun j hj => by
        rcases Nat.lt_or_ge j 1 with h | h
        · obtain rfl : j = 0 := by omega
          refine ins_of ho6 (by omega) (av := .slice none 0 0) (fun m hm => ?_) (Or.inl ⟨rfl, rfl⟩)
          rw [Nat.zero_mul, Nat.zero_add, List.getElem?_append_left (by exact hm)]
          rfl
        · obtain rfl : j = 1 := by omega
          refine ins_of ho6 (by omega) (av := .slice (some ⟨ba, 0, none⟩) 1 1) (fun m hm => ?_) (Or.inr ⟨Or.inl rfl, ba, by have := ka6.lt; omega, rfl, ka6⟩)
          rw [List.getElem?_append_right (by show 6 ≤ _; omega), show 1 * 6 + m - (instL 30 (.slice none 0 0)).length = m by show 1 * 6 + m - 6 = m; omega]
          rfl, by omega, by omega, Nat.le_refl _, by omega⟩, hb5.trans (hc6.mono hb5.size), by have := hb4.size; omega, by have := hb4.size; omega, by omega⟩)
    have c0 := kp4.get 0 (.slice none 0 0) rfl
    have c1 := kp4.get 1 (.slice none 0 0) rfl
    have c2 := kp4.get 2 (I 0) rfl
    have f0 := kp4.free 0
    have f1 := kp4.free 1
    have f2 := kp4.free 2
    have l2 := kp4.lt
    have l3 : ¬ p2 = w4.heap.size := by omega
    have l4 : ¬ p2 = w4.heap.size + 1 := by omega
    have l5 : ¬ p2 = w4.heap.size + 1 + 1 := by omega
    have l6 : p2 < w4.heap.size + 1 := by omega
    have l7 : p2 < w4.heap.size + 1 + 1 := by omega
    have HG := Lib.hid (And.intro (kp6.get 0 (.slice (some ⟨bf, 0, none⟩) 1 1) rfl) (And.intro (kp6.get 1 (.slice none 0 0) rfl) (kp6.get 2 (I 0) rfl)))
    have HW := Lib.hid (And.intro hW5 (And.intro hW6 (And.intro hbb (And.intro hbf hp2))))
    rw [← hp2]
    clear hW hbel hsz kp ki hq ha ho ho4 hg4 hat hgl kp4 ka4 hb4 hs4 hgp hbb hbf hW5 hs5 kp5 hbl ka5 ho5 hb5 hW6 hc6 kb6 kf6 hs6 kp6 ka6 ho6 hp2
    go_wp2_with fail
    rw [← HW.out.2.2.2.1, ← HW.out.2.2.1]
    change bodyPost _ _ _ _ _ (((((((w4.setCell ⟨p2, 0, none⟩ (.slice (some ⟨bf, 0, none⟩) 1 1)).setCell ⟨p2, 1, none⟩ (.slice none 0 0)).setCell ⟨p2, 2, none⟩ (I 0)).alloc (blkC g 2 cap)).alloc (blkC g 2 cap)).alloc (funC bb 3)))
    rw [← HW.out.1, ← HW.out.2.1]
    have g0 := HG.out.1
    have g1 := HG.out.2.1
    have g2 := HG.out.2.2
    exact bodyPost_ret (v := codV bf) (by simp [results, Try.results17, go_sem, g0, g1, g2]) rfl FIN.out
end Go.Proofs.Ytjlmkcamefaodaa
