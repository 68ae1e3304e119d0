/-
  One block's instructions, each a number, a copy or a print: their forms.
-/
import Derived.Test.YtiimcckajjpbjaaCUse
import Derived.Deep.LoopGhost
namespace Go.Proofs.Ytiimcckajjpbjaa
open Go Go.RowKit Go.Maps Cd

namespace Cd
def dstOf (op : Nat) : Int := if op = 30 then 0 else if op = 31 then 1 else -1
def immOf (op : Nat) : Int := if op = 30 then 7 else 0
def argOf (op : Nat) : Int := if op = 31 then 1 else 0
/-- What is noted of the first instructions. -/
def noteF (ks : Nat → Nat) : Nat → Int → Option (Int × Int)
  | 0 => fun _ => none
  | j + 1 => if ks j = 40 then noteF ks j else fun u => if u = dstOf (ks j) then some (0, (j : Int)) else noteF ks j u
end Cd

def ArgAt (B : Nat) (w : World) (op : Nat) (av : Value) : Prop := (op = 30 ∧ av = .slice none 0 0) ∨ (OneUse op ∧ ∃ ba, ba < B ∧ av = .slice (some ⟨ba, 0, none⟩) 1 1 ∧ Blk ba #[I (argOf op)] 3 w)
/-- An instruction in memory, all of it below B. -/
def InsAt (B : Nat) (w : World) (bi j op : Nat) : Prop := bi < B ∧ ∃ av, w.cell? ⟨bi, j * 6, none⟩ = some (.int .u8 (op : Int)) ∧ w.cell? ⟨bi, j * 6 + 1, none⟩ = some (I (dstOf op)) ∧ w.cell? ⟨bi, j * 6 + 2, none⟩ = some av ∧ w.cell? ⟨bi, j * 6 + 3, none⟩ = some (I (immOf op)) ∧
  w.cell? ⟨bi, j * 6 + 4, none⟩ = some (I 0) ∧ w.cell? ⟨bi, j * 6 + 5, none⟩ = some (.slice none 0 0) ∧ ArgAt B w op av
/-- Below B nothing has turned. -/
def Same (B : Nat) (w w' : World) : Prop := ∀ i, i < B → w'.heap[i]? = w.heap[i]?
theorem Same.cell {B : Nat} {w w' : World} (h : Same B w w') {b i : Nat} (hb : b < B) : w'.cell? ⟨b, i, none⟩ = w.cell? ⟨b, i, none⟩ := World.cell?_of_block (w := w) (a := ⟨b, i, none⟩) (h b hb)
theorem Same.blk {B : Nat} {w w' : World} (h : Same B w w') {b : Nat} {cs : Array Value} {T : TypeId} (hb : b < B) (k : Blk b cs T w) : Blk b cs T w' := (h b hb).trans k
theorem Same.trans {B : Nat} {w w' w'' : World} (h : Same B w w') (h' : Same B w' w'') : Same B w w'' := fun i hi => (h' i hi).trans (h i hi)
theorem same_of_below {B : Nat} {w w' : World} (h : Below w.heap.size w w') (hB : B ≤ w.heap.size) : Same B w w' := fun i hi => h.block i (by omega)
theorem same_of_grown {B b : Nat} {w w' : World} (h : w.grownBy w' (some b)) (hB : B ≤ w.heap.size) (hb : B ≤ b) : Same B w w' := fun i hi => h.block i (by omega) (by simp; omega)
theorem InsAt.same {B : Nat} {w w' : World} {bi j op : Nat} (h : InsAt B w bi j op) (hs : Same B w w') : InsAt B w' bi j op := by
  obtain ⟨hb, av, h0, h1, h2, h3, h4, h5, h6⟩ := h
  refine ⟨hb, av, (hs.cell hb).trans h0, (hs.cell hb).trans h1, (hs.cell hb).trans h2, (hs.cell hb).trans h3, (hs.cell hb).trans h4, (hs.cell hb).trans h5, ?_⟩
  rcases h6 with h | ⟨h, ba, hba, e, hk⟩
  · exact Or.inl h
  · exact Or.inr ⟨h, ba, hba, e, hs.blk hba hk⟩

theorem grown_trans {w w1 w2 : World} {b : Nat} (h : w.grownBy w1 (some b)) (h' : w1.grownBy w2 (some b)) : w.grownBy w2 (some b) :=
  ⟨h'.os.trans h.os, h'.tape.trans h.tape, h'.output.trans h.output, Nat.le_trans h.size h'.size, fun i hi hne => (h'.block i (Nat.lt_of_lt_of_le hi h.size) hne).trans (h.block i hi hne)⟩
theorem grown_of {w w1 : World} (h : Below w.heap.size w w1) (b : Nat) : w.grownBy w1 (some b) := ⟨h.os, h.tape, h.output, h.size, fun i hi _ => h.block i hi⟩

/-- A checker of a function of one block. -/
abbrev Ck1 (bk bm bb : Nat) (vals : Int) (c4 c5 c6 c7 c8 c9 : Value) (w : World) : Prop := CkB bk bm (I 0) (I 0) (I vals) (.slice (some ⟨bb, 0, none⟩) 1 1) c4 c5 c6 c7 c8 c9 w
/-- Its block. -/
abbrev Blk1 (bb bi k cap : Nat) (w : World) : Prop := Blk bb #[.slice none 0 0, .slice (some ⟨bi, 0, none⟩) k cap, .int .u8 3, I 0, I 0, I 0] 45 w

def ShapesRel (bm k : Nat) (ks : Nat → Nat) (w0 : World) (i : Value) (wr : World) : Prop := ∃ j, j ≤ k ∧ i = I (j : Int) ∧ MadeW bm (noteF ks j) j wr ∧ w0.grownBy wr (some bm)

/-- All that the forms of one block's instructions lean on. -/
structure Shp (B bk bm bb bi k cap : Nat) (ks : Nat → Nat) (vals : Int) (c4 c5 c6 c7 c8 c9 : Value) (w : World) : Prop where
  ck : Ck1 bk bm bb vals c4 c5 c6 c7 c8 c9 w
  bl : Blk1 bb bi k cap w
  hb : bb < B
  hB : B ≤ w.heap.size
  hm : B ≤ bm
  hk : bk ≠ bm
  ins : ∀ j, j < k → InsAt B w bi j (ks j)
  len : k ≤ 100000
  val : 0 ≤ vals ∧ vals ≤ 60000
  fresh : ∀ j, j < k → ks j ≠ 40 → noteF ks j (dstOf (ks j)) = none ∧ 0 ≤ dstOf (ks j) ∧ dstOf (ks j) ≤ vals - 1

theorem noteF_print {ks : Nat → Nat} {j : Nat} (h : ks j = 40) : noteF ks (j + 1) = noteF ks j := by show (if _ then _ else _) = _; rw [if_pos h]
theorem noteF_make {ks : Nat → Nat} {j : Nat} (h : ks j ≠ 40) : noteF ks (j + 1) = fun u => if u = dstOf (ks j) then some (0, (j : Int)) else noteF ks j u := by show (if _ then _ else _) = _; rw [if_neg h]
theorem MadeW.mono {bm : Nat} {f : Int → Option (Int × Int)} {n n' : Nat} {w : World} (h : MadeW bm f n w) (hn : n ≤ n') : MadeW bm f n' w := by
  obtain ⟨D, h1, h2⟩ := h
  exact ⟨D, h1.mono hn, h2⟩
theorem MadeW.kept {bm : Nat} {f : Int → Option (Int × Int)} {n : Nat} {w w' : World} (h : MadeW bm f n w) (hb : Below w.heap.size w w') : MadeW bm f n w' := by
  obtain ⟨D, h1, h2⟩ := h
  exact ⟨D, h1.kept (grown_of_below hb) (by simp), h2⟩
theorem MadeW.lt {bm : Nat} {f : Int → Option (Int × Int)} {n : Nat} {w : World} (h : MadeW bm f n w) : bm < w.heap.size := by
  obtain ⟨D, h1, h2⟩ := h
  exact h1.lt

/-- An instruction's form, whichever of the three it is. -/
theorem isInst_all (B bk bm : Nat) (c0 c1 c3 c4 c5 c6 c7 c8 c9 : Value) (vals : Int) (f : Int → Option (Int × Int)) (n op : Nat) (av : Value) (hn : n < 1000000) (ha : Int) (hvs : 0 ≤ vals ∧ vals ≤ 60000) (w : World) (h : CkB bk bm c0 c1 (I vals) c3 c4 c5 c6 c7 c8 c9 w) (hm : MadeW bm f n w) (hbk : bk ≠ bm)
    (hav : ArgAt B w op av) (hf : op ≠ 40 → f (dstOf op) = none ∧ 0 ≤ dstOf op ∧ dstOf op ≤ vals - 1) :
    Calls Try.prog 59 #[.pointer (some ⟨bk, 0, none⟩), instV op (dstOf op) av (immOf op), placeV 0 ha] w fun e w' => e = .returned (.bool true) ∧ MadeW bm (if op = 40 then f else fun u => if u = dstOf op then some (0, ha) else f u) (n + 1) w' ∧ w.grownBy w' (some bm) := by
  rcases hav with ⟨rfl, rfl⟩ | ⟨rfl | rfl, ba, hba, rfl, hk⟩
  · obtain ⟨h1, h2, h3⟩ := hf (by decide)
    refine (isInst_const bk bm c0 c1 c3 c4 c5 c6 c7 c8 c9 vals f n hn (dstOf 30) (immOf 30) 0 ha hvs (by decide) w h hm hbk).mono ?_
    rintro e w' ⟨rfl, h4, h5⟩
    exact ⟨ret_bool (by rw [h1, decide_eq_true ⟨h2, h3⟩]; rfl), h4, h5⟩
  · obtain ⟨h1, h2, h3⟩ := hf (by decide)
    refine (isInst_copy ba bk bm c0 c1 c3 c4 c5 c6 c7 c8 c9 vals f n hn (dstOf 31) (immOf 31) 0 ha hvs (by decide) w h hm hbk).mono ?_
    rintro e w' ⟨rfl, h4, h5⟩
    exact ⟨ret_bool (by rw [h1, decide_eq_true ⟨h2, h3⟩]; rfl), h4, h5⟩
  · refine (isInst_print ba _ (immOf 40) 0 ha w).mono ?_
    rintro e w' ⟨rfl, h4⟩
    exact ⟨rfl, (hm.kept h4).mono (Nat.le_succ _), grown_of h4 bm⟩

set_option maxRecDepth 100000 in
set_option maxHeartbeats 2000000 in
theorem hasShapes_one (B bk bm bb bi k cap : Nat) (ks : Nat → Nat) (vals : Int) (c4 c5 c6 c7 c8 c9 : Value) (w : World) (h : Shp B bk bm bb bi k cap ks vals c4 c5 c6 c7 c8 c9 w) (hm : MadeW bm (noteF ks 0) 0 w) :
    Calls Try.prog 37 #[.pointer (some ⟨bk, 0, none⟩)] w fun e w' => e = .returned (.bool true) ∧ MadeW bm (noteF ks k) k w' ∧ w.grownBy w' (some bm) := by
  have H := Lib.hid h
  have HM := Lib.hid hm
  have x3 := h.ck.get 3 (.slice (some ⟨bb, 0, none⟩) 1 1) rfl
  have b0 := h.bl.get 0 (.slice none 0 0) rfl
  have b1 := h.bl.get 1 (.slice (some ⟨bi, 0, none⟩) k cap) rfl
  have b2 := h.bl.get 2 (.int .u8 3) rfl
  have b3 := h.bl.get 3 (I 0) rfl
  have b4 := h.bl.get 4 (I 0) rfl
  have b5 := h.bl.get 5 (I 0) rfl
  obtain ⟨W, hW⟩ : ∃ W, W = w.alloc (.cells #[.slice none 0 0, .slice (some ⟨bi, 0, none⟩) k cap, .int .u8 3, I 0, I 0, I 0] 45) := ⟨_, rfl⟩
  obtain ⟨p4, hp4⟩ : ∃ p, p = w.heap.size := ⟨_, rfl⟩
  have hbel : Below w.heap.size w W := by rw [hW]; exact (Below.refl _ _).alloc (Nat.le_refl _) _
  have k4 : Blk1 p4 bi k cap W := by rw [hW, hp4]; exact Blk.new _ _ _
  have y0 := k4.get 0 (.slice none 0 0) rfl
  have y1 := k4.get 1 (.slice (some ⟨bi, 0, none⟩) k cap) rfl
  have HW := Lib.hid (And.intro hW (And.intro hp4 hbel))
  have hkl : k ≤ 100000 := h.len
  clear h hm hW hp4 hbel k4
  go_enter Try.func37, Try.ntmps37
  go_wp2_with fail
  refine wp_loop_rounds 2 ?_
  rw [rounds_succ]
  go_upto_region 4 with (fail)
  rw [← HW.out.2.1]
  change Code.wp _ _ _ _ (w.alloc (.cells #[.slice none 0 0, .slice (some ⟨bi, 0, none⟩) k cap, .int .u8 3, I 0, I 0, I 0] 45))
  rw [← HW.out.1]
  clear b0 b1 b2 b3 b4 b5 x3
  go_wp2_with fail
  refine wp_loop_rounds 1 ?_
  rw [rounds_succ]
  go_wp2_with fail
  go_loopw [61] (fun i wr => ShapesRel bm k ks W i wr) (fun i _ => k - (intOf i).toNat)
  case atStart => exact ⟨0, Nat.zero_le _, rfl, HM.out.kept HW.out.2.2, ⟨rfl, rfl, rfl, Nat.le_refl _, fun _ _ _ => rfl⟩⟩
  case round =>
    obtain ⟨j, hj, rfl, hmj, hgr⟩ := hrel
    by_cases hlt : j < k
    · have hs : Same B w wr := (same_of_below HW.out.2.2 H.out.hB).trans (same_of_grown hgr (Nat.le_trans H.out.hB HW.out.2.2.size) H.out.hm)
      obtain ⟨_, av, d0, d1, d2, d3, d4, d5, d6⟩ := (H.out.ins j hlt).same hs
      obtain ⟨aa, am, ac, rfl⟩ : ∃ a m c, av = .slice a m c := by
        rcases d6 with ⟨_, rfl⟩ | ⟨_, ba, _, rfl, _⟩
        · exact ⟨_, _, _, rfl⟩
        · exact ⟨_, _, _, rfl⟩
      have hbkl : bk < wr.heap.size := Nat.lt_of_lt_of_le H.out.ck.lt (Nat.le_trans HW.out.2.2.size hgr.size)
      have hck : Ck1 bk bm bb vals c4 c5 c6 c7 c8 c9 wr := (hgr.block bk (Nat.lt_of_lt_of_le H.out.ck.lt HW.out.2.2.size) (by have := H.out.hk; simpa using this)).trans (H.out.ck.below HW.out.2.2 H.out.ck.lt)
      obtain ⟨op, hop⟩ : ∃ op, op = ks j := ⟨_, rfl⟩
      rw [← hop] at d0 d1 d3 d6
      obtain ⟨dst, hdst⟩ : ∃ d, d = dstOf op := ⟨_, rfl⟩
      obtain ⟨imm, himm⟩ : ∃ d, d = immOf op := ⟨_, rfl⟩
      rw [← hdst] at d1
      rw [← himm] at d3
      obtain ⟨W2, hW2⟩ : ∃ W2, W2 = wr.alloc (instC op dst (.slice aa am ac) imm) := ⟨_, rfl⟩
      obtain ⟨p8, hp8⟩ : ∃ p, p = wr.heap.size := ⟨_, rfl⟩
      have hbel : Below wr.heap.size wr W2 := by rw [hW2]; exact (Below.refl _ _).alloc (Nat.le_refl _) _
      have k8 : Blk p8 #[.int .u8 (op : Int), I dst, .slice aa am ac, I imm, I 0, .slice none 0 0] 50 W2 := by rw [hW2, hp8]; exact Blk.new _ _ _
      have z0 := k8.get 0 (.int .u8 (op : Int)) rfl
      have z1 := k8.get 1 (I dst) rfl
      have z2 := k8.get 2 (.slice aa am ac) rfl
      have z3 := k8.get 3 (I imm) rfl
      have z4 := k8.get 4 (I 0) rfl
      have z5 := k8.get 5 (.slice none 0 0) rfl
      have hav : ArgAt B W2 op (.slice aa am ac) := by
        rcases d6 with h | ⟨h, ba, hba, e, hk⟩
        · exact Or.inl h
        · exact Or.inr ⟨h, ba, hba, e, hk.below hbel hk.lt⟩
      have HC := Lib.hid (isInst_all B bk bm (I 0) (I 0) (.slice (some ⟨bb, 0, none⟩) 1 1) c4 c5 c6 c7 c8 c9 vals (noteF ks j) j op (.slice aa am ac) (by have := H.out.len; omega) (j : Int) H.out.val W2 (hck.below hbel hck.lt) (hmj.kept hbel) H.out.hk hav (by rw [hop]; exact H.out.fresh j hlt))
      rw [← hdst, ← himm] at HC
      have hnote : (if op = 40 then noteF ks j else fun u => if u = dst then some (0, (j : Int)) else noteF ks j u) = noteF ks (j + 1) := by
        rw [hdst, hop]
        by_cases h : ks j = 40
        · rw [if_pos h, noteF_print h]
        · rw [if_neg h, noteF_make h]
      rw [hnote] at HC
      have HW2 := Lib.hid (And.intro hW2 (And.intro hp8 (And.intro hgr hbel)))
      have hltI : decide ((j : Int) < (k : Int)) = true := by simp; omega
      clear hs hck hbkl hop hdst himm hW2 hp8 hbel k8 hav hnote d6 hgr hmj
      go_upto_region 13 with (fail)
      rw [← HW2.out.2.1]
      change Code.wp _ _ _ _ (wr.alloc (instC op dst (.slice aa am ac) imm))
      rw [← HW2.out.1]
      clear d0 d1 d2 d3 d4 d5
      go_wp2_with fail
      refine HC.out.mono ?_
      rintro e w3 ⟨rfl, h4, h5⟩
      have H3 := Lib.hid (show ShapesRel bm k ks W (I ((j + 1 : Nat) : Int)) w3 from ⟨j + 1, hlt, rfl, h4, grown_trans HW2.out.2.2.1 (grown_trans (grown_of HW2.out.2.2.2 bm) h5)⟩)
      clear h4 h5 z0 z1 z2 z3 z4 z5
      go_wp2_with fail
      go_roundw
      case rel => exact H3.out
      case measure => simp [intOf]; omega
    · obtain rfl : j = k := by omega
      have hltI : decide ((j : Int) < (j : Int)) = false := by simp
      have FIN := Lib.hid (And.intro hmj (grown_trans (grown_of HW.out.2.2 bm) hgr))
      clear hmj hgr
      go_wp2_with fail
      rw [rounds_succ]
      go_wp2_with fail
      go_ret
      exact ⟨rfl, FIN.out⟩
end Go.Proofs.Ytiimcckajjpbjaa
