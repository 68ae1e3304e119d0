/-
  Joined: CShapes, CUses, CWays.
-/
import Derived.Test.YtjlmkcamefaodaaJ46
import Derived.Deep.LoopGhost
import Derived.Test.YtjlmkcamefaodaaJ23
/-! CShapes: One block's instructions, each a number, a copy or a print: their forms. -/

namespace Go.Proofs.Ytjlmkcamefaodaa
open Go Go.RowKit Go.Maps Cd

namespace Cd
def dstOf (op : Nat) : Int := if op = 30 then 0 else if op = 31 then 1 else -1
def immOf (op : Nat) : Int := if op = 30 then 7 else 0
def argOf (op : Nat) : Int := if op = 31 then 1 else 0
/-- What is noted of the first instructions. -/
def noteF (ks : Nat → Nat) : Nat → Int → Option (Int × Int)
  | 0 => fun _ => none
  | j + 1 => if ks j = 40 then noteF ks j else fun u => if u = dstOf (ks j) then some (0, (j : Int)) else noteF ks j u
end Cd

def ArgAt (B : Nat) (w : World) (op : Nat) (av : Value) : Prop := (op = 30 ∧ av = .slice none 0 0) ∨ (OneUse op ∧ ∃ ba, ba < B ∧ av = .slice (some ⟨ba, 0, none⟩) 1 1 ∧ Blk ba #[I (argOf op)] 3 w)
/-- An instruction in memory, all of it below B. -/
def InsAt (B : Nat) (w : World) (bi j op : Nat) : Prop := bi < B ∧ ∃ av, w.cell? ⟨bi, j * 6, none⟩ = some (.int .u8 (op : Int)) ∧ w.cell? ⟨bi, j * 6 + 1, none⟩ = some (I (dstOf op)) ∧ w.cell? ⟨bi, j * 6 + 2, none⟩ = some av ∧ w.cell? ⟨bi, j * 6 + 3, none⟩ = some (I (immOf op)) ∧
  w.cell? ⟨bi, j * 6 + 4, none⟩ = some (I 0) ∧ w.cell? ⟨bi, j * 6 + 5, none⟩ = some (.slice none 0 0) ∧ ArgAt B w op av
/-- Below B nothing has turned. -/
def Same (B : Nat) (w w' : World) : Prop := ∀ i, i < B → w'.heap[i]? = w.heap[i]?
theorem Same.cell {B : Nat} {w w' : World} (h : Same B w w') {b i : Nat} (hb : b < B) : w'.cell? ⟨b, i, none⟩ = w.cell? ⟨b, i, none⟩ := World.cell?_of_block (w := w) (a := ⟨b, i, none⟩) (h b hb)
theorem Same.blk {B : Nat} {w w' : World} (h : Same B w w') {b : Nat} {cs : Array Value} {T : TypeId} (hb : b < B) (k : Blk b cs T w) : Blk b cs T w' := (h b hb).trans k
theorem Same.trans {B : Nat} {w w' w'' : World} (h : Same B w w') (h' : Same B w' w'') : Same B w w'' := fun i hi => (h' i hi).trans (h i hi)
theorem same_of_below {B : Nat} {w w' : World} (h : Below w.heap.size w w') (hB : B ≤ w.heap.size) : Same B w w' := fun i hi => h.block i (by omega)
theorem same_of_grown {B b : Nat} {w w' : World} (h : w.grownBy w' (some b)) (hB : B ≤ w.heap.size) (hb : B ≤ b) : Same B w w' := fun i hi => h.block i (by omega) (by simp; omega)
theorem InsAt.same {B : Nat} {w w' : World} {bi j op : Nat} (h : InsAt B w bi j op) (hs : Same B w w') : InsAt B w' bi j op := by
  obtain ⟨hb, av, h0, h1, h2, h3, h4, h5, h6⟩ := h
  refine ⟨hb, av, (hs.cell hb).trans h0, (hs.cell hb).trans h1, (hs.cell hb).trans h2, (hs.cell hb).trans h3, (hs.cell hb).trans h4, (hs.cell hb).trans h5, ?_⟩
  rcases h6 with h | ⟨h, ba, hba, e, hk⟩
  · exact Or.inl h
  · exact Or.inr ⟨h, ba, hba, e, hs.blk hba hk⟩

theorem grown_trans {w w1 w2 : World} {b : Nat} (h : w.grownBy w1 (some b)) (h' : w1.grownBy w2 (some b)) : w.grownBy w2 (some b) :=
  ⟨h'.os.trans h.os, h'.tape.trans h.tape, h'.output.trans h.output, Nat.le_trans h.size h'.size, fun i hi hne => (h'.block i (Nat.lt_of_lt_of_le hi h.size) hne).trans (h.block i hi hne)⟩
theorem grown_of {w w1 : World} (h : Below w.heap.size w w1) (b : Nat) : w.grownBy w1 (some b) := ⟨h.os, h.tape, h.output, h.size, fun i hi _ => h.block i hi⟩

/-- A checker of a function of one block. -/
abbrev Ck1 (bk bm bb : Nat) (vals : Int) (c4 c5 c6 c7 c8 c9 : Value) (w : World) : Prop := CkB bk bm (I 0) (I 0) (I vals) (.slice (some ⟨bb, 0, none⟩) 1 1) c4 c5 c6 c7 c8 c9 w
/-- Its block. -/
abbrev Blk1 (bb bi k cap : Nat) (w : World) : Prop := Blk bb #[.slice none 0 0, .slice (some ⟨bi, 0, none⟩) k cap, .int .u8 3, I 0, I 0, I 0] 40 w

def ShapesRel (bm k : Nat) (ks : Nat → Nat) (w0 : World) (i : Value) (wr : World) : Prop := ∃ j, j ≤ k ∧ i = I (j : Int) ∧ MadeW bm (noteF ks j) j wr ∧ w0.grownBy wr (some bm)

/-- All that the forms of one block's instructions lean on. -/
structure Shp (B bk bm bb bi k cap : Nat) (ks : Nat → Nat) (vals : Int) (c4 c5 c6 c7 c8 c9 : Value) (w : World) : Prop where
  ck : Ck1 bk bm bb vals c4 c5 c6 c7 c8 c9 w
  bl : Blk1 bb bi k cap w
  hb : bb < B
  hB : B ≤ w.heap.size
  hm : B ≤ bm
  hk : bk ≠ bm
  ins : ∀ j, j < k → InsAt B w bi j (ks j)
  len : k ≤ 100000
  val : 0 ≤ vals ∧ vals ≤ 60000
  fresh : ∀ j, j < k → ks j ≠ 40 → noteF ks j (dstOf (ks j)) = none ∧ 0 ≤ dstOf (ks j) ∧ dstOf (ks j) ≤ vals - 1

theorem noteF_print {ks : Nat → Nat} {j : Nat} (h : ks j = 40) : noteF ks (j + 1) = noteF ks j := by show (if _ then _ else _) = _; rw [if_pos h]
theorem noteF_make {ks : Nat → Nat} {j : Nat} (h : ks j ≠ 40) : noteF ks (j + 1) = fun u => if u = dstOf (ks j) then some (0, (j : Int)) else noteF ks j u := by show (if _ then _ else _) = _; rw [if_neg h]
theorem MadeW.mono {bm : Nat} {f : Int → Option (Int × Int)} {n n' : Nat} {w : World} (h : MadeW bm f n w) (hn : n ≤ n') : MadeW bm f n' w := by
  obtain ⟨D, h1, h2⟩ := h
  exact ⟨D, h1.mono hn, h2⟩
theorem MadeW.kept {bm : Nat} {f : Int → Option (Int × Int)} {n : Nat} {w w' : World} (h : MadeW bm f n w) (hb : Below w.heap.size w w') : MadeW bm f n w' := by
  obtain ⟨D, h1, h2⟩ := h
  exact ⟨D, h1.kept (grown_of_below hb) (by simp), h2⟩
theorem MadeW.lt {bm : Nat} {f : Int → Option (Int × Int)} {n : Nat} {w : World} (h : MadeW bm f n w) : bm < w.heap.size := by
  obtain ⟨D, h1, h2⟩ := h
  exact h1.lt

/-- An instruction's form, whichever of the three it is. -/
theorem isInst_all (B bk bm : Nat) (c0 c1 c3 c4 c5 c6 c7 c8 c9 : Value) (vals : Int) (f : Int → Option (Int × Int)) (n op : Nat) (av : Value) (hn : n < 1000000) (ha : Int) (hvs : 0 ≤ vals ∧ vals ≤ 60000) (w : World) (h : CkB bk bm c0 c1 (I vals) c3 c4 c5 c6 c7 c8 c9 w) (hm : MadeW bm f n w) (hbk : bk ≠ bm)
    (hav : ArgAt B w op av) (hf : op ≠ 40 → f (dstOf op) = none ∧ 0 ≤ dstOf op ∧ dstOf op ≤ vals - 1) :
    Calls Try.prog 48 #[.pointer (some ⟨bk, 0, none⟩), instV op (dstOf op) av (immOf op), placeV 0 ha] w fun e w' => e = .returned (.bool true) ∧ MadeW bm (if op = 40 then f else fun u => if u = dstOf op then some (0, ha) else f u) (n + 1) w' ∧ w.grownBy w' (some bm) := by
  rcases hav with ⟨rfl, rfl⟩ | ⟨rfl | rfl, ba, hba, rfl, hk⟩
  · obtain ⟨h1, h2, h3⟩ := hf (by decide)
    refine (isInst_const bk bm c0 c1 c3 c4 c5 c6 c7 c8 c9 vals f n hn (dstOf 30) (immOf 30) 0 ha hvs (by decide) w h hm hbk).mono ?_
    rintro e w' ⟨rfl, h4, h5⟩
    exact ⟨ret_bool (by rw [h1, decide_eq_true ⟨h2, h3⟩]; rfl), h4, h5⟩
  · obtain ⟨h1, h2, h3⟩ := hf (by decide)
    refine (isInst_copy ba bk bm c0 c1 c3 c4 c5 c6 c7 c8 c9 vals f n hn (dstOf 31) (immOf 31) 0 ha hvs (by decide) w h hm hbk).mono ?_
    rintro e w' ⟨rfl, h4, h5⟩
    exact ⟨ret_bool (by rw [h1, decide_eq_true ⟨h2, h3⟩]; rfl), h4, h5⟩
  · refine (isInst_print ba _ (immOf 40) 0 ha w).mono ?_
    rintro e w' ⟨rfl, h4⟩
    exact ⟨rfl, (hm.kept h4).mono (Nat.le_succ _), grown_of h4 bm⟩

set_option maxRecDepth 100000 in
set_option maxHeartbeats 2000000 in
theorem hasShapes_one (B bk bm bb bi k cap : Nat) (ks : Nat → Nat) (vals : Int) (c4 c5 c6 c7 c8 c9 : Value) (w : World) (h : Shp B bk bm bb bi k cap ks vals c4 c5 c6 c7 c8 c9 w) (hm : MadeW bm (noteF ks 0) 0 w) :
    Calls Try.prog 27 #[.pointer (some ⟨bk, 0, none⟩)] w fun e w' => e = .returned (.bool true) ∧ MadeW bm (noteF ks k) k w' ∧ w.grownBy w' (some bm) := by
  have H := Lib.hid h
  have HM := Lib.hid hm
  have x3 := h.ck.get 3 (.slice (some ⟨bb, 0, none⟩) 1 1) rfl
  have b0 := h.bl.get 0 (.slice none 0 0) rfl
  have b1 := h.bl.get 1 (.slice (some ⟨bi, 0, none⟩) k cap) rfl
  have b2 := h.bl.get 2 (.int .u8 3) rfl
  have b3 := h.bl.get 3 (I 0) rfl
  have b4 := h.bl.get 4 (I 0) rfl
  have b5 := h.bl.get 5 (I 0) rfl
  obtain ⟨W, hW⟩ : ∃ W, W = w.alloc (.cells #[.slice none 0 0, .slice (some ⟨bi, 0, none⟩) k cap, .int .u8 3, I 0, I 0, I 0] 40) := ⟨_, rfl⟩
  obtain ⟨p4, hp4⟩ : ∃ p, p = w.heap.size := ⟨_, rfl⟩
  have hbel : Below w.heap.size w W := by rw [hW]; exact (Below.refl _ _).alloc (Nat.le_refl _) _
  have k4 : Blk1 p4 bi k cap W := by rw [hW, hp4]; exact Blk.new _ _ _
  have y0 := k4.get 0 (.slice none 0 0) rfl
  have y1 := k4.get 1 (.slice (some ⟨bi, 0, none⟩) k cap) rfl
  have HW := Lib.hid (And.intro hW (And.intro hp4 hbel))
  have hkl : k ≤ 100000 := h.len
  clear h hm hW hp4 hbel k4
  go_enter Try.func27, Try.ntmps27
  go_wp2_with fail
  refine wp_loop_rounds 2 ?_
  rw [rounds_succ]
  go_upto_region 4 with (fail)
  rw [← HW.out.2.1]
  change Code.wp _ _ _ _ (w.alloc (.cells #[.slice none 0 0, .slice (some ⟨bi, 0, none⟩) k cap, .int .u8 3, I 0, I 0, I 0] 40))
  rw [← HW.out.1]
  clear b0 b1 b2 b3 b4 b5 x3
  go_wp2_with fail
  refine wp_loop_rounds 1 ?_
  rw [rounds_succ]
  go_wp2_with fail
  go_loopw [61] (fun i wr => ShapesRel bm k ks W i wr) (fun i _ => k - (intOf i).toNat)
  case atStart => exact ⟨0, Nat.zero_le _, rfl, HM.out.kept HW.out.2.2, ⟨rfl, rfl, rfl, Nat.le_refl _, fun _ _ _ => rfl⟩⟩
  case round =>
    obtain ⟨j, hj, rfl, hmj, hgr⟩ := hrel
    by_cases hlt : j < k
    · have hs : Same B w wr := (same_of_below HW.out.2.2 H.out.hB).trans (same_of_grown hgr (Nat.le_trans H.out.hB HW.out.2.2.size) H.out.hm)
      obtain ⟨_, av, d0, d1, d2, d3, d4, d5, d6⟩ := (H.out.ins j hlt).same hs
      obtain ⟨aa, am, ac, rfl⟩ : ∃ a m c, av = .slice a m c := by
        rcases d6 with ⟨_, rfl⟩ | ⟨_, ba, _, rfl, _⟩
        · exact ⟨_, _, _, rfl⟩
        · exact ⟨_, _, _, rfl⟩
      have hbkl : bk < wr.heap.size := Nat.lt_of_lt_of_le H.out.ck.lt (Nat.le_trans HW.out.2.2.size hgr.size)
      have hck : Ck1 bk bm bb vals c4 c5 c6 c7 c8 c9 wr := (hgr.block bk (Nat.lt_of_lt_of_le H.out.ck.lt HW.out.2.2.size) (by have := H.out.hk; simpa using this)).trans (H.out.ck.below HW.out.2.2 H.out.ck.lt)
      obtain ⟨op, hop⟩ : ∃ op, op = ks j := ⟨_, rfl⟩
      rw [← hop] at d0 d1 d3 d6
      obtain ⟨dst, hdst⟩ : ∃ d, d = dstOf op := ⟨_, rfl⟩
      obtain ⟨imm, himm⟩ : ∃ d, d = immOf op := ⟨_, rfl⟩
      rw [← hdst] at d1
      rw [← himm] at d3
      obtain ⟨W2, hW2⟩ : ∃ W2, W2 = wr.alloc (instC op dst (.slice aa am ac) imm) := ⟨_, rfl⟩
      obtain ⟨p8, hp8⟩ : ∃ p, p = wr.heap.size := ⟨_, rfl⟩
      have hbel : Below wr.heap.size wr W2 := by rw [hW2]; exact (Below.refl _ _).alloc (Nat.le_refl _) _
      have k8 : Blk p8 #[.int .u8 (op : Int), I dst, .slice aa am ac, I imm, I 0, .slice none 0 0] 44 W2 := by rw [hW2, hp8]; exact Blk.new _ _ _
      have z0 := k8.get 0 (.int .u8 (op : Int)) rfl
      have z1 := k8.get 1 (I dst) rfl
      have z2 := k8.get 2 (.slice aa am ac) rfl
      have z3 := k8.get 3 (I imm) rfl
      have z4 := k8.get 4 (I 0) rfl
      have z5 := k8.get 5 (.slice none 0 0) rfl
      have hav : ArgAt B W2 op (.slice aa am ac) := by
        rcases d6 with h | ⟨h, ba, hba, e, hk⟩
        · exact Or.inl h
        · exact Or.inr ⟨h, ba, hba, e, hk.below hbel hk.lt⟩
      have HC := Lib.hid (isInst_all B bk bm (I 0) (I 0) (.slice (some ⟨bb, 0, none⟩) 1 1) c4 c5 c6 c7 c8 c9 vals (noteF ks j) j op (.slice aa am ac) (by have := H.out.len; omega) (j : Int) H.out.val W2 (hck.below hbel hck.lt) (hmj.kept hbel) H.out.hk hav (by rw [hop]; exact H.out.fresh j hlt))
      rw [← hdst, ← himm] at HC
      have hnote : (if op = 40 then noteF ks j else fun u => if u = dst then some (0, (j : Int)) else noteF ks j u) = noteF ks (j + 1) := by
        rw [hdst, hop]
        by_cases h : ks j = 40
        · rw [if_pos h, noteF_print h]
        · rw [if_neg h, noteF_make h]
      rw [hnote] at HC
      have HW2 := Lib.hid (And.intro hW2 (And.intro hp8 (And.intro hgr hbel)))
      have hltI : decide ((j : Int) < (k : Int)) = true := by simp; omega
      clear hs hck hbkl hop hdst himm hW2 hp8 hbel k8 hav hnote d6 hgr hmj
      go_upto_region 13 with (fail)
      rw [← HW2.out.2.1]
      change Code.wp _ _ _ _ (wr.alloc (instC op dst (.slice aa am ac) imm))
      rw [← HW2.out.1]
      clear d0 d1 d2 d3 d4 d5
      go_wp2_with fail
      refine HC.out.mono ?_
      rintro e w3 ⟨rfl, h4, h5⟩
      have H3 := Lib.hid (show ShapesRel bm k ks W (I ((j + 1 : Nat) : Int)) w3 from ⟨j + 1, hlt, rfl, h4, grown_trans HW2.out.2.2.1 (grown_trans (grown_of HW2.out.2.2.2 bm) h5)⟩)
      clear h4 h5 z0 z1 z2 z3 z4 z5
      go_wp2_with fail
      go_roundw
      case rel => exact H3.out
      case measure => simp [intOf]; omega
    · obtain rfl : j = k := by omega
      have hltI : decide ((j : Int) < (j : Int)) = false := by simp
      have FIN := Lib.hid (And.intro hmj (grown_trans (grown_of HW.out.2.2 bm) hgr))
      clear hmj hgr
      go_wp2_with fail
      rw [rounds_succ]
      go_wp2_with fail
      go_ret
      exact ⟨rfl, FIN.out⟩
end Go.Proofs.Ytjlmkcamefaodaa

/-! CUses: One block's instructions, each a number, a copy or a print: is what they use made ahead? -/

namespace Go.Proofs.Ytjlmkcamefaodaa
open Go Go.RowKit Go.Maps Cd

namespace Cd
def madeB (f : Int → Option (Int × Int)) (x : Int) (j : Nat) : Bool := (f x).isSome && decide (((f x).getD (0, 0)).2 < (j : Int))
def useB (f : Int → Option (Int × Int)) (j op : Nat) : Bool := op == 30 || madeB f (argOf op) j
def usesB (f : Int → Option (Int × Int)) (ks : Nat → Nat) (k : Nat) : Bool := (List.range k).all (fun j => useB f j (ks j)) && madeB f 0 k
end Cd

theorem mayUse_all (B bk bm : Nat) (c0 c1 c2 c3 c4 c5 c6 c7 c8 c9 : Value) (f : Int → Option (Int × Int)) (n op j : Nat) (av : Value) (w : World) (h : CkB bk bm c0 c1 c2 c3 c4 c5 c6 c7 c8 c9 w) (hm : MadeW bm f n w) (hz : ∀ x, ((f x).getD (0, 0)).1 = 0) (hav : ArgAt B w op av) :
    Calls Try.prog 50 #[.pointer (some ⟨bk, 0, none⟩), instV op (dstOf op) av (immOf op), placeV 0 (j : Int)] w fun e w' => e = .returned (.bool (useB f j op)) ∧ Below w.heap.size w w' := by
  rcases hav with ⟨rfl, rfl⟩ | ⟨hop, ba, hba, rfl, hk⟩
  · exact mayUse_none _ _ _ _ _ w
  · refine (mayUse_one op hop ba (argOf op) bk bm c0 c1 c2 c3 c4 c5 c6 c7 c8 c9 f n (dstOf op) (immOf op) 0 (j : Int) (by rcases hop with rfl | rfl <;> decide) w h hm hk ((f (argOf op)).getD (0, 0)).1 ((f (argOf op)).getD (0, 0)).2 rfl (hz _)).mono ?_
    rintro e w' ⟨rfl, hb⟩
    refine ⟨ret_bool ?_, hb⟩
    unfold useB madeB
    rcases hop with rfl | rfl <;> rfl

theorem useB_fail {f : Int → Option (Int × Int)} {ks : Nat → Nat} {k j : Nat} (hj : j < k) (h : useB f j (ks j) = false) : usesB f ks k = false := by
  unfold usesB
  rw [Bool.and_eq_false_iff]
  left
  rw [List.all_eq_false]
  exact ⟨j, List.mem_range.2 hj, by rw [h]; decide⟩
theorem useB_end {f : Int → Option (Int × Int)} {ks : Nat → Nat} {k : Nat} (h : ∀ j, j < k → useB f j (ks j) = true) : usesB f ks k = madeB f 0 k := by
  unfold usesB
  rw [List.all_eq_true.2 (fun j hj => h j (List.mem_range.1 hj)), Bool.true_and]

def UsesRel (f : Int → Option (Int × Int)) (ks : Nat → Nat) (k : Nat) (w0 : World) (i : Value) (wr : World) : Prop := ∃ j, j ≤ k ∧ i = I (j : Int) ∧ (∀ i, i < j → useB f i (ks i) = true) ∧ Below w0.heap.size w0 wr

set_option maxRecDepth 100000 in
set_option maxHeartbeats 2000000 in
theorem hasUses_one (B bk bm bb bi k cap : Nat) (ks : Nat → Nat) (vals : Int) (c4 c5 c6 c7 c8 c9 : Value) (f : Int → Option (Int × Int)) (n : Nat) (w : World) (hck : Ck1 bk bm bb vals c4 c5 c6 c7 c8 c9 w) (hbl : Blk1 bb bi k cap w) (hB : B ≤ w.heap.size) (hins : ∀ j, j < k → InsAt B w bi j (ks j)) (hlen : k ≤ 100000)
    (hm : MadeW bm f n w) (hz : ∀ x, ((f x).getD (0, 0)).1 = 0) :
    Calls Try.prog 28 #[.pointer (some ⟨bk, 0, none⟩)] w fun e w' => e = .returned (.bool (usesB f ks k)) ∧ Below w.heap.size w w' := by
  have H := Lib.hid (And.intro hck (And.intro hB (And.intro hins (And.intro hm hz))))
  have x3 := hck.get 3 (.slice (some ⟨bb, 0, none⟩) 1 1) rfl
  have b0 := hbl.get 0 (.slice none 0 0) rfl
  have b1 := hbl.get 1 (.slice (some ⟨bi, 0, none⟩) k cap) rfl
  have b2 := hbl.get 2 (.int .u8 3) rfl
  have b3 := hbl.get 3 (I 0) rfl
  have b4 := hbl.get 4 (I 0) rfl
  have b5 := hbl.get 5 (I 0) rfl
  obtain ⟨W, hW⟩ : ∃ W, W = w.alloc (.cells #[.slice none 0 0, .slice (some ⟨bi, 0, none⟩) k cap, .int .u8 3, I 0, I 0, I 0] 40) := ⟨_, rfl⟩
  obtain ⟨p4, hp4⟩ : ∃ p, p = w.heap.size := ⟨_, rfl⟩
  have hbel : Below w.heap.size w W := by rw [hW]; exact (Below.refl _ _).alloc (Nat.le_refl _) _
  have k4 : Blk1 p4 bi k cap W := by rw [hW, hp4]; exact Blk.new _ _ _
  have y0 := k4.get 0 (.slice none 0 0) rfl
  have y1 := k4.get 1 (.slice (some ⟨bi, 0, none⟩) k cap) rfl
  have HW := Lib.hid (And.intro hW (And.intro hp4 (And.intro hbel k4)))
  clear hck hbl hB hins hm hz hW hp4 hbel k4
  go_enter Try.func28, Try.ntmps28
  go_wp2_with fail
  refine wp_loop_rounds 2 ?_
  rw [rounds_succ]
  go_upto_region 4 with (fail)
  rw [← HW.out.2.1]
  change Code.wp _ _ _ _ (w.alloc (.cells #[.slice none 0 0, .slice (some ⟨bi, 0, none⟩) k cap, .int .u8 3, I 0, I 0, I 0] 40))
  rw [← HW.out.1]
  clear b0 b1 b2 b3 b4 b5 x3
  go_wp2_with fail
  refine wp_loop_rounds 1 ?_
  rw [rounds_succ]
  go_wp2_with fail
  go_loopw [43] (fun i wr => UsesRel f ks k W i wr) (fun i _ => k - (intOf i).toNat)
  case atStart => exact ⟨0, Nat.zero_le _, rfl, fun _ h => absurd h (by omega), Below.refl _ _⟩
  case round =>
    obtain ⟨j, hj, rfl, hu, hb⟩ := hrel
    have HU := Lib.hid (And.intro hu hb)
    have hbw : Below w.heap.size w wr := HW.out.2.2.1.trans (hb.mono HW.out.2.2.1.size)
    have hck := H.out.1.below hbw H.out.1.lt
    have hmd := H.out.2.2.2.1.kept hbw
    clear hu
    by_cases hlt : j < k
    · obtain ⟨_, av, d0, d1, d2, d3, d4, d5, d6⟩ := (H.out.2.2.1 j hlt).same (same_of_below hbw H.out.2.1)
      obtain ⟨aa, am, ac, rfl⟩ : ∃ a m c, av = .slice a m c := by
        rcases d6 with ⟨_, rfl⟩ | ⟨_, ba, _, rfl, _⟩
        · exact ⟨_, _, _, rfl⟩
        · exact ⟨_, _, _, rfl⟩
      obtain ⟨op, hop⟩ : ∃ op, op = ks j := ⟨_, rfl⟩
      rw [← hop] at d0 d1 d3 d6
      obtain ⟨dst, hdst⟩ : ∃ d, d = dstOf op := ⟨_, rfl⟩
      obtain ⟨imm, himm⟩ : ∃ d, d = immOf op := ⟨_, rfl⟩
      rw [← hdst] at d1
      rw [← himm] at d3
      obtain ⟨W2, hW2⟩ : ∃ W2, W2 = wr.alloc (instC op dst (.slice aa am ac) imm) := ⟨_, rfl⟩
      obtain ⟨p8, hp8⟩ : ∃ p, p = wr.heap.size := ⟨_, rfl⟩
      have hbel : Below wr.heap.size wr W2 := by rw [hW2]; exact (Below.refl _ _).alloc (Nat.le_refl _) _
      have k8 : Blk p8 #[.int .u8 (op : Int), I dst, .slice aa am ac, I imm, I 0, .slice none 0 0] 44 W2 := by rw [hW2, hp8]; exact Blk.new _ _ _
      have z0 := k8.get 0 (.int .u8 (op : Int)) rfl
      have z1 := k8.get 1 (I dst) rfl
      have z2 := k8.get 2 (.slice aa am ac) rfl
      have z3 := k8.get 3 (I imm) rfl
      have z4 := k8.get 4 (I 0) rfl
      have z5 := k8.get 5 (.slice none 0 0) rfl
      have hav : ArgAt B W2 op (.slice aa am ac) := by
        rcases d6 with h | ⟨h, ba, hba, e, hk⟩
        · exact Or.inl h
        · exact Or.inr ⟨h, ba, hba, e, hk.below hbel hk.lt⟩
      have HC := Lib.hid (mayUse_all B bk bm (I 0) (I 0) (I vals) (.slice (some ⟨bb, 0, none⟩) 1 1) c4 c5 c6 c7 c8 c9 f n op j (.slice aa am ac) W2 (hck.below hbel hck.lt) (hmd.kept hbel) H.out.2.2.2.2 hav)
      rw [← hdst, ← himm] at HC
      obtain ⟨r, hr⟩ : ∃ r, r = useB f j op := ⟨_, rfl⟩
      rw [← hr] at HC
      rw [hop] at hr
      have HW2 := Lib.hid (And.intro hW2 (And.intro hp8 (And.intro hbel hr)))
      have hltI : decide ((j : Int) < (k : Int)) = true := by simp; omega
      clear hbw hb hck hmd hop hdst himm hW2 hp8 hbel k8 hav hr d6
      go_upto_region 13 with (fail)
      rw [← HW2.out.2.1]
      change Code.wp _ _ _ _ (wr.alloc (instC op dst (.slice aa am ac) imm))
      rw [← HW2.out.1]
      clear d0 d1 d2 d3 d4 d5
      go_wp2_with fail
      refine HC.out.mono ?_
      rintro e w3 ⟨rfl, h4⟩
      have HB3 := Lib.hid (HU.out.2.trans (Below.trans (HW2.out.2.2.1.mono HU.out.2.size) (h4.mono (Nat.le_trans HU.out.2.size HW2.out.2.2.1.size))))
      clear h4 z0 z1 z2 z3 z4 z5
      cases r
      · have FIN := Lib.hid (And.intro (useB_fail hlt HW2.out.2.2.2.symm) (HW.out.2.2.1.trans (HB3.out.mono HW.out.2.2.1.size)))
        go_wp2_with fail
        go_ret
        exact ⟨ret_bool FIN.out.1.symm, FIN.out.2⟩
      · have H3 := Lib.hid (show UsesRel f ks k W (I ((j + 1 : Nat) : Int)) w3 from ⟨j + 1, hlt, rfl, fun i hi => by
          rcases Nat.lt_or_ge i j with h | h
          · exact HU.out.1 i h
          · obtain rfl : i = j := by omega
            exact HW2.out.2.2.2.symm, HB3.out⟩)
        go_wp2_with fail
        go_roundw
        case rel => exact H3.out
        case measure => simp [intOf]; omega
    · obtain rfl : j = k := by omega
      have hltI : decide ((j : Int) < (j : Int)) = false := by simp
      have k4 := H.out.1
      have hp4 := HW.out.2.2.2.below hb HW.out.2.2.2.lt
      have y1 := hp4.get 1 (.slice (some ⟨bi, 0, none⟩) j cap) rfl
      have y2 := hp4.get 2 (.int .u8 3) rfl
      have y3 := hp4.get 3 (I 0) rfl
      have HC := Lib.hid (isMade_near bk bm (I 0) (I 0) (I vals) (.slice (some ⟨bb, 0, none⟩) 1 1) c4 c5 c6 c7 c8 c9 f n 0 0 (j : Int) (by decide) wr hck hmd ((f 0).getD (0, 0)).1 ((f 0).getD (0, 0)).2 rfl (H.out.2.2.2.2 0))
      obtain ⟨r, hr⟩ : ∃ r, r = usesB f ks j := ⟨_, rfl⟩
      have hr2 : ((f 0).isSome && decide (((f 0).getD (0, 0)).2 < (j : Int))) = r := by rw [hr, useB_end HU.out.1]; rfl
      rw [hr2] at HC
      have HBW := Lib.hid (And.intro hbw hr)
      clear hr hr2 hp4 hck hmd hb hbw k4
      go_wp2_with fail
      refine HC.out.mono ?_
      rintro e w3 ⟨rfl, h4⟩
      have FIN := Lib.hid (HBW.out.1.trans (h4.mono HBW.out.1.size))
      clear h4
      cases r
      · go_wp2_with fail
        go_ret
        exact ⟨ret_bool HBW.out.2, FIN.out⟩
      · go_wp2_with fail
        rw [rounds_succ]
        go_wp2_with fail
        go_ret
        exact ⟨ret_bool HBW.out.2, FIN.out⟩
end Go.Proofs.Ytjlmkcamefaodaa

/-! CWays: A checker of a function of one block that answers a value: its sizes, its ways. -/

namespace Go.Proofs.Ytjlmkcamefaodaa
open Go Go.RowKit Go.Maps Cd

set_option maxRecDepth 100000 in
set_option maxHeartbeats 800000 in
theorem hasSizes_one (bk bm bb : Nat) (vals : Int) (c4 c5 c6 c7 c8 c9 : Value) (w : World) (h : Ck1 bk bm bb vals c4 c5 c6 c7 c8 c9 w) :
    Calls Try.prog 25 #[.pointer (some ⟨bk, 0, none⟩)] w fun e w' => e = .returned (.bool (decide (0 ≤ vals ∧ vals ≤ 60000))) ∧ w = w' := by
  have x0 := h.get 0 (I 0) rfl
  have x1 := h.get 1 (I 0) rfl
  have x2 := h.get 2 (I vals) rfl
  have x3 := h.get 3 (.slice (some ⟨bb, 0, none⟩) 1 1) rfl
  clear h
  go_enter Try.func25, Try.ntmps25
  go_wp2_with (go_at_call 40; refine (within_any _ _ _ _).mono ?_; rintro e w' ⟨rfl, rfl⟩)
  all_goals go_ret
  all_goals refine ⟨ret_bool ?_, rfl⟩
  all_goals first | (simp_all; done) | (simp_all; omega)

abbrev blkV (bi k cap : Nat) : Value := .agg #[.slice none 0 0, .slice (some ⟨bi, 0, none⟩) k cap, .int .u8 3, I 0, I 0, I 0]
abbrev blkC (bi k cap : Nat) : Obj := .cells #[.slice none 0 0, .slice (some ⟨bi, 0, none⟩) k cap, .int .u8 3, I 0, I 0, I 0] 40

set_option maxRecDepth 100000 in
set_option maxHeartbeats 800000 in
theorem isEnd_one (bk bm bb bi k cap : Nat) (vals : Int) (c4 c5 c6 c7 c8 c9 : Value) (w : World) (h : Ck1 bk bm bb vals c4 c5 c6 c7 c8 c9 w) :
    Calls Try.prog 41 #[.pointer (some ⟨bk, 0, none⟩), blkV bi k cap] w fun e w' => e = .returned (.bool true) ∧ Below w.heap.size w w' := by
  have x3 := h.get 3 (.slice (some ⟨bb, 0, none⟩) 1 1) rfl
  have hlt := h.lt
  have hne : ¬ bk = w.heap.size := by omega
  have HB := Lib.hid ((Below.refl w.heap.size w).alloc (Nat.le_refl _) (blkC bi k cap))
  clear h
  go_enter Try.func41, Try.ntmps41
  go_wp2_with fail
  go_ret
  exact ⟨rfl, HB.out⟩

abbrev funV (bb : Nat) (vals : Int) : Value := .agg #[I 0, I 0, I vals, .slice (some ⟨bb, 0, none⟩) 1 1]
abbrev funC (bb : Nat) (vals : Int) : Obj := .cells #[I 0, I 0, I vals, .slice (some ⟨bb, 0, none⟩) 1 1] 36

set_option maxRecDepth 100000 in
set_option maxHeartbeats 800000 in
theorem graph_one (bb bi k cap : Nat) (vals : Int) (w : World) (h : Blk1 bb bi k cap w) :
    Calls Try.prog 42 #[funV bb vals] w fun e w' => ToldOne w w' e := by
  have hmk := fun w => mkS1 w
  obtain ⟨W, hW⟩ : ∃ W, W = (w.alloc (funC bb vals)).alloc (.cells #[.slice none 0 0] 41) := ⟨_, rfl⟩
  obtain ⟨W2, hW2⟩ : ∃ W2, W2 = W.alloc (blkC bi k cap) := ⟨_, rfl⟩
  obtain ⟨p1, hp1⟩ : ∃ p, p = w.heap.size := ⟨_, rfl⟩
  obtain ⟨p3, hp3⟩ : ∃ p, p = w.heap.size + 1 := ⟨_, rfl⟩
  have hbel : Below w.heap.size w W := by rw [hW]; exact ((Below.refl _ _).alloc (Nat.le_refl _) _).alloc (by simp) _
  have k1 : Blk p1 #[I 0, I 0, I vals, .slice (some ⟨bb, 0, none⟩) 1 1] 36 W := by rw [hW, hp1]; exact (Blk.new w _ _).alloc _
  have k3 : One p3 W := by rw [hW, hp3]; exact Blk.new' _ _ _ (by simp)
  have hb := h.below hbel h.lt
  have x3 := k1.get 3 (.slice (some ⟨bb, 0, none⟩) 1 1) rfl
  have b0 := hb.get 0 (.slice none 0 0) rfl
  have b1 := hb.get 1 (.slice (some ⟨bi, 0, none⟩) k cap) rfl
  have b2 := hb.get 2 (.int .u8 3) rfl
  have b3 := hb.get 3 (I 0) rfl
  have b4 := hb.get 4 (I 0) rfl
  have b5 := hb.get 5 (I 0) rfl
  have hb2 : Below W.heap.size W W2 := by rw [hW2]; exact (Below.refl _ _).alloc (Nat.le_refl _) _
  have HW := Lib.hid (And.intro hW (And.intro hp1 hp3))
  have FIN := Lib.hid (show ToldOne w W2 (.returned (oneV p3)) from ⟨p3, rfl, k3.below hb2 k3.lt, hbel.trans (hb2.mono hbel.size)⟩)
  have HW2 := Lib.hid hW2
  clear h hW hW2 hp1 hp3 hbel k1 k3 hb hb2
  go_enter Try.func42, Try.ntmps42
  go_upto_region 2 with (fail)
  rw [← HW.out.2.2, ← HW.out.2.1]
  change Code.wp _ _ _ _ ((w.alloc (funC bb vals)).alloc (.cells #[.slice none 0 0] 41))
  rw [← HW.out.1]
  go_wp2_with fail
  refine wp_loop_rounds 2 ?_
  rw [rounds_succ]
  go_upto_region 5 with (fail)
  change Code.wp _ _ _ _ (W.alloc (blkC bi k cap))
  go_wp2_with fail
  rw [rounds_succ]
  go_wp2_with fail
  go_ret
  rw [HW2.out] at FIN
  exact FIN.out

/-- What the ways leave in the checker. -/
def Wayed (bk bm bb : Nat) (vals : Int) (c4 c5 c6 : Value) (w w' : World) : Prop := (∃ c7 c8 c9, Ck1 bk bm bb vals c4 c5 c6 c7 c8 c9 w') ∧ w.grownBy w' (some bk)

set_option maxRecDepth 100000 in
set_option maxHeartbeats 2000000 in
theorem hasWays_one (bk bm bb bi k cap : Nat) (vals : Int) (c4 c5 c6 : Value) (w : World) (h : Ck1 bk bm bb vals c4 c5 c6 (.slice none 0 0) (.slice none 0 0) (.slice none 0 0) w) (hb : Blk1 bb bi k cap w) (hbb : bb ≠ bk) :
    Calls Try.prog 26 #[.pointer (some ⟨bk, 0, none⟩)] w fun e w' => e = .returned (.bool true) ∧ Wayed bk bm bb vals c4 c5 c6 w w' := by
  have H := Lib.hid (And.intro h (And.intro hb hbb))
  have x3 := h.get 3 (.slice (some ⟨bb, 0, none⟩) 1 1) rfl
  have b0 := hb.get 0 (.slice none 0 0) rfl
  have b1 := hb.get 1 (.slice (some ⟨bi, 0, none⟩) k cap) rfl
  have b2 := hb.get 2 (.int .u8 3) rfl
  have b3 := hb.get 3 (I 0) rfl
  have b4 := hb.get 4 (I 0) rfl
  have b5 := hb.get 5 (I 0) rfl
  obtain ⟨W, hW⟩ : ∃ W, W = w.alloc (blkC bi k cap) := ⟨_, rfl⟩
  obtain ⟨p4, hp4⟩ : ∃ p, p = w.heap.size := ⟨_, rfl⟩
  have hbel : Below w.heap.size w W := by rw [hW]; exact (Below.refl _ _).alloc (Nat.le_refl _) _
  have k4 : Blk1 p4 bi k cap W := by rw [hW, hp4]; exact Blk.new _ _ _
  have HW := Lib.hid (And.intro hW (And.intro hp4 (And.intro hbel k4)))
  have HE := Lib.hid (isEnd_one bk bm bb bi k cap vals c4 c5 c6 (.slice none 0 0) (.slice none 0 0) (.slice none 0 0) W (h.below hbel h.lt))
  have y0 := k4.get 0 (.slice none 0 0) rfl
  have y1 := k4.get 1 (.slice (some ⟨bi, 0, none⟩) k cap) rfl
  have y2 := k4.get 2 (.int .u8 3) rfl
  have y3 := k4.get 3 (I 0) rfl
  have y4 := k4.get 4 (I 0) rfl
  have y5 := k4.get 5 (I 0) rfl
  clear h hb hbb hW hp4 hbel k4
  go_enter Try.func26, Try.ntmps26
  go_wp2_with fail
  refine wp_loop_rounds 2 ?_
  rw [rounds_succ]
  go_upto_region 4 with (fail)
  rw [← HW.out.2.1]
  change Code.wp _ _ _ _ (w.alloc (blkC bi k cap))
  rw [← HW.out.1]
  clear b0 b1 b2 b3 b4 b5 x3
  go_wp2_with fail
  refine HE.out.mono ?_
  rintro e w1 ⟨rfl, h1⟩
  have q1 := HW.out.2.2.1.trans (h1.mono HW.out.2.2.1.size)
  have H1 := Lib.hid (And.intro q1 (And.intro (H.out.1.below q1 H.out.1.lt) (H.out.2.1.below q1 H.out.2.1.lt)))
  have x0 := H1.out.2.1.get 0 (I 0) rfl
  have x1 := H1.out.2.1.get 1 (I 0) rfl
  have x2 := H1.out.2.1.get 2 (I vals) rfl
  have x3 := H1.out.2.1.get 3 (.slice (some ⟨bb, 0, none⟩) 1 1) rfl
  clear h1 q1 y0 y1 y2 y3 y4 y5
  go_wp2_with fail
  rw [rounds_succ]
  go_wp2_with fail
  refine (graph_one bb bi k cap vals w1 H1.out.2.2).mono ?_
  rintro e w2 ⟨bg, rfl, hg, hb⟩
  have HG := Lib.hid (And.intro hg (H1.out.1.trans (hb.mono H1.out.1.size)))
  clear hg hb x0 x1 x2 x3
  go_wp2_with fail
  refine (Order_one bg w2 HG.out.1).mono ?_
  rintro e w3 ⟨ov, rfl, ho, hb⟩
  obtain ⟨g3, cap3, rfl⟩ : ∃ g cap, ov = .slice (some ⟨g, 0, none⟩) 1 cap := by
    rcases own_slice ho with ⟨_, h⟩ | ⟨g, cap, h⟩
    · exact absurd h (by decide)
    · exact ⟨g, cap, h⟩
  have q3 := HG.out.2.trans (hb.mono HG.out.2.size)
  have H3 := Lib.hid (And.intro q3 (And.intro (HG.out.1.below hb HG.out.1.lt) (And.intro ho (H.out.1.below q3 H.out.1.lt))))
  have x3 := H3.out.2.2.2.get 3 (.slice (some ⟨bb, 0, none⟩) 1 1) rfl
  clear ho hb q3
  go_wp2_with fail
  refine (Above_one bg w3 H3.out.2.1).mono ?_
  rintro e w4 ⟨ba, rfl, ha, hb⟩
  have H4 := Lib.hid (And.intro (H3.out.1.trans (hb.mono H3.out.1.size)) (And.intro (H3.out.2.1.below hb H3.out.2.1.lt) (And.intro (own_below H3.out.2.2.1 hb) ha)))
  clear ha hb x3
  go_wp2_with fail
  refine (Into_one bg w4 H4.out.2.1).mono ?_
  rintro e w5 ⟨bt, rfl, ht, hb⟩
  have q5 := H4.out.1.trans (hb.mono H4.out.1.size)
  have k5 := H.out.1.below q5 H.out.1.lt
  have H5 := Lib.hid (And.intro q5 (And.intro k5 (And.intro (own_below H4.out.2.2.1 hb) (H4.out.2.2.2.below hb H4.out.2.2.2.lt))))
  have x7 := k5.get 7 (.slice none 0 0) rfl
  have f7 := k5.free 7
  clear ht hb q5 k5
  have hba : ba ≠ bk := by
    intro e
    have e1 := H5.out.2.2.2
    rw [e] at e1
    have e2 := H5.out.2.1
    unfold Blk at e1 e2
    rw [e1] at e2
    simp at e2
  obtain ⟨W6, hW6⟩ : ∃ W6, W6 = w5.setCell ⟨bk, 7, none⟩ (.slice (some ⟨bt, 0, none⟩) 1 1) := ⟨_, rfl⟩
  have k6 : Ck1 bk bm bb vals c4 c5 c6 (.slice (some ⟨bt, 0, none⟩) 1 1) (.slice none 0 0) (.slice none 0 0) W6 := by rw [hW6]; exact H5.out.2.1.set 7 _
  have g6 : w.grownBy W6 (some bk) := by
    rw [hW6]
    exact ⟨H5.out.1.os, H5.out.1.tape, H5.out.1.output, by have := H5.out.1.size; simpa [World.setCell] using this, fun i hi hne => (Below.heap_setCell _ _ _ _ (fun e => hne (by rw [e]))).trans (H5.out.1.block i hi)⟩
  have o6 : W6.cell? ⟨g3, 0, none⟩ = some (I 0) := by rw [hW6, World.cell?_setCell_other _ _ _ _ (by simp)]; exact H5.out.2.2.1.cells (g := g3) rfl 0 (I 0) rfl
  have a6 : Blk ba #[I (-1)] 3 W6 := by rw [hW6]; exact H5.out.2.2.2.setOther hba _ _
  have l6 : g3 < W6.heap.size := by have := (H5.out.2.2.1.lt g3 rfl).2; rw [hW6]; simpa [World.setCell] using this
  have HN := Lib.hid (New_one g3 ba cap3 W6 o6 a6 l6)
  have H6 := Lib.hid (And.intro k6 g6)
  have HW6 := Lib.hid hW6
  clear hba hW6 k6 g6 o6 a6 l6
  go_wp2_with fail
  rw [← HW6.out]
  refine HN.out.mono ?_
  rintro e w7 ⟨p, z, rfl, _, _, _, _, _, hb⟩
  have k7 := H6.out.1.below hb H6.out.1.lt
  have x8 := k7.get 8 (.slice none 0 0) rfl
  have x9 := k7.get 9 (.slice none 0 0) rfl
  have f8 := k7.free 8
  have f9 := k7.free 9
  have FIN := Lib.hid (show Wayed bk bm bb vals c4 c5 c6 w ((w7.setCell ⟨bk, 8, none⟩ (.slice (some ⟨p, 0, none⟩) 1 1)).setCell ⟨bk, 9, none⟩ (.slice (some ⟨z, 0, none⟩) 1 1)) from
    ⟨⟨_, _, _, (k7.set 8 _).set 9 _⟩, by
      have g7 := grown_trans H6.out.2 (grown_of hb bk)
      exact ⟨g7.os, g7.tape, g7.output, by have := g7.size; simpa [World.setCell] using this, fun i hi hne => (Below.heap_setCell _ _ _ _ (fun e => hne (by rw [e]))).trans ((Below.heap_setCell _ _ _ _ (fun e => hne (by rw [e]))).trans (g7.block i hi hne))⟩⟩)
  clear hb k7 x7 f7
  go_wp2_with fail
  go_ret
  exact ⟨rfl, FIN.out⟩
end Go.Proofs.Ytjlmkcamefaodaa
