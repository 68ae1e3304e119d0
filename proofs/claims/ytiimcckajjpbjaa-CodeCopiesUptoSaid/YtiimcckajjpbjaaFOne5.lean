/-
  Graphs of one node that goes on nowhere: the nearest above, told; the forest of one node.
-/
import Derived.Test.YtiimcckajjpbjaaFOne4
namespace Go.Proofs.Ytiimcckajjpbjaa
open Go Go.RowKit

def ToldNone2 (w w' : World) (e : Ending) : Prop := ∃ b, e = .returned (.tuple #[.slice (some ⟨b, 0, none⟩) 1 1, I 0]) ∧ Blk b #[I (-1)] 3 w' ∧ Below w.heap.size w w'
set_option maxRecDepth 100000 in
set_option maxHeartbeats 800000 in
theorem Above_one (bg : Nat) (w : World) (h : One bg w) : Calls Try.prog 55 #[oneV bg] w fun e w' => ToldNone2 w w' e := by
  have H := Lib.hid h
  clear h
  go_enter Try.func55, Try.ntmps55
  go_wp2_with fail
  refine (fault_one bg w H.out).mono ?_
  rintro e w' ⟨rfl, rfl⟩
  go_wp2_with fail
  refine (newWalk_one bg w H.out).mono ?_
  rintro e w1 ⟨bw, bf, br, v0, v1, rfl, h1, h2, h3⟩
  obtain ⟨g1, cap1, rfl⟩ : ∃ g cap, v0 = .slice (some ⟨g, 0, none⟩) 1 cap := by
    rcases own_slice h2 with ⟨_, h⟩ | ⟨g, cap, h⟩
    · exact absurd h (by decide)
    · exact ⟨g, cap, h⟩
  have hg1 : One bg w1 := H.out.below h1.bel H.out.lt
  have H1 := Lib.hid (And.intro h1 (And.intro h2 hg1))
  clear h1 h2 h3 hg1
  go_wp2_with fail
  refine (into_one bg w1 H1.out.2.2).mono ?_
  rintro e w2 ⟨bi, rfl, h4, hb⟩
  have H2 := Lib.hid (And.intro (H1.out.1.below hb) (own_below H1.out.2.1 hb))
  clear h4 hb
  go_wp2_with fail
  refine (above_one w bw bf br bi v1 g1 cap1 _ w2 H2.out.1 H2.out.2).mono ?_
  rintro e w3 ⟨b, rfl, h5, _, h6⟩
  have FIN := Lib.hid (show ToldNone2 w w3 (.returned (.tuple #[.slice (some ⟨b, 0, none⟩) 1 1, I 0])) from ⟨b, rfl, h5, H2.out.1.bel.trans (h6.mono H2.out.1.bel.size)⟩)
  clear h5 h6
  go_wp2_with fail
  go_ret2
  exact FIN.out

/-- A forest of one node. -/
abbrev forestV (p z : Nat) : Value := .agg #[.slice (some ⟨p, 0, none⟩) 1 1, .slice (some ⟨z, 0, none⟩) 1 1]

set_option maxRecDepth 100000 in
set_option maxHeartbeats 800000 in
theorem lay_one (p z o a : Nat) (ocap : Nat) (w : World) (x : Int) (hp : Blk p #[I x] 3 w) (hz : Blk z #[I 1] 3 w) (ho : w.cell? ⟨o, 0, none⟩ = some (I 0)) (ha : Blk a #[I (-1)] 3 w) (hop : o ≠ p) (hap : a ≠ p) (hzp : z ≠ p) (hol : o < w.heap.size) (B : Nat) (hB : B ≤ p) :
    Calls Try.prog 70 #[forestV p z, .slice (some ⟨o, 0, none⟩) 1 ocap, .slice (some ⟨a, 0, none⟩) 1 1] w fun e w' => e = .returned (.tuple #[]) ∧ Blk p #[I 0] 3 w' ∧ Blk z #[I 1] 3 w' ∧ Below B w w' ∧ ∀ k, k < w.heap.size → k ≠ p → w'.heap[k]? = w.heap[k]? := by
  have hmk := fun w => mkI1 w
  have hpl := hp.lt
  obtain ⟨W, hW⟩ : ∃ W, W = ((w.alloc (.cells #[.slice (some ⟨p, 0, none⟩) 1 1, .slice (some ⟨z, 0, none⟩) 1 1] 71)).alloc (.cells #[I 0] 3)).alloc (.cells #[I 0] 3) := ⟨_, rfl⟩
  obtain ⟨n0, hn0⟩ : ∃ n, n = w.heap.size := ⟨_, rfl⟩
  obtain ⟨n1, hn1⟩ : ∃ n, n = w.heap.size + 1 := ⟨_, rfl⟩
  obtain ⟨n2, hn2⟩ : ∃ n, n = w.heap.size + 1 + 1 := ⟨_, rfl⟩
  have k0 : Blk n0 #[.slice (some ⟨p, 0, none⟩) 1 1, .slice (some ⟨z, 0, none⟩) 1 1] 71 W := by rw [hn0, hW]; exact ((Blk.new _ _ _).alloc _).alloc _
  have k1 : Blk n1 #[I 0] 3 W := by rw [hn1, hW]; exact (Blk.new' _ _ _ (by simp)).alloc _
  have k2 : Blk n2 #[I 0] 3 W := by rw [hn2, hW]; exact Blk.new' _ _ _ (by simp)
  have hb : Below w.heap.size w W := by rw [hW]; exact (((Below.refl _ _).alloc (Nat.le_refl _) _).alloc (by simp) _).alloc (by simp; omega) _
  have c0 := k0.get 0 (.slice (some ⟨p, 0, none⟩) 1 1) rfl
  have c1 := k0.get 1 (.slice (some ⟨z, 0, none⟩) 1 1) rfl
  have d1 := k1.get 0 (I 0) rfl
  have d2 := k2.get 0 (I 0) rfl
  have f1 := k1.free 0
  have f2 := k2.free 0
  have co : W.cell? ⟨o, 0, none⟩ = some (I 0) := cell_below hb hol ho
  have ca := (ha.below hb ha.lt).get 0 (I (-1)) rfl
  have cp := (hp.below hb hp.lt).get 0 (I x) rfl
  have fp := (hp.below hb hp.lt).free 0
  have cz := (hz.below hb hz.lt).get 0 (I 1) rfl
  have q1 : p ≠ n1 := by omega
  have q2 : p ≠ n2 := by omega
  have q3 : n1 ≠ n2 := by omega
  have q4 : p ≠ n0 := by omega
  have q5 : n0 ≠ n1 := by omega
  have q6 : n0 ≠ n2 := by omega
  have q7 : z ≠ n1 := by have := hz.lt; omega
  have q8 : z ≠ n2 := by have := hz.lt; omega
  have q9 : a ≠ n1 := by have := ha.lt; omega
  have q10 : a ≠ n2 := by have := ha.lt; omega
  have FIN := Lib.hid (show Blk p #[I 0] 3 ((((W.setCell ⟨p, 0, none⟩ (I 0)).drew.setCell ⟨n1, 0, none⟩ (I 1)).setCell ⟨n2, 0, none⟩ (I 1)).drew) ∧ Blk z #[I 1] 3 ((((W.setCell ⟨p, 0, none⟩ (I 0)).drew.setCell ⟨n1, 0, none⟩ (I 1)).setCell ⟨n2, 0, none⟩ (I 1)).drew) ∧ Below B w ((((W.setCell ⟨p, 0, none⟩ (I 0)).drew.setCell ⟨n1, 0, none⟩ (I 1)).setCell ⟨n2, 0, none⟩ (I 1)).drew) ∧ ∀ k, k < w.heap.size → k ≠ p → ((((W.setCell ⟨p, 0, none⟩ (I 0)).drew.setCell ⟨n1, 0, none⟩ (I 1)).setCell ⟨n2, 0, none⟩ (I 1)).drew).heap[k]? = w.heap[k]? from
    ⟨(((hp.below hb hp.lt).set 0 _).setOther q1 _ _).setOther q2 _ _, (((hz.below hb hz.lt).setOther hzp _ _).setOther q7 _ _).setOther q8 _ _,
      ((((hb.mono (by omega)).setCell (p := ⟨p, 0, none⟩) hB _).drew.setCell (p := ⟨n1, 0, none⟩) (by show B ≤ n1; omega) _).setCell (p := ⟨n2, 0, none⟩) (by show B ≤ n2; omega) _).drew,
      fun k hk hkp => (Below.heap_setCell _ ⟨n2, 0, none⟩ _ _ (by show k ≠ n2; omega)).trans ((Below.heap_setCell _ ⟨n1, 0, none⟩ _ _ (by show k ≠ n1; omega)).trans ((Below.heap_setCell _ ⟨p, 0, none⟩ _ _ hkp).trans (hb.block k hk)))⟩)
  have HW := Lib.hid (And.intro hW (And.intro hn0 (And.intro hn1 hn2)))
  clear hW hn0 hn1 hn2 k0 k1 k2 hb hp hz ho ha hol hB hpl
  go_enter Try.func70, Try.ntmps70
  go_upto_region 3 with (fail)
  rw [← HW.out.2.2.2, ← HW.out.2.2.1, ← HW.out.2.1]
  change Code.wp _ _ _ _ (((w.alloc (.cells #[.slice (some ⟨p, 0, none⟩) 1 1, .slice (some ⟨z, 0, none⟩) 1 1] 71)).alloc (.cells #[I 0] 3)).alloc (.cells #[I 0] 3))
  rw [← HW.out.1]
  go_wp2_with fail
  refine wp_loop_rounds 2 ?_
  rw [rounds_succ]
  go_wp2_with fail
  go_region
  go_wp2_with fail
  go_region
  go_wp2_with fail
  rw [rounds_succ]
  go_wp2_with fail
  go_end0
  exact ⟨rfl, FIN.out⟩

def ForestT (w : World) (q : Value) (W : World) : Prop := ∃ f p z, q = .pointer (some ⟨f, 0, none⟩) ∧ Blk f #[.slice (some ⟨p, 0, none⟩) 1 1, .slice (some ⟨z, 0, none⟩) 1 1] 71 W ∧ Blk p #[I 0] 3 W ∧ Blk z #[I 0] 3 W ∧ p ≠ z ∧ f ≠ p ∧ f ≠ z ∧ w.heap.size < f ∧ w.heap.size < p ∧ w.heap.size < z ∧
  Blk w.heap.size #[.slice none 0 0, .slice none 0 0] 71 W ∧ Below w.heap.size w W
theorem four_get (w : World) (o1 o2 o3 o4 : Obj) (i : Nat) (o : Obj) (hi : [o1, o2, o3, o4][i]? = some o) : (((((w.alloc o1).alloc o2).alloc o3).alloc o4).drew).heap[w.heap.size + i]? = some o := by
  have hlt : i < 4 := by
    rcases Nat.lt_or_ge i 4 with h | h
    · exact h
    · rw [List.getElem?_eq_none (by simpa using h)] at hi; cases hi
  have h5 := five_get w o1 o2 o3 o4 o4 i o (by
    match i, hlt, hi with
    | 0, _, hi => exact hi
    | 1, _, hi => exact hi
    | 2, _, hi => exact hi
    | 3, _, hi => exact hi
    | n + 4, h, _ => exact absurd h (by omega))
  have : (((((w.alloc o1).alloc o2).alloc o3).alloc o4).alloc o4).heap[w.heap.size + i]? = some o := h5
  rw [heap_alloc_old _ _ (by simp; omega)] at this
  exact this
theorem forest_four (w : World) (o2 o3 o4 : Obj) (i j k : Nat) (f p z : Nat) (hf : f = w.heap.size + i) (hp : p = w.heap.size + j) (hz : z = w.heap.size + k) (h0 : 0 < i ∧ 0 < j ∧ 0 < k ∧ i ≠ j ∧ i ≠ k ∧ j ≠ k)
    (hi : [.cells #[.slice none 0 0, .slice none 0 0] 71, o2, o3, o4][i]? = some (.cells #[.slice (some ⟨p, 0, none⟩) 1 1, .slice (some ⟨z, 0, none⟩) 1 1] 71))
    (hj : [.cells #[.slice none 0 0, .slice none 0 0] 71, o2, o3, o4][j]? = some (.cells #[I 0] 3)) (hk : [.cells #[.slice none 0 0, .slice none 0 0] 71, o2, o3, o4][k]? = some (.cells #[I 0] 3)) :
    ForestT w (.pointer (some ⟨f, 0, none⟩)) (((((w.alloc (.cells #[.slice none 0 0, .slice none 0 0] 71)).alloc o2).alloc o3).alloc o4).drew) := by
  subst hf hp hz
  exact ⟨_, _, _, rfl, four_get w _ o2 o3 o4 i _ hi, four_get w _ o2 o3 o4 j _ hj, four_get w _ o2 o3 o4 k _ hk, by omega, by omega, by omega, by omega, by omega, by omega, four_get w _ o2 o3 o4 0 _ rfl, (((((Below.refl _ _).alloc (Nat.le_refl _) _).alloc (by simp) _).alloc (by simp; omega) _).alloc (by simp; omega) _).drew⟩

set_option maxRecDepth 100000 in
set_option maxHeartbeats 1600000 in
theorem New_one (o a : Nat) (ocap : Nat) (w : World) (ho : w.cell? ⟨o, 0, none⟩ = some (I 0)) (ha : Blk a #[I (-1)] 3 w) (hol : o < w.heap.size) :
    Calls Try.prog 57 #[.slice (some ⟨o, 0, none⟩) 1 ocap, .slice (some ⟨a, 0, none⟩) 1 1] w fun e w' => ∃ p z, e = .returned (forestV p z) ∧ Blk p #[I 0] 3 w' ∧ Blk z #[I 1] 3 w' ∧ w.heap.size ≤ p ∧ w.heap.size ≤ z ∧ p ≠ z ∧ Below w.heap.size w w' := by
  have hmk := fun w => mkI1 w
  have HF := Lib.hid (forest_four w)
  have H := Lib.hid (And.intro ho (And.intro ha hol))
  clear ho ha hol
  go_enter Try.func57, Try.ntmps57
  go_upto_region 1 with (fail)
  go_cut [5] from 9 to 15 (fun q W => ForestT w q W)
  case first =>
    go_region
    all_goals (go_wp2_with fail; go_meet; case rel => first | exact HF.out _ _ _ 1 2 3 _ _ _ rfl rfl rfl (by decide) rfl rfl rfl | exact HF.out _ _ _ 1 3 2 _ _ _ rfl rfl rfl (by decide) rfl rfl rfl | exact HF.out _ _ _ 2 1 3 _ _ _ rfl rfl rfl (by decide) rfl rfl rfl | exact HF.out _ _ _ 2 3 1 _ _ _ rfl rfl rfl (by decide) rfl rfl rfl | exact HF.out _ _ _ 3 1 2 _ _ _ rfl rfl rfl (by decide) rfl rfl rfl | exact HF.out _ _ _ 3 2 1 _ _ _ rfl rfl rfl (by decide) rfl rfl rfl)
  case rest =>
    obtain ⟨f, p, z, rfl, h1, h2, h3, h4, h5, h6, h7, h8, h9, h10, h11⟩ := hcut
    obtain ⟨W, rfl⟩ : ∃ W, W = wc := ⟨_, rfl⟩
    obtain ⟨r, hr⟩ : ∃ r, r = w.heap.size := ⟨_, rfl⟩
    rw [← hr] at h10
    obtain ⟨W1, hW1⟩ : ∃ W1, W1 = (W.setCell ⟨p, 0, none⟩ (I (-1))).setCell ⟨z, 0, none⟩ (I 1) := ⟨_, rfl⟩
    have k1 : Blk f #[.slice (some ⟨p, 0, none⟩) 1 1, .slice (some ⟨z, 0, none⟩) 1 1] 71 W1 := by rw [hW1]; exact (h1.setOther h5 _ _).setOther h6 _ _
    have k2 : Blk p #[I (-1)] 3 W1 := by rw [hW1]; exact (h2.set 0 _).setOther h4 _ _
    have k3 : Blk z #[I 1] 3 W1 := by rw [hW1]; exact (h3.setOther (Ne.symm h4) _ _).set 0 _
    have k4 : Blk r #[.slice none 0 0, .slice none 0 0] 71 W1 := by rw [hW1]; exact (h10.setOther (by omega) _ _).setOther (by omega) _ _
    have k5 : Below w.heap.size w W1 := by rw [hW1]; exact (h11.setCell (p := ⟨p, 0, none⟩) (by show w.heap.size ≤ p; omega) _).setCell (p := ⟨z, 0, none⟩) (by show w.heap.size ≤ z; omega) _
    have co1 : W1.cell? ⟨o, 0, none⟩ = some (I 0) := cell_below k5 H.out.2.2 H.out.1
    have ca1 := H.out.2.1.below k5 H.out.2.1.lt
    have HL := Lib.hid (lay_one p z o a ocap W1 (-1) k2 k3 co1 ca1 (by have := H.out.2.2; omega) (by have := H.out.2.1.lt; omega) (Ne.symm h4) (Nat.lt_of_lt_of_le H.out.2.2 k5.size) (w.heap.size + 1) (by omega))
    have H1 := Lib.hid (And.intro k1 (And.intro k4 (And.intro k5 (And.intro hr (And.intro h7 (And.intro h8 (And.intro h9 (And.intro h4 (And.intro h5 h6)))))))))
    have c0 := h1.get 0 (.slice (some ⟨p, 0, none⟩) 1 1) rfl
    have c1 := h1.get 1 (.slice (some ⟨z, 0, none⟩) 1 1) rfl
    have d0 := h2.get 0 (I 0) rfl
    have d1 := h3.get 0 (I 0) rfl
    have f0 := h2.free 0
    have f1 := h3.free 0
    have co : W.cell? ⟨o, 0, none⟩ = some (I 0) := cell_below h11 H.out.2.2 H.out.1
    have ca := (H.out.2.1.below h11 H.out.2.1.lt).get 0 (I (-1)) rfl
    have q1 := h4
    have q2 := h5
    have q3 := h6
    have q4 : p ≠ o := by have := H.out.2.2; omega
    have q5 : z ≠ o := by have := H.out.2.2; omega
    have q6 : p ≠ a := by have := H.out.2.1.lt; omega
    have q7 : z ≠ a := by have := H.out.2.1.lt; omega
    have HW1 := Lib.hid hW1
    clear h1 h2 h3 h4 h5 h6 h7 h8 h9 h10 h11 hW1 k1 k2 k3 k4 k5 co1 ca1 hr
    go_wp2_with fail
    refine wp_loop_rounds 2 ?_
    rw [rounds_succ]
    go_wp2_with fail
    rw [rounds_succ]
    go_wp2_with fail
    refine wp_loop_rounds 2 ?_
    rw [rounds_succ]
    go_wp2_with fail
    rw [rounds_succ]
    go_upto_region 14 with (fail)
    change Code.wp _ _ _ _ ((W.setCell ⟨p, 0, none⟩ (I (-1))).setCell ⟨z, 0, none⟩ (I 1))
    rw [← HW1.out, ← H1.out.2.2.2.1]
    clear c0 c1 d0 d1 f0 f1 co ca HW1 q1 q2 q3 q4 q5 q6 q7
    have c0 := H1.out.1.get 0 (.slice (some ⟨p, 0, none⟩) 1 1) rfl
    have c1 := H1.out.1.get 1 (.slice (some ⟨z, 0, none⟩) 1 1) rfl
    go_wp2_with fail
    refine HL.out.mono ?_
    rintro e W2 ⟨rfl, h2, h3, hb, hk⟩
    have k1 : Blk f #[.slice (some ⟨p, 0, none⟩) 1 1, .slice (some ⟨z, 0, none⟩) 1 1] 71 W2 := (hk f H1.out.1.lt (by have := H1.out.2.2.2.2.2.2.2.2.1; omega)).trans H1.out.1
    have k2 : Blk r #[.slice none 0 0, .slice none 0 0] 71 W2 := (hk r H1.out.2.1.lt (by have := H1.out.2.2.2.1; have := H1.out.2.2.2.2.2.1; omega)).trans H1.out.2.1
    have k5 : Below w.heap.size w W2 := H1.out.2.2.1.trans (hb.mono (by omega))
    have q1 : r ≠ p := by have := H1.out.2.2.2.1; have := H1.out.2.2.2.2.2.1; omega
    have q2 : r ≠ z := by have := H1.out.2.2.2.1; have := H1.out.2.2.2.2.2.2.1; omega
    have c0 := k1.get 0 (.slice (some ⟨p, 0, none⟩) 1 1) rfl
    have c1 := k1.get 1 (.slice (some ⟨z, 0, none⟩) 1 1) rfl
    have d0 := k2.get 0 (.slice none 0 0) rfl
    have d1 := k2.get 1 (.slice none 0 0) rfl
    have f0 := k2.free 0
    have f1 := k2.free 1
    obtain ⟨W3, hW3⟩ : ∃ W3, W3 = (W2.setCell ⟨r, 0, none⟩ (.slice (some ⟨p, 0, none⟩) 1 1)).setCell ⟨r, 1, none⟩ (.slice (some ⟨z, 0, none⟩) 1 1) := ⟨_, rfl⟩
    have k3 : Blk r #[.slice (some ⟨p, 0, none⟩) 1 1, .slice (some ⟨z, 0, none⟩) 1 1] 71 W3 := by rw [hW3]; exact (k2.set 0 _).set 1 _
    have FIN := Lib.hid (show Blk p #[I 0] 3 W3 ∧ Blk z #[I 1] 3 W3 ∧ w.heap.size ≤ p ∧ w.heap.size ≤ z ∧ p ≠ z ∧ Below w.heap.size w W3 by
      rw [hW3]
      have := H1.out.2.2.2.1
      exact ⟨(h2.setOther (Ne.symm q1) _ _).setOther (Ne.symm q1) _ _, (h3.setOther (Ne.symm q2) _ _).setOther (Ne.symm q2) _ _, by have := H1.out.2.2.2.2.2.1; omega, by have := H1.out.2.2.2.2.2.2.1; omega, H1.out.2.2.2.2.2.2.2.1, (k5.setCell (p := ⟨r, 0, none⟩) (by show w.heap.size ≤ r; omega) _).setCell (p := ⟨r, 1, none⟩) (by show w.heap.size ≤ r; omega) _⟩)
    have HW3 := Lib.hid hW3
    have HR := Lib.hid (And.intro (k3.get 0 (.slice (some ⟨p, 0, none⟩) 1 1) rfl) (k3.get 1 (.slice (some ⟨z, 0, none⟩) 1 1) rfl))
    clear h2 h3 hb hk k1 k2 k5 hW3 k3
    go_wp2_with fail
    rw [← HW3.out]
    have g0 := HR.out.1
    have g1 := HR.out.2
    exact bodyPost_ret (v := forestV p z) (by simp [results, Try.results57, go_sem, g0, g1]) rfl ⟨p, z, rfl, FIN.out⟩
end Go.Proofs.Ytiimcckajjpbjaa
