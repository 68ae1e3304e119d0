/-
  Joined: FNst.
-/
import Derived.Test.YtjlmkcamefaodaaJ18
import Derived.Deep.RegionHeld3
/-! FNst: The nearest above of all numbers: the rows in memory, and the walk. -/

namespace Go.Proofs.Ytjlmkcamefaodaa
open Go Go.RowKit Fl

namespace Fl
/-- The far one's row behind a step. -/
def farN (near far depth : List Nat) (k p : Nat) : List Nat :=
  if ((depth.set k (depth.getD p 0 + 1)).getD p 0 : Int) - ((depth.set k (depth.getD p 0 + 1)).getD (far.getD p 0) 0 : Int) = ((depth.set k (depth.getD p 0 + 1)).getD (far.getD p 0) 0 : Int) - ((depth.set k (depth.getD p 0 + 1)).getD ((far.set k p).getD (far.getD p 0) 0) 0 : Int) then (far.set k p).set k ((far.set k p).getD (far.getD p 0) 0) else far.set k p
theorem nearF_step (par : Nat → Nat) (half : List Nat) (c k : Nat) (near far depth : List Nat) (p : Nat) (hp : p = meetF near far (half.getD k 0) (par k + 1) (par k)) :
    nearF par half (c + 1) k near far depth = nearF par half c (k + 1) (near.set k p) (farN near far depth k p) (depth.set k (depth.getD p 0 + 1)) := by
  subst hp
  rfl
theorem NearOk.step {m k p : Nat} {near far depth : List Nat} (h : NearOk m k near far) (hk : 0 < k) (hkm : k < m) (hp : p < k) : NearOk m (k + 1) (near.set k p) (farN near far depth k p) := by
  have eN : ∀ i, (near.set k p).getD i 0 = if i = k then p else near.getD i 0 := fun i => getD_set' _ _ _ _ (by rw [h.nl]; exact hkm)
  have eF : ∀ i, (far.set k p).getD i 0 = if i = k then p else far.getD i 0 := fun i => getD_set' _ _ _ _ (by rw [h.fl]; exact hkm)
  have hA : ∀ d v, v < k → (Anc (fun j => (near.set k p).getD j 0) d v ↔ Anc (fun j => near.getD j 0) d v) := fun d v hv => anc_set h.nlt (by rw [h.nl]; exact hkm) hv
  have hq : far.getD p 0 ≤ p ∧ Anc (fun j => near.getD j 0) (far.getD p 0) p := by
    rcases Nat.eq_zero_or_pos p with e | e
    · subst e; rw [h.f0]; exact ⟨Nat.le_refl _, .refl _⟩
    · exact ⟨Nat.le_of_lt (h.flt p e hp), h.fa p e hp⟩
  have hq2 : far.getD (far.getD p 0) 0 ≤ far.getD p 0 ∧ Anc (fun j => near.getD j 0) (far.getD (far.getD p 0) 0) (far.getD p 0) := by
    rcases Nat.eq_zero_or_pos (far.getD p 0) with e | e
    · rw [e, h.f0]; exact ⟨Nat.le_refl _, .refl _⟩
    · exact ⟨Nat.le_of_lt (h.flt _ e (by omega)), h.fa _ e (by omega)⟩
  have hf : (farN near far depth k p).length = m ∧ (∀ i, i ≠ k → (farN near far depth k p).getD i 0 = far.getD i 0) ∧ (farN near far depth k p).getD k 0 < k ∧ Anc (fun j => near.getD j 0) ((farN near far depth k p).getD k 0) p := by
    unfold farN
    split
    · have e2 : ∀ i, ((far.set k p).set k ((far.set k p).getD (far.getD p 0) 0)).getD i 0 = if i = k then (far.set k p).getD (far.getD p 0) 0 else (far.set k p).getD i 0 := fun i => getD_set' _ _ _ _ (by rw [List.length_set, h.fl]; exact hkm)
      have e3 : (far.set k p).getD (far.getD p 0) 0 = far.getD (far.getD p 0) 0 := by rw [eF, if_neg (by omega)]
      refine ⟨by rw [List.length_set, List.length_set]; exact h.fl, fun i hi => by rw [e2, if_neg hi, eF, if_neg hi], by rw [e2, if_pos rfl, e3]; omega, ?_⟩
      rw [e2, if_pos rfl, e3]
      exact hq2.2.trans hq.2
    · exact ⟨by rw [List.length_set]; exact h.fl, fun i hi => by rw [eF, if_neg hi], by rw [eF, if_pos rfl]; exact hp, by rw [eF, if_pos rfl]; exact .refl _⟩
  obtain ⟨c1, c2, c3, c4⟩ := hf
  refine ⟨by rw [List.length_set]; exact h.nl, c1, by rw [eN, if_neg (by omega)]; exact h.n0, by rw [c2 0 (by omega)]; exact h.f0, fun i i0 hi => ?_, fun i i0 hi => ?_, fun i i0 hi => ?_⟩
  · rw [eN]
    by_cases e : i = k
    · rw [if_pos e]; omega
    · rw [if_neg e]; exact h.nlt i i0 (by omega)
  · by_cases e : i = k
    · subst e; exact c3
    · rw [c2 i e]; exact h.flt i i0 (by omega)
  · by_cases e : i = k
    · subst e
      refine .up i0 ?_
      show Anc _ _ ((near.set i p).getD i 0)
      rw [eN, if_pos rfl, hA _ p hp]
      exact c4
    · rw [c2 i e, hA _ i (by omega)]
      exact h.fa i i0 (by omega)
end Fl

/-- Three rows in new memory, two of them in boxes. -/
structure NearG (w : World) (fb nb f n d m : Nat) (near far depth : List Nat) (W : World) : Prop where
  bf : Blk fb #[.slice (some ⟨f, 0, none⟩) m m] 41 W
  bn : Blk nb #[.slice (some ⟨n, 0, none⟩) m m] 41 W
  kf : Blk f (arrN far) 3 W
  kn : Blk n (arrN near) 3 W
  kd : Blk d (arrN depth) 3 W
  bel : Below w.heap.size w W
  lo : w.heap.size ≤ fb ∧ w.heap.size ≤ nb ∧ w.heap.size ≤ f ∧ w.heap.size ≤ n ∧ w.heap.size ≤ d
  n1 : fb ≠ f ∧ fb ≠ n ∧ fb ≠ d ∧ nb ≠ f ∧ nb ≠ n ∧ nb ≠ d
  n2 : f ≠ n ∧ f ≠ d ∧ n ≠ d
  lens : near.length = m ∧ far.length = m ∧ depth.length = m
section
variable {w W W' : World} {fb nb f n d m : Nat} {near far depth : List Nat}
theorem NearG.heap (h : NearG w fb nb f n d m near far depth W) (e : W'.heap = W.heap) (e2 : W'.os = W.os ∧ W'.tape = W.tape ∧ W'.output = W.output) : NearG w fb nb f n d m near far depth W' := by
  have e' : ∀ k : Nat, W'.heap[k]? = W.heap[k]? := fun k => by rw [e]
  exact ⟨(e' _).trans h.bf, (e' _).trans h.bn, (e' _).trans h.kf, (e' _).trans h.kn, (e' _).trans h.kd, ⟨e2.1.trans h.bel.os, e2.2.1.trans h.bel.tape, e2.2.2.trans h.bel.output, by rw [e]; exact h.bel.size, fun k hk => (e' k).trans (h.bel.block k hk)⟩, h.lo, h.n1, h.n2, h.lens⟩
theorem NearG.drewN (h : NearG w fb nb f n d m near far depth W) (j : Nat) : NearG w fb nb f n d m near far depth (W.drewN j) := h.heap rfl ⟨rfl, rfl, rfl⟩
theorem NearG.drew (h : NearG w fb nb f n d m near far depth W) : NearG w fb nb f n d m near far depth W.drew := h.heap rfl ⟨rfl, rfl, rfl⟩
theorem NearG.setF (h : NearG w fb nb f n d m near far depth W) (j x : Nat) : NearG w fb nb f n d m near (far.set j x) depth (W.setCell ⟨f, j, none⟩ (I (x : Int))) :=
  ⟨h.bf.setOther h.n1.1 _ _, h.bn.setOther h.n1.2.2.2.1 _ _, by have := h.kf.set j (I (x : Int)); rw [arrN_set] at this; exact this, h.kn.setOther (Ne.symm h.n2.1) _ _, h.kd.setOther (Ne.symm h.n2.2.1) _ _, h.bel.setCell (p := ⟨f, j, none⟩) h.lo.2.2.1 _, h.lo, h.n1, h.n2, h.lens.1, by rw [List.length_set]; exact h.lens.2.1, h.lens.2.2⟩
theorem NearG.setN (h : NearG w fb nb f n d m near far depth W) (j x : Nat) : NearG w fb nb f n d m (near.set j x) far depth (W.setCell ⟨n, j, none⟩ (I (x : Int))) :=
  ⟨h.bf.setOther h.n1.2.1 _ _, h.bn.setOther h.n1.2.2.2.2.1 _ _, h.kf.setOther h.n2.1 _ _, by have := h.kn.set j (I (x : Int)); rw [arrN_set] at this; exact this, h.kd.setOther (Ne.symm h.n2.2.2) _ _, h.bel.setCell (p := ⟨n, j, none⟩) h.lo.2.2.2.1 _, h.lo, h.n1, h.n2, by rw [List.length_set]; exact h.lens.1, h.lens.2.1, h.lens.2.2⟩
theorem NearG.setD (h : NearG w fb nb f n d m near far depth W) (j x : Nat) : NearG w fb nb f n d m near far (depth.set j x) (W.setCell ⟨d, j, none⟩ (I (x : Int))) :=
  ⟨h.bf.setOther h.n1.2.2.1 _ _, h.bn.setOther h.n1.2.2.2.2.2 _ _, h.kf.setOther h.n2.2.1 _ _, h.kn.setOther h.n2.2.2 _ _, by have := h.kd.set j (I (x : Int)); rw [arrN_set] at this; exact this, h.bel.setCell (p := ⟨d, j, none⟩) h.lo.2.2.2.2 _, h.lo, h.n1, h.n2, h.lens.1, h.lens.2.1, by rw [List.length_set]; exact h.lens.2.2⟩
theorem NearG.meet (h : NearG w fb nb f n d m near far depth W) : MeetW fb nb f n m near far W := ⟨h.bf.get 0 _ rfl, h.bn.get 0 _ rfl, h.kf, h.kn⟩
end

def Near5 (w : World) (m : Nat) (p q r : Value) (W : World) : Prop := ∃ fb nb f n d, p = .pointer (some ⟨nb, 0, none⟩) ∧ q = .pointer (some ⟨fb, 0, none⟩) ∧ r = .slice (some ⟨d, 0, none⟩) m m ∧ NearG w fb nb f n d m (List.replicate m 0) (List.replicate m 0) (List.replicate m 0) W

theorem near5_of {w W : World} {fb nb f n d m : Nat} (h1 : Blk fb #[.slice (some ⟨f, 0, none⟩) m m] 41 W) (h2 : Blk nb #[.slice (some ⟨n, 0, none⟩) m m] 41 W) (h3 : W.heap[f]? = some (zerosN m)) (h4 : W.heap[n]? = some (zerosN m)) (h5 : W.heap[d]? = some (zerosN m))
    (hb : Below w.heap.size w W) (lo : w.heap.size ≤ fb ∧ w.heap.size ≤ nb ∧ w.heap.size ≤ f ∧ w.heap.size ≤ n ∧ w.heap.size ≤ d) (n1 : fb ≠ f ∧ fb ≠ n ∧ fb ≠ d ∧ nb ≠ f ∧ nb ≠ n ∧ nb ≠ d) (n2 : f ≠ n ∧ f ≠ d ∧ n ≠ d) :
    Near5 w m (.pointer (some ⟨nb, 0, none⟩)) (.pointer (some ⟨fb, 0, none⟩)) (.slice (some ⟨d, 0, none⟩) m m) W :=
  ⟨fb, nb, f, n, d, rfl, rfl, rfl, h1, h2, zerosN_blk _ _ _ h3, zerosN_blk _ _ _ h4, zerosN_blk _ _ _ h5, hb, lo, n1, n2, by simp, by simp, by simp⟩
theorem below5 (w : World) (o1 o2 o3 o4 o5 : Obj) : Below w.heap.size w ((((((w.alloc o1).alloc o2).alloc o3).alloc o4).alloc o5).drew) :=
  ((((((Below.refl _ _).alloc (Nat.le_refl _) _).alloc (by simp) _).alloc (by simp; omega) _).alloc (by simp; omega) _).alloc (by simp; omega) _).drew

/-- What is answered. -/
def NearT' (w : World) (m : Nat) (Z : List Nat) (W : World) (e : Ending) : Prop := ∃ b, e = .returned (.slice (some ⟨b, 0, none⟩) m m) ∧ Blk b (arrN Z) 3 W ∧ w.heap.size ≤ b ∧ Below w.heap.size w W

/-- How far the rows are filled. -/
def NRel (w : World) (fb nb f n d m : Nat) (fr hf Z : List Nat) (iv : Value) (W : World) : Prop :=
  ∃ (k : Nat) (near far depth : List Nat), iv = I (k : Int) ∧ 0 < k ∧ k ≤ m ∧ NearG w fb nb f n d m near far depth W ∧ NearOk m k near far ∧ (∀ i, depth.getD i 0 ≤ k) ∧ (Fl.nearF (fun i => fr.getD i 0) hf (m - k) k near far depth).1 = Z
theorem depth_set {depth : List Nat} {k x : Nat} (h : ∀ i, depth.getD i 0 ≤ k) (hx : x ≤ k) : ∀ i, (depth.set k (x + 1)).getD i 0 ≤ k + 1 := by
  intro i
  rw [List.getD_eq_getElem?_getD, List.getElem?_set]
  by_cases e : k = i
  · rw [if_pos e]
    split <;> simp <;> omega
  · rw [if_neg e, ← List.getD_eq_getElem?_getD]
    have := h i
    omega

set_option maxRecDepth 100000 in
set_option maxHeartbeats 8000000 in
theorem nearest_any (base bc b0 b1 b2 b3 m : Nat) (fr up hf ls : List Nat) (pv : Value) (w : World) (hm : m ≤ 60000) (hm0 : 0 < m) (hp : ∀ i, 0 < i → i < m → fr.getD i 0 < i) (h : ClimbG base bc b0 b1 b2 b3 m fr up hf ls pv w) :
    Calls Try.prog 66 #[.pointer (some ⟨bc, 0, none⟩)] w fun e w' => NearT' w m (Fl.nearF (fun i => fr.getD i 0) hf (m - 1) 1 (List.replicate m 0) (List.replicate m 0) (List.replicate m 0)).1 w' e := by
  obtain ⟨Z, hZ⟩ : ∃ Z, Z = (Fl.nearF (fun i => fr.getD i 0) hf (m - 1) 1 (List.replicate m 0) (List.replicate m 0) (List.replicate m 0)).1 := ⟨_, rfl⟩
  rw [← hZ]
  have HZ := Lib.hid hZ
  clear hZ
  have hmk := mkIn m (by omega)
  have c0 := h.blk.get 0 (.slice (some ⟨b0, 0, none⟩) m m) rfl
  have H := Lib.hid (And.intro h (And.intro hp hm0))
  have hmf : ∀ (fn : Fn) (first cap : Array Value) (w : World), (Instr.makeFunc fn first cap).run Try.prog w = .ok (.func fn first cap) w := fun _ _ _ _ => rfl
  clear h hp hm0
  go_enter Try.func66, Try.ntmps66
  go_upto_region 2 with (fail)
  go_cut [4, 5, 6] from 16 to 21 (fun p q r W => Near5 w m p q r W)
  case first =>
    clear hm c0 H hmf
    go_region
    all_goals (go_wp2_with fail; go_meet; case rel => as_aux_lemma => exact near5_of (by first | exact five_get w _ _ _ _ _ 0 _ rfl | exact five_get w _ _ _ _ _ 1 _ rfl | exact five_get w _ _ _ _ _ 2 _ rfl | exact five_get w _ _ _ _ _ 3 _ rfl | exact five_get w _ _ _ _ _ 4 _ rfl) (by first | exact five_get w _ _ _ _ _ 0 _ rfl | exact five_get w _ _ _ _ _ 1 _ rfl | exact five_get w _ _ _ _ _ 2 _ rfl | exact five_get w _ _ _ _ _ 3 _ rfl | exact five_get w _ _ _ _ _ 4 _ rfl) (by first | exact five_get w _ _ _ _ _ 0 _ rfl | exact five_get w _ _ _ _ _ 1 _ rfl | exact five_get w _ _ _ _ _ 2 _ rfl | exact five_get w _ _ _ _ _ 3 _ rfl | exact five_get w _ _ _ _ _ 4 _ rfl) (by first | exact five_get w _ _ _ _ _ 0 _ rfl | exact five_get w _ _ _ _ _ 1 _ rfl | exact five_get w _ _ _ _ _ 2 _ rfl | exact five_get w _ _ _ _ _ 3 _ rfl | exact five_get w _ _ _ _ _ 4 _ rfl) (by first | exact five_get w _ _ _ _ _ 0 _ rfl | exact five_get w _ _ _ _ _ 1 _ rfl | exact five_get w _ _ _ _ _ 2 _ rfl | exact five_get w _ _ _ _ _ 3 _ rfl | exact five_get w _ _ _ _ _ 4 _ rfl) (below5 _ _ _ _ _ _) (by omega) (by omega) (by omega))
  case rest =>
    as_aux_lemma =>
    obtain ⟨fb, nb, f, n, d, rfl, rfl, rfl, hN⟩ := hcut
    obtain ⟨W, rfl⟩ : ∃ W, W = wc := ⟨_, rfl⟩
    have HST := Lib.hid (show NRel w fb nb f n d m fr hf Z (I 1) W from ⟨1, _, _, _, rfl, by omega, H.out.2.2, hN, Fl.near_start m H.out.2.2, fun i => by
      rw [List.getD_eq_getElem?_getD, List.getElem?_replicate]
      split <;> simp, HZ.out.symm⟩)
    clear hN c0
    go_wp2_with fail
    go_loopw [8] (fun iv wr => NRel w fb nb f n d m fr hf Z iv wr) (fun iv _ => (m - intOf iv).toNat)
    case atStart => exact HST.out
    case round =>
      obtain ⟨k, near, far, depth, rfl, hk0, hkm, hN, hok, hdp, hZ⟩ := hrel
      obtain ⟨wo, rfl⟩ : ∃ wo : World, wo = wr := ⟨_, rfl⟩
      have n0 := hN.bn.get 0 (.slice (some ⟨n, 0, none⟩) m m) rfl
      by_cases hlt : k < m
      · have d0 : decide (k < m) = true := by simpa using hlt
        have hG := H.out.1.grown (grown_of_below hN.bel) (by simp) (by simp) (by simp) (by simp) (by simp)
        have x0 := hG.blk.get 0 (.slice (some ⟨b0, 0, none⟩) m m) rfl
        have x2 := hG.blk.get 2 (.slice (some ⟨b2, 0, none⟩) m m) rfl
        have y0 := arrN_at hG.k0 (j := k) (by rw [hG.e0]; exact hlt)
        have y2 := arrN_at hG.k2 (j := k) (by rw [hG.e2]; exact hlt)
        obtain ⟨r, hr⟩ : ∃ r, r = fr.getD k 0 := ⟨_, rfl⟩
        obtain ⟨x, hx⟩ : ∃ x, x = hf.getD k 0 := ⟨_, rfl⟩
        rw [← hr] at y0
        rw [← hx] at y2
        have hrk : r < k := by rw [hr]; exact H.out.2.1 k hk0 hlt
        obtain ⟨p, hp⟩ : ∃ p, p = meetF near far x (r + 1) r := ⟨_, rfl⟩
        have hpk : p < k := by have := (meet_ok hok (x := x) (Nat.lt_succ_self r) hrk).2.1; rw [← hp] at this; omega
        have HM := Lib.hid (fun j => (meet_any fb nb f n m k near far x r hm hkm hrk hok (wo.drewN j) (hN.drewN j).meet).mono (fun e w' (h : e = .returned (I ((meetF near far x (r + 1) r : Nat) : Int)) ∧ wo.drewN j = w') => (⟨by rw [hp]; exact h.1, h.2.symm⟩ : e = .returned (I (p : Int)) ∧ w' = wo.drewN j)))
        have hZ' : (Fl.nearF (fun i => fr.getD i 0) hf (m - (k + 1)) (k + 1) (near.set k p) (farN near far depth k p) (depth.set k (depth.getD p 0 + 1))).1 = Z := by
          rw [← hZ, show m - k = (m - (k + 1)) + 1 by omega, nearF_step (fun i => fr.getD i 0) hf _ k near far depth p (by rw [hp, ← hr, ← hx])]
        have hok' := hok.step (depth := depth) hk0 hlt hpk
        have d1 : (0 : Int) ≤ (k : Int) := by omega
        have d2 : (k : Int) < (m : Int) := by omega
        have d3 : (0 : Int) ≤ (p : Int) := by omega
        have d4 : (p : Int) < (m : Int) := by omega
        have HX := Lib.hid (And.intro hN (And.intro hok (And.intro hdp (And.intro hZ' (And.intro hok' (And.intro hpk (And.intro hlt hk0)))))))
        clear hlt hG hr hx hrk hp hpk hZ' hok' hN hok hdp hZ hk0 HST
        go_upto_region 7 with (fail)
        go_quiet ((go_at_call 70; exact Calls.quiet_of_same (HM.out _)))
        go_upto_region 8 with (fail)
        obtain ⟨V, hV⟩ : ∃ V, V = wo.drewN nq := ⟨_, rfl⟩
        have hN : NearG w fb nb f n d m near far depth V := by rw [hV]; exact HX.out.1.drewN nq
        rw [← hV]
        clear hV n0 x0 x2 y0 y2 HM
        have n0 := hN.bn.get 0 (.slice (some ⟨n, 0, none⟩) m m) rfl
        have f0 := hN.bf.get 0 (.slice (some ⟨f, 0, none⟩) m m) rfl
        have e0 := arrN_at hN.kd (j := p) (by rw [hN.lens.2.2]; have := HX.out.2.2.2.2.2.1; have := HX.out.2.2.2.2.2.2.1; omega)
        obtain ⟨u, hu⟩ : ∃ u, u = depth.getD p 0 := ⟨_, rfl⟩
        rw [← hu] at e0
        have hub : u ≤ 60000 := by rw [hu]; have := HX.out.2.2.1 p; omega
        have q1 := arrN_at hN.kn (j := k) (by rw [hN.lens.1]; exact HX.out.2.2.2.2.2.2.1)
        have q2 := arrN_at hN.kf (j := k) (by rw [hN.lens.2.1]; exact HX.out.2.2.2.2.2.2.1)
        have q3 := arrN_at hN.kd (j := k) (by rw [hN.lens.2.2]; exact HX.out.2.2.2.2.2.2.1)
        obtain ⟨m1, m2, m3⟩ := hN.n2
        have m4 := Ne.symm m1
        have m5 := Ne.symm m2
        have m6 := Ne.symm m3
        obtain ⟨k1, k2, k3, k4, k5, k6⟩ := hN.n1
        have k7 := Ne.symm k1
        have k8 := Ne.symm k2
        have k9 := Ne.symm k3
        have k10 := Ne.symm k4
        have k11 := Ne.symm k5
        have k12 := Ne.symm k6
        have g1 := hN.kn.free k
        have g2 := hN.kf.free k
        have g3 := hN.kd.free k
        have HU := Lib.hid (And.intro hu hN)
        clear hu hN
        go_cut [8, 9] from 23 to 92 (fun iv pv W => iv = I (k : Int) ∧ pv = I (p : Int) ∧ NearG w fb nb f n d m (near.set k p) (far.set k p) (depth.set k (u + 1)) W)
        case first =>
          as_aux_lemma =>
          go_region
          go_wp2_with fail
          go_meet
          case rel =>
            refine ⟨rfl, rfl, ?_⟩
            exact (((HU.out.2.setN k p).setF k p).setD k (u + 1)).drew
        case rest =>
          obtain ⟨rfl, rfl, hN⟩ := hcut
          obtain ⟨W2, rfl⟩ : ∃ W2, W2 = wc := ⟨_, rfl⟩
          clear n0 f0 e0 q1 q2 q3 g1 g2 g3
          have n0 := hN.bn.get 0 (.slice (some ⟨n, 0, none⟩) m m) rfl
          have f0 := hN.bf.get 0 (.slice (some ⟨f, 0, none⟩) m m) rfl
          have hF : ∀ q, (far.set k p).getD q 0 = if q = k then p else far.getD q 0 := fun q => Fl.getD_set' _ _ _ _ (by rw [HX.out.2.1.fl]; exact HX.out.2.2.2.2.2.2.1)
          have hpk := HX.out.2.2.2.2.2.1
          have hkm' := HX.out.2.2.2.2.2.2.1
          obtain ⟨q, hq⟩ : ∃ q, q = far.getD p 0 := ⟨_, rfl⟩
          have hqp : q ≤ p := by
            rw [hq]
            rcases Nat.eq_zero_or_pos p with e | e
            · rw [e, HX.out.2.1.f0]; exact Nat.zero_le _
            · exact Nat.le_of_lt (HX.out.2.1.flt p e hpk)
          have y1 := arrN_at hN.kf (j := p) (by rw [hN.lens.2.1]; omega)
          rw [hF, if_neg (by omega), ← hq] at y1
          obtain ⟨z, hz⟩ : ∃ z, z = (far.set k p).getD q 0 := ⟨_, rfl⟩
          have hzq : z ≤ q := by
            rw [hz, hF, if_neg (by omega)]
            rcases Nat.eq_zero_or_pos q with e | e
            · rw [e, HX.out.2.1.f0]; exact Nat.le_refl _
            · exact Nat.le_of_lt (HX.out.2.1.flt q e (by omega))
          have y2 := arrN_at hN.kf (j := q) (by rw [hN.lens.2.1]; omega)
          rw [← hz] at y2
          obtain ⟨A, hA⟩ : ∃ A, A = (depth.set k (u + 1)).getD p 0 := ⟨_, rfl⟩
          obtain ⟨B, hB⟩ : ∃ B, B = (depth.set k (u + 1)).getD q 0 := ⟨_, rfl⟩
          obtain ⟨C, hC⟩ : ∃ C, C = (depth.set k (u + 1)).getD z 0 := ⟨_, rfl⟩
          have y3 := arrN_at hN.kd (j := p) (by rw [hN.lens.2.2]; omega)
          have y4 := arrN_at hN.kd (j := q) (by rw [hN.lens.2.2]; omega)
          have y5 := arrN_at hN.kd (j := z) (by rw [hN.lens.2.2]; omega)
          rw [← hA] at y3
          rw [← hB] at y4
          rw [← hC] at y5
          have hd' := depth_set (x := u) HX.out.2.2.1 (by rw [HU.out.1]; exact HX.out.2.2.1 p)
          have hAb : A ≤ 60001 := by have := hd' p; rw [← hA] at this; omega
          have hBb : B ≤ 60001 := by have := hd' q; rw [← hB] at this; omega
          have hCb : C ≤ 60001 := by have := hd' z; rw [← hC] at this; omega
          have e1 : (0 : Int) ≤ (q : Int) := by omega
          have e2 : (q : Int) < (m : Int) := by omega
          have e3 : (0 : Int) ≤ (z : Int) := by omega
          have e4 : (z : Int) < (m : Int) := by omega
          have HQ := Lib.hid (And.intro hN (And.intro hq (And.intro hz (And.intro hA (And.intro hB (And.intro hC hd'))))))
          have HQ2 := Lib.hid (And.intro hqp (And.intro hzq (And.intro hpk hkm')))
          clear hN hq hz hA hB hC hd' hF hqp hzq hpk hkm'
          go_upto_region 10 with (fail)
          go_quiet (fail)
          go_upto_if 85 with (fail)
          obtain ⟨V2, hV2⟩ : ∃ V2, V2 = W2.drewN nq := ⟨_, rfl⟩
          have hN2 : NearG w fb nb f n d m (near.set k p) (far.set k p) (depth.set k (u + 1)) V2 := by rw [hV2]; exact HQ.out.1.drewN nq
          rw [← hV2]
          clear hV2 n0 f0 y1 y2 y3 y4 y5
          have f0 := hN2.bf.get 0 (.slice (some ⟨f, 0, none⟩) m m) rfl
          have y2 := arrN_at hN2.kf (j := q) (by rw [hN2.lens.2.1]; have := HQ2.out; omega)
          rw [← HQ.out.2.2.1] at y2
          have q2 := arrN_at hN2.kf (j := k) (by rw [hN2.lens.2.1]; exact HQ2.out.2.2.2)
          have g2 := hN2.kf.free k
          have hfar : Fl.farN near far depth k p = if (A : Int) - (B : Int) = (B : Int) - (C : Int) then (far.set k p).set k z else far.set k p := by
            unfold Fl.farN
            rw [← HU.out.1, ← HQ.out.2.1, ← HQ.out.2.2.1, ← HQ.out.2.2.2.1, ← HQ.out.2.2.2.2.1, ← HQ.out.2.2.2.2.2.1]
          have hdm : ∀ i, (depth.set k (u + 1)).getD i 0 ≤ k + 1 := HQ.out.2.2.2.2.2.2
          have hR := HX.out.2.2.2.2.1
          have hZ2 := HX.out.2.2.2.1
          rw [hfar] at hR hZ2
          rw [← HU.out.1] at hZ2
          have hkk := HQ2.out.2.2.2
          have HR := Lib.hid (And.intro hR (And.intro hZ2 (And.intro hdm (And.intro hN2 hkk))))
          clear hR hZ2 hdm hN2 hfar hkk
          by_cases hABC : (A : Int) - (B : Int) = (B : Int) - (C : Int)
          · have hb : ((A : Int) - (B : Int) == (B : Int) - (C : Int)) = true := by simpa using hABC
            obtain ⟨W9, hW9⟩ : ∃ W9, W9 = (V2.setCell ⟨f, k, none⟩ (I (z : Int))).drew := ⟨_, rfl⟩
            have FIN := Lib.hid (show NRel w fb nb f n d m fr hf Z (I ((k : Int) + 1)) W9 from
              ⟨k + 1, near.set k p, (far.set k p).set k z, depth.set k (u + 1), rfl, by omega, HR.out.2.2.2.2, by rw [hW9]; exact (HR.out.2.2.2.1.setF k z).drew, by have := HR.out.1; rw [if_pos hABC] at this; exact this, HR.out.2.2.1, by have := HR.out.2.1; rw [if_pos hABC] at this; exact this⟩)
            have HW9 := Lib.hid hW9
            clear hABC hW9
            as_aux_lemma =>
            go_wp2_with fail
            go_region
            change Exit.inBlock 1 (Exit.then _ _) _ _ (V2.setCell ⟨f, k, none⟩ (I (z : Int))).drew
            rw [← HW9.out]
            clear f0 y2 q2 g2 HW9
            go_wp2_with fail
            exact ⟨FIN.out, by simp [intOf]; omega⟩
          · have hb : ((A : Int) - (B : Int) == (B : Int) - (C : Int)) = false := by simpa using hABC
            have FIN := Lib.hid (show NRel w fb nb f n d m fr hf Z (I ((k : Int) + 1)) V2 from
              ⟨k + 1, near.set k p, far.set k p, depth.set k (u + 1), rfl, by omega, HR.out.2.2.2.2, HR.out.2.2.2.1, by have := HR.out.1; rw [if_neg hABC] at this; exact this, HR.out.2.2.1, by have := HR.out.2.1; rw [if_neg hABC] at this; exact this⟩)
            clear hABC
            as_aux_lemma =>
            go_wp2_with fail
            exact ⟨FIN.out, by simp [intOf]; omega⟩
      · have d0 : decide (k < m) = false := by simpa using hlt
        have FIN := Lib.hid (show NearT' w m Z wo (.returned (.slice (some ⟨n, 0, none⟩) m m)) from ⟨n, rfl, by
          have e : m - k = 0 := by omega
          rw [e] at hZ
          rw [← hZ]
          exact hN.kn, hN.lo.2.2.2.1, hN.bel⟩)
        clear hN hok hdp hZ HST
        go_wp2_with fail
        go_ret
        exact FIN.out
end Go.Proofs.Ytjlmkcamefaodaa
