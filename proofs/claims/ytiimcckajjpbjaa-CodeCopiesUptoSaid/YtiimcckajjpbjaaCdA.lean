/-
  A copy of code goes its own way: the body of the statement.
-/
import Derived.Test.YtiimcckajjpbjaaCdY
import Derived.Test.YtiimcckajjpbjaaCdN
import Derived.Test.YtiimcckajjpbjaaCdH
import Derived.Test.YtiimcckajjpbjaaCdK
namespace Go.Proofs.Ytiimcckajjpbjaa
open Go Go.RowKit Cd

theorem sumN_mem {α : Type} (f : α → Nat) : ∀ (l : List α) (i : Nat) (h : i < l.length), f l[i] ≤ sumN f l
  | a :: l, 0, _ => by simp [sumN]
  | a :: l, i + 1, h => by
    have := sumN_mem f l i (by simpa using h)
    simp [sumN] at this ⊢
    omega
theorem sumN_len {α : Type} (f : α → Nat) (h : ∀ x, 1 ≤ f x) : ∀ l : List α, l.length ≤ sumN f l
  | [] => by simp
  | a :: l => by
    have h1 := sumN_len f h l
    have h2 := h a
    simp [sumN] at h1 ⊢
    omega
theorem insts_small (l : List InstP) (n : Nat) (h : sumN instN l ≤ n) : l.length ≤ n ∧ ∀ i (hi : i < l.length), l[i].args.length ≤ n ∧ l[i].dbg.length ≤ n :=
  ⟨Nat.le_trans (sumN_len instN (fun x => by unfold instN; omega) l) h, fun i hi => by
    have : 1 + l[i].args.length + l[i].dbg.length ≤ sumN instN l := sumN_mem instN l i hi
    omega⟩
theorem ways_len (b : BlockP) : (waysB b).length ≤ 2 := by
  unfold waysB
  split
  · simp
  · split <;> simp
theorem few_small {c : CodeP} (h : fewB c = true) : SmallC c ∧ SmallK c := by
  unfold fewB at h
  rw [Bool.and_eq_true] at h
  have hT : totN c ≤ 3000 := by simpa using h.2
  unfold totN at hT
  have hs : ∀ i (hi : i < c.stops.length), c.stops[i].length ≤ 3000 := fun i hi => by have := sumN_mem List.length c.stops i hi; omega
  have hf : ∀ i (hi : i < c.funs.length), c.funs[i].blocks.length ≤ 3000 ∧ ∀ k (hk : k < c.funs[i].blocks.length), sumN instN c.funs[i].blocks[k].phis ≤ 3000 ∧ sumN instN c.funs[i].blocks[k].insts ≤ 3000 := fun i hi => by
    have h1 : c.funs[i].blocks.length + sumN blockN c.funs[i].blocks ≤ sumN funN c.funs := sumN_mem funN c.funs i hi
    refine ⟨by omega, fun k hk => ?_⟩
    have h2 : sumN instN c.funs[i].blocks[k].phis + sumN instN c.funs[i].blocks[k].insts ≤ sumN blockN c.funs[i].blocks := sumN_mem blockN c.funs[i].blocks k hk
    omega
  refine ⟨⟨by omega, by omega, fun i hi => by have := hs i hi; omega, fun i hi => ⟨by have := (hf i hi).1; omega, fun k hk => ?_⟩⟩, ⟨by omega, fun i hi => ⟨by have := (hf i hi).1; omega, fun k hk => ?_⟩⟩, by omega, fun i hi => by have := hs i hi; omega⟩
  · obtain ⟨h1, h2⟩ := (hf i hi).2 k hk
    have p := insts_small _ _ h1
    have q := insts_small _ _ h2
    exact ⟨⟨by omega, fun j hj => by have := p.2 j hj; omega⟩, by omega, fun j hj => by have := q.2 j hj; omega⟩
  · obtain ⟨h1, h2⟩ := (hf i hi).2 k hk
    have p := insts_small _ _ h1
    have q := insts_small _ _ h2
    exact ⟨⟨by omega, fun j hj => by have := p.2 j hj; omega⟩, by omega, fun j hj => by have := q.2 j hj; omega⟩

set_option maxRecDepth 100000 in
set_option maxHeartbeats 6400000 in
theorem copies_body (haw : ∀ w : World, Calls Try.prog 6 #[] w fun e w' => e = .returned (.bool true) ∧ Below w.heap.size w w') (v : Value) (c : CodeP) (hT : totN c ≤ 4000000) (w : World) (h : CodeZ w v c) :
    Calls Try.prog 4 #[v] w fun e w' => e = .returned (.bool true) ∧ Below w.heap.size w w' := by
  obtain ⟨fv, sv, rfl, hF, hS⟩ := h
  obtain ⟨fa, fc, rfl⟩ := hF.size
  obtain ⟨sa, sc, rfl⟩ := hS.size
  obtain ⟨nf, hnf⟩ : ∃ n, n = c.funs.length := ⟨_, rfl⟩
  obtain ⟨ns, hns⟩ : ∃ n, n = c.stops.length := ⟨_, rfl⟩
  rw [← hnf] at hF ⊢
  rw [← hns] at hS ⊢
  obtain ⟨b1, hb1⟩ : ∃ g, g = w.heap.size := ⟨_, rfl⟩
  obtain ⟨W1, hW1⟩ : ∃ W, W = w.alloc (.cells #[.slice fa nf fc, .slice sa ns sc, I c.main] 25) := ⟨_, rfl⟩
  have hB1 : Below w.heap.size w W1 := by rw [hW1]; exact (Below.refl _ _).alloc (Nat.le_refl _) _
  have k1 : Blk b1 #[.slice fa nf fc, .slice sa ns sc, I c.main] 25 W1 := by rw [hW1, hb1]; exact Blk.new _ _ _
  have H1 := Lib.hid (And.intro (hF.below funV_stays hB1) (And.intro (hS.below stopV_stays hB1) (And.intro hnf (And.intro hns (And.intro hT (And.intro hB1 k1))))))
  have HW1 := Lib.hid (And.intro hW1 hb1)
  have HAW := Lib.hid haw
  clear hF hS hnf hns hT hB1 k1 hW1 hb1 haw
  go_enter Try.func4, Try.ntmps4
  go_upto_region 1 with (fail)
  rw [← HW1.out.2]
  change Code.wp _ _ _ _ (w.alloc (.cells #[.slice fa nf fc, .slice sa ns sc, I c.main] 25))
  rw [← HW1.out.1]
  go_wp2_with fail
  refine (HAW.out W1).mono ?_
  rintro e w2 ⟨rfl, hb2⟩
  have k2 := H1.out.2.2.2.2.2.2.below hb2 H1.out.2.2.2.2.2.2.lt
  have a0 := k2.get 0 (.slice fa nf fc) rfl
  have a1 := k2.get 1 (.slice sa ns sc) rfl
  have a2 := k2.get 2 (I c.main) rfl
  have H2 := Lib.hid (And.intro (H1.out.1.below funV_stays hb2) (And.intro (H1.out.2.1.below stopV_stays hb2) (And.intro (below_tr H1.out.2.2.2.2.2.1 hb2) k2)))
  clear hb2 k2
  go_wp2_with fail
  refine (few_any _ c H1.out.2.2.2.2.1 w2 ⟨_, _, rfl, H2.out.1, H2.out.2.1⟩).mono ?_
  rintro e w3 ⟨rfl, hb3⟩
  clear a0 a1 a2
  have k3 := H2.out.2.2.2.below hb3 H2.out.2.2.2.lt
  have a0 := k3.get 0 (.slice fa nf fc) rfl
  have a1 := k3.get 1 (.slice sa ns sc) rfl
  have a2 := k3.get 2 (I c.main) rfl
  have H3 := Lib.hid (And.intro (H2.out.1.below funV_stays hb3) (And.intro (H2.out.2.1.below stopV_stays hb3) (And.intro (below_tr H2.out.2.2.1 hb3) k3)))
  clear hb3 k3
  obtain ⟨q, hq⟩ : ∃ q, q = fewB c := ⟨_, rfl⟩
  rw [← hq]
  cases q
  · clear hq
    go_wp2_with fail
    go_ret
    exact ⟨rfl, H3.out.2.2.1⟩
  have HSM := Lib.hid (few_small hq.symm)
  clear hq
  go_wp2_with fail
  refine (twin_any _ c HSM.out.1 w3 ⟨_, _, rfl, H3.out.1, H3.out.2.1⟩).mono ?_
  rintro e w4 ⟨u, rfl, hu, hb4⟩
  obtain ⟨mf, ms, rfl, hF, hS⟩ := hu
  obtain ⟨pa, pc, rfl⟩ := hF.size
  obtain ⟨qa, qc, rfl⟩ := hS.size
  rw [← H1.out.2.2.1] at hF ⊢
  rw [← H1.out.2.2.2.1] at hS ⊢
  clear a0 a1 a2
  obtain ⟨b3, hb3⟩ : ∃ g, g = w4.heap.size := ⟨_, rfl⟩
  obtain ⟨W5, hW5⟩ : ∃ W, W = w4.alloc (.cells #[.slice pa nf pc, .slice qa ns qc, I c.main] 25) := ⟨_, rfl⟩
  have hB5 : Below w4.heap.size w4 W5 := by rw [hW5]; exact (Below.refl _ _).alloc (Nat.le_refl _) _
  have hB35 := below_tr hb4 hB5
  have k5 := H3.out.2.2.2.below hB35 H3.out.2.2.2.lt
  have m5 : Blk b3 #[.slice pa nf pc, .slice qa ns qc, I c.main] 25 W5 := by rw [hW5, hb3]; exact Blk.new _ _ _
  have hFz : FunsZ W5 (.slice pa nf pc) c.funs := (hF.keep funV_stays (fun _ _ => rfl) (fun n hn => hn.1.2 : ∀ n, GeW w3.heap.size w4 n → LtW w4 n)).below funV_stays hB5
  have hSz : StopsZ W5 (.slice qa ns qc) c.stops := (hS.keep stopV_stays (fun _ _ => rfl) (fun n hn => hn.1.2 : ∀ n, GeW w3.heap.size w4 n → LtW w4 n)).below stopV_stays hB5
  have H5 := Lib.hid (And.intro (H3.out.1.below funV_stays hB35) (And.intro (H3.out.2.1.below stopV_stays hB35) (And.intro hFz (And.intro hSz (And.intro k5 (And.intro m5 (below_tr H3.out.2.2.1 hB35)))))))
  have HW5 := Lib.hid (And.intro hW5 hb3)
  have a0 := m5.get 0 (.slice pa nf pc) rfl
  have a1 := m5.get 1 (.slice qa ns qc) rfl
  have a2 := m5.get 2 (I c.main) rfl
  clear hb3 hW5 hB5 hB35 k5 m5 hFz hSz hF hS hb4
  go_upto_region 6 with (fail)
  rw [← HW5.out.2]
  change Code.wp _ _ _ _ (w4.alloc (.cells #[.slice pa nf pc, .slice qa ns qc, I c.main] 25))
  rw [← HW5.out.1]
  go_wp2_with fail
  refine (copy_any c HSM.out.2 pa qa nf pc ns qc W5 H5.out.2.2.1 H5.out.2.2.2.1).mono ?_
  rintro e w6 ⟨da, ea, dn, en, dc, ec, rfl, ⟨df, ds, heq, hDF, hDS⟩, hb6⟩
  obtain ⟨rfl, rfl⟩ : df = .slice da dn dc ∧ ds = .slice ea en ec := by
    injection heq with h1
    injection h1 with h1
    simp only [List.cons.injEq] at h1
    exact ⟨h1.1.symm, h1.2.1.symm⟩
  obtain rfl : nf = dn := by
    obtain ⟨a', c', e, _⟩ := hDF
    injection e with _ e2 _
    rw [e2, H1.out.2.2.1]
  obtain rfl : ns = en := by
    obtain ⟨a', c', e, _⟩ := hDS
    injection e with _ e2 _
    rw [e2, H1.out.2.2.2.1]
  clear heq a0 a1 a2
  obtain ⟨b4, hb4⟩ : ∃ g, g = w6.heap.size := ⟨_, rfl⟩
  obtain ⟨W7, hW7⟩ : ∃ W, W = w6.alloc (.cells #[.slice da nf dc, .slice ea ns ec, I c.main] 25) := ⟨_, rfl⟩
  have hB67 : Below w6.heap.size w6 W7 := by rw [hW7]; exact (Below.refl _ _).alloc (Nat.le_refl _) _
  have hB7 := below_tr hb6 hB67
  have k7 := H5.out.2.2.2.2.1.below hB7 H5.out.2.2.2.2.1.lt
  have d7 : Blk b4 #[.slice da nf dc, .slice ea ns ec, I c.main] 25 W7 := by rw [hW7, hb4]; exact Blk.new _ _ _
  have hF7 : SlS (FreeS (GeB W5.heap.size w6) W7) 4 FunV W7 (.slice da nf dc) c.funs := hDF.keepF funV_stays (fun n hn => hB67.block n hn.2) (fun _ h => h)
  have hS7 : SlS (FreeS (GeB W5.heap.size w6) W7) 1 StopV W7 (.slice ea ns ec) c.stops := hDS.keepF stopV_stays (fun n hn => hB67.block n hn.2) (fun _ h => h)
  have hlt7 : ∀ n, FreeS (GeB W5.heap.size w6) W7 n → LtW W7 n := fun n hn => by have h1 := hn.1.2; have h2 := hB67.size; unfold LtW; omega
  have H7 := Lib.hid (And.intro hF7 (And.intro hS7 (And.intro hB7 (And.intro k7 (And.intro d7 (And.intro hB67.size hlt7))))))
  have HW7 := Lib.hid (And.intro hW7 hb4)
  have a0 := d7.get 0 (.slice da nf dc) rfl
  have a1 := d7.get 1 (.slice ea ns ec) rfl
  have a2 := d7.get 2 (I c.main) rfl
  have c0 := k7.get 0 (.slice fa nf fc) rfl
  have c1 := k7.get 1 (.slice sa ns sc) rfl
  have c2 := k7.get 2 (I c.main) rfl
  clear hb4 hW7 hB67 hB7 k7 d7 hF7 hS7 hlt7 hDF hDS hb6
  go_upto_region 7 with (fail)
  rw [← HW7.out.2]
  change Code.wp _ _ _ _ (w6.alloc (.cells #[.slice da nf dc, .slice ea ns ec, I c.main] 25))
  rw [← HW7.out.1]
  go_wp2_with fail
  refine (same_any _ _ c HSM.out.1 W7 ⟨_, _, rfl, H7.out.1.keep funV_stays (fun _ _ => rfl) H7.out.2.2.2.2.2.2, H7.out.2.1.keep stopV_stays (fun _ _ => rfl) H7.out.2.2.2.2.2.2⟩ ⟨_, _, rfl, H5.out.1.below funV_stays H7.out.2.2.1, H5.out.2.1.below stopV_stays H7.out.2.2.1⟩).mono ?_
  rintro e w8 ⟨rfl, hb8⟩
  clear a0 a1 a2 c0 c1 c2
  have k8 := H7.out.2.2.2.1.below hb8 H7.out.2.2.2.1.lt
  have H8 := Lib.hid (And.intro hb8 (And.intro (below_tr H7.out.2.2.1 hb8) (And.intro k8 hb8.size)))
  have c0 := k8.get 0 (.slice fa nf fc) rfl
  have hnfb : (nf : Int) ≤ 3000000 := by have := HSM.out.2.1.1; have := H1.out.2.2.1; omega
  have hnsb : (ns : Int) ≤ 3000000 := by have := HSM.out.2.2.1; have := H1.out.2.2.2.1; omega
  clear k8 hb8
  go_wp2_with fail
  go_loopw [34] (fun iv W => ∃ i : Nat, i ≤ nf ∧ iv = I (i : Int) ∧ Below w8.heap.size w8 W) (fun iv _ => nf - (intOf iv).toNat)
  case atStart => exact ⟨0, Nat.zero_le _, rfl, Below.refl _ _⟩
  case round =>
    obtain ⟨i, hi, rfl, hb⟩ := hrel
    obtain ⟨wo, rfl⟩ : ∃ W : World, W = wr := ⟨_, rfl⟩
    clear c0
    have hbo := below_tr H8.out.2.1 hb
    by_cases hlt : i < nf
    · have il : i < c.funs.length := by rw [← H1.out.2.2.1]; exact hlt
      obtain ⟨g, _, rfl, gl, c0, bv, rfl, hbz⟩ := (H5.out.1.below funV_stays hbo).at i il
      obtain ⟨g', _, rfl, gl', c0', bv', rfl, hbz'⟩ := (H5.out.2.2.1.below funV_stays hbo).at i il
      obtain ⟨ba, bc, rfl⟩ := hbz.size
      obtain ⟨ba', bc', rfl⟩ := hbz'.size
      have hfb := (HSM.out.2.1.2 i il).1
      obtain ⟨f, hf⟩ : ∃ f, f = c.funs[i] := ⟨_, rfl⟩
      rw [← hf] at c0 c0' hbz hbz' hfb
      obtain ⟨L, hL⟩ : ∃ n, n = f.blocks.length := ⟨_, rfl⟩
      rw [← hL] at c0 c0' hbz hbz'
      have x0 := c0.f0
      have x1 := c0.f1
      have x2 := c0.f2
      have x3 := c0.f3
      have d0 : decide (i < nf) = true := by simpa using hlt
      have d1 : (0 : Int) ≤ (i : Int) := by omega
      have d2 : (i : Int) < (nf : Int) := by omega
      have km := H5.out.2.2.2.2.2.1.below hbo H5.out.2.2.2.2.2.1.lt
      have HR := Lib.hid (And.intro hlt (And.intro hb (And.intro hbo (And.intro gl' (And.intro c0' (And.intro hbz (And.intro hbz' (And.intro hfb km))))))))
      clear c0 c0' hbz hbz' hfb hf hL il hlt hb hbo hi gl gl' km
      obtain ⟨b6, hb6⟩ : ∃ g, g = wo.heap.size := ⟨_, rfl⟩
      obtain ⟨W9, hW9⟩ : ∃ W, W = wo.alloc (.cells #[I f.params, I f.vars, I f.vals, .slice ba L bc] 35) := ⟨_, rfl⟩
      have hB9 : Below wo.heap.size wo W9 := by rw [hW9]; exact (Below.refl _ _).alloc (Nat.le_refl _) _
      have k9 : Blk b6 #[I f.params, I f.vars, I f.vals, .slice ba L bc] 35 W9 := by rw [hW9, hb6]; exact Blk.new _ _ _
      have m9 := HR.out.2.2.2.2.2.2.2.2.below hB9 HR.out.2.2.2.2.2.2.2.2.lt
      have e9 := HR.out.2.2.2.2.1.keep (hB9.block _ HR.out.2.2.2.1)
      have y0 := e9.f0
      have y1 := e9.f1
      have y2 := e9.f2
      have y3 := e9.f3
      have n0 := m9.get 0 (.slice (some g') nf pc) rfl
      have H9 := Lib.hid (And.intro hB9 k9)
      have HW9 := Lib.hid (And.intro hW9 hb6)
      clear hb6 hW9 hB9 k9 m9 e9
      go_upto_region 12 with (fail)
      rw [← HW9.out.2]
      change Code.wp _ _ _ _ (wo.alloc (.cells #[I f.params, I f.vars, I f.vals, .slice ba L bc] 35))
      rw [← HW9.out.1]
      clear x0 x1 x2 x3
      go_wp2_with fail
      refine (graph_any f HR.out.2.2.2.2.2.2.2.1 ba' L bc' W9 (HR.out.2.2.2.2.2.2.1.below blockV_stays H9.out.1)).mono ?_
      rintro e w10 ⟨r1, rfl, hr1, hb10⟩
      have k10 := H9.out.2.below hb10 H9.out.2.lt
      have z0 := k10.get 0 (I f.params) rfl
      have z1 := k10.get 1 (I f.vars) rfl
      have z2 := k10.get 2 (I f.vals) rfl
      have z3 := k10.get 3 (.slice ba L bc) rfl
      have H10 := Lib.hid (And.intro hr1 (below_tr H9.out.1 hb10))
      clear hr1 hb10 k10 y0 y1 y2 y3 n0
      go_wp2_with fail
      refine (refGraph_any f HR.out.2.2.2.2.2.2.2.1 ba L bc w10 (HR.out.2.2.2.2.2.1.below blockV_stays H10.out.2)).mono ?_
      rintro e w11 ⟨r2, rfl, hr2, hb11⟩
      have H11 := Lib.hid (And.intro hr2 (And.intro hb11 (below_tr H10.out.2 hb11)))
      clear hr2 hb11 z0 z1 z2 z3
      go_wp2_with fail
      refine (sameL_any _ _ (f.blocks.map waysB) (by rw [List.length_map]; exact HR.out.2.2.2.2.2.2.2.1) (fun j hj => by rw [List.getElem_map]; have := ways_len (f.blocks[j]'(by simpa using hj)); omega) w11 (H10.out.1.below rowV_stays H11.out.2.1) H11.out.1).mono ?_
      rintro e w12 ⟨rfl, hb12⟩
      have H12 := Lib.hid (below_tr (below_tr HR.out.2.1 H11.out.2.2) hb12)
      clear hb12
      go_wp2_with fail
      exact ⟨⟨i + 1, HR.out.1, rfl, H12.out⟩, by have := HR.out.1; simp [intOf]; omega⟩
    · have d0 : decide (i < nf) = false := by simpa using hlt
      obtain ⟨WA, hWA⟩ : ∃ W : World, W = wo := ⟨_, rfl⟩
      subst hWA
      have dA := H7.out.2.2.2.2.1.below (below_tr H8.out.1 hb) H7.out.2.2.2.2.1.lt
      have a0 := dA.get 0 (.slice da nf dc) rfl
      have a1 := dA.get 1 (.slice ea ns ec) rfl
      have hb7A := below_tr H8.out.1 hb
      have dFA : SlS (FreeS (GeB W5.heap.size w6) WA) 4 FunV WA (.slice da nf dc) c.funs := H7.out.1.keepF funV_stays (fun n hn => hb7A.block n (by have h1 := hn.2; have h2 := H7.out.2.2.2.2.2.1; omega)) (fun _ h => h)
      have dSA : SlS (FreeS (GeB W5.heap.size w6) WA) 1 StopV WA (.slice ea ns ec) c.stops := H7.out.2.1.keepF stopV_stays (fun n hn => hb7A.block n (by have h1 := hn.2; have h2 := H7.out.2.2.2.2.2.1; omega)) (fun _ h => h)
      have hgA : Blk b4 #[.slice da nf dc, .slice ea ns ec, I c.main] 25 WA := dA
      have HA := Lib.hid (And.intro dFA (And.intro dSA (And.intro hgA hbo)))
      clear hb7A dFA dSA hgA dA hlt hi hb hbo
      go_wp2_with fail
      go_loopw [54] (fun iv W => ∃ i : Nat, i ≤ ns ∧ iv = I (i : Int) ∧ SimW W5.heap.size WA W) (fun iv _ => ns - (intOf iv).toNat)
      case atStart => exact ⟨0, Nat.zero_le _, rfl, SimW.refl _ _⟩
      case round =>
        obtain ⟨i2, hi2, rfl, hs2⟩ := hrel
        obtain ⟨wo2, rfl⟩ : ∃ W : World, W = wr := ⟨_, rfl⟩
        clear a0 a1
        by_cases hlt2 : i2 < ns
        · have il2 : i2 < c.stops.length := by rw [← H1.out.2.2.2.1]; exact hlt2
          obtain ⟨g2, _, rfl, gl2, c2, sl, rfl, hsl⟩ := HA.out.2.1.at i2 il2
          obtain ⟨la, lc, rfl⟩ := hsl.size
          have hlb := HSM.out.2.2.2 i2 il2
          obtain ⟨l, hl⟩ : ∃ z, z = c.stops[i2] := ⟨_, rfl⟩
          rw [← hl] at c2 hsl hlb
          obtain ⟨L2, hL2⟩ : ∃ n, n = l.length := ⟨_, rfl⟩
          rw [← hL2] at c2 hsl hlb
          rw [Nat.mul_one] at c2
          have a1 := hs2.slice (HA.out.2.2.1.get 1 (.slice (some g2) ns ec) rfl)
          have x0 := hs2.slice c2.f0
          have hLb : (L2 : Int) ≤ 1000000 := by omega
          have d0 : decide (i2 < ns) = true := by simpa using hlt2
          have d1 : (0 : Int) ≤ (i2 : Int) := by omega
          have d2 : (i2 : Int) < (ns : Int) := by omega
          have HT := Lib.hid (And.intro hlt2 (And.intro hs2 (And.intro c2 (And.intro hsl hL2))))
          clear c2 hl hL2 hsl hlb il2 hlt2 hs2 hi2 gl2
          go_wp2_with fail
          go_loopw [63] (fun kv W => ∃ k : Nat, k ≤ L2 ∧ kv = I (k : Int) ∧ SimW W5.heap.size WA W) (fun kv _ => L2 - (intOf kv).toNat)
          case atStart => exact ⟨0, Nat.zero_le _, rfl, HT.out.2.1⟩
          case round =>
            obtain ⟨k, hk, rfl, hs3⟩ := hrel
            clear a1 x0
            by_cases hkL : k < L2
            · have kl : k < l.length := by rw [← HT.out.2.2.2.2]; exact hkL
              obtain ⟨g3, _, rfl, gl3, c3, e3⟩ := HT.out.2.2.2.1.at k kl
              obtain rfl := e3
              unfold encS at c3
              have a1 := hs3.slice (HA.out.2.2.1.get 1 (.slice (some g2) ns ec) rfl)
              have x0 := hs3.slice HT.out.2.2.1.f0
              obtain ⟨y, z0⟩ := hs3.int c3.f0
              have f0 := hs3.thaw (p := g3.add (k * 2)) (by rw [addB_blk]; exact gl3.2)
              have e0 : decide (k < L2) = true := by simpa using hkL
              have e1 : (0 : Int) ≤ (k : Int) := by omega
              have e2 : (k : Int) < (L2 : Int) := by omega
              have HK := Lib.hid (And.intro hkL (And.intro hs3 (And.intro z0 (show W5.heap.size ≤ (g3.add (k * 2)).block by rw [addB_blk]; exact gl3.1.1))))
              clear c3 kl hkL hs3 hk gl3
              go_wp2_with fail
              exact ⟨⟨k + 1, HK.out.1, rfl, HK.out.2.1.tr (SimW.set HK.out.2.2.2 HK.out.2.2.1 _)⟩, by have := HK.out.1; simp [intOf]; omega⟩
            · have e0 : decide (k < L2) = false := by simpa using hkL
              have FIN := Lib.hid hs3
              clear hkL hk hs3
              go_wp2_with fail
              exact ⟨⟨i2 + 1, HT.out.1, rfl, FIN.out⟩, by have := HT.out.1; simp [intOf]; omega⟩
        · have d0 : decide (i2 < ns) = false := by simpa using hlt2
          have a0 := hs2.slice (HA.out.2.2.1.get 0 (.slice da nf dc) rfl)
          have HT := Lib.hid hs2
          clear hlt2 hs2 hi2
          go_wp2_with fail
          go_loopw [83] (fun iv W => ∃ i : Nat, i ≤ nf ∧ iv = I (i : Int) ∧ SimW W5.heap.size WA W) (fun iv _ => nf - (intOf iv).toNat)
          case atStart => exact ⟨0, Nat.zero_le _, rfl, HT.out⟩
          case round =>
            obtain ⟨i3, hi3, rfl, hs3⟩ := hrel
            obtain ⟨wo3, rfl⟩ : ∃ W : World, W = wr := ⟨_, rfl⟩
            clear a0
            by_cases hlt3 : i3 < nf
            · have il3 : i3 < c.funs.length := by rw [← H1.out.2.2.1]; exact hlt3
              obtain ⟨g3, _, rfl, gl3, c3, bv, rfl, hbz⟩ := HA.out.1.at i3 il3
              obtain ⟨ba, bc, rfl⟩ := hbz.size
              have hfb := HSM.out.2.1.2 i3 il3
              obtain ⟨f, hf⟩ : ∃ f, f = c.funs[i3] := ⟨_, rfl⟩
              rw [← hf] at c3 hbz hfb
              obtain ⟨L, hL⟩ : ∃ n, n = f.blocks.length := ⟨_, rfl⟩
              rw [← hL] at c3 hbz
              have a0 := hs3.slice (HA.out.2.2.1.get 0 (.slice (some g3) nf dc) rfl)
              have x3 := hs3.slice c3.f3
              have hLb : (L : Int) ≤ 1000000 := by have := hfb.1; omega
              have d0 : decide (i3 < nf) = true := by simpa using hlt3
              have d1 : (0 : Int) ≤ (i3 : Int) := by omega
              have d2 : (i3 : Int) < (nf : Int) := by omega
              have H4 := Lib.hid (And.intro hlt3 (And.intro hs3 (And.intro c3.f3 (And.intro hbz (And.intro hL hfb)))))
              clear c3 hf hL hbz hfb il3 hlt3 hs3 hi3 gl3 HT
              go_wp2_with fail
              go_loopw [93] (fun kv W => ∃ k : Nat, k ≤ L ∧ kv = I (k : Int) ∧ SimW W5.heap.size WA W) (fun kv _ => L - (intOf kv).toNat)
              case atStart => exact ⟨0, Nat.zero_le _, rfl, H4.out.2.1⟩
              case round =>
                obtain ⟨k, hk, rfl, hs4⟩ := hrel
                obtain ⟨wo4, rfl⟩ : ∃ W : World, W = wr := ⟨_, rfl⟩
                clear a0 x3
                by_cases hkL : k < L
                · have kl : k < f.blocks.length := by rw [← H4.out.2.2.2.2.1]; exact hkL
                  obtain ⟨g4, _, rfl, gl4, c4, pv, iv, rfl, hpz, hiz⟩ := H4.out.2.2.2.1.at k kl
                  obtain ⟨pa, pc, rfl⟩ := hpz.size
                  obtain ⟨ia, ic, rfl⟩ := hiz.size
                  have hbk := H4.out.2.2.2.2.2.2 k kl
                  obtain ⟨bk, hbk'⟩ : ∃ x, x = f.blocks[k] := ⟨_, rfl⟩
                  rw [← hbk'] at c4 hpz hiz hbk
                  obtain ⟨P, hP⟩ : ∃ n, n = bk.phis.length := ⟨_, rfl⟩
                  obtain ⟨J, hJ⟩ : ∃ n, n = bk.insts.length := ⟨_, rfl⟩
                  rw [← hP] at c4 hpz
                  rw [← hJ] at c4 hiz
                  have a0 := hs4.slice (HA.out.2.2.1.get 0 (.slice (some g3) nf dc) rfl)
                  have x3 := hs4.slice H4.out.2.2.1
                  obtain ⟨y, z2⟩ := hs4.int c4.f2
                  have f2 := hs4.thaw (p := ⟨(g4.add (k * 6)).block, (g4.add (k * 6)).off + 2, none⟩) (by rw [addB_blk]; exact gl4.2)
                  have hge : W5.heap.size ≤ (g4.add (k * 6)).block := by rw [addB_blk]; exact gl4.1.1
                  have e0 : decide (k < L) = true := by simpa using hkL
                  have e1 : (0 : Int) ≤ (k : Int) := by omega
                  have e2 : (k : Int) < (L : Int) := by omega
                  have HK := Lib.hid (And.intro hkL (And.intro hs4 (And.intro z2 (And.intro hge (And.intro c4.f0 (And.intro c4.f1 (And.intro hpz (And.intro hiz (And.intro hP (And.intro hJ hbk))))))))))
                  clear c4 kl hkL hs4 hk gl4 hge hpz hiz hP hJ hbk hbk'
                  go_upto_region 33 with (fail)
                  obtain ⟨V, hV⟩ : ∃ V, V = wo4.setCell ⟨(g4.add (k * 6)).block, (g4.add (k * 6)).off + 2, none⟩ (Value.int IntKind.u8 (bits BinOp.xor IntKind.u8 y 1)) := ⟨_, rfl⟩
                  have hsV : SimW W5.heap.size WA V := by rw [hV]; exact HK.out.2.1.tr (SimW.set (a := ⟨(g4.add (k * 6)).block, (g4.add (k * 6)).off + 2, none⟩) HK.out.2.2.2.1 HK.out.2.2.1 _)
                  have p0 := hsV.slice HK.out.2.2.2.2.1
                  have p1 := hsV.slice HK.out.2.2.2.2.2.1
                  have hgV := World.block_lt_of_cell? _ _ p0
                  have hBV : ∀ ob, Below V.heap.size V (V.drew.alloc ob) := fun ob => ((Below.refl _ _).drew).alloc (Nat.le_refl _) ob
                  have HS0 := Lib.hid (show V.drew.cell? (g4.add (k * 6)) = some (.slice pa P pc) ∧ V.drew.cell? ⟨(g4.add (k * 6)).block, (g4.add (k * 6)).off + 1, none⟩ = some (.slice ia J ic) from ⟨p0, p1⟩)
                  have HSA := Lib.hid (fun ob => show (V.drew.alloc ob).cell? (g4.add (k * 6)) = some (.slice pa P pc) ∧ (V.drew.alloc ob).cell? ⟨(g4.add (k * 6)).block, (g4.add (k * 6)).off + 1, none⟩ = some (.slice ia J ic) from ⟨cellA_below (hBV ob) hgV p0, cellA_below (a := ⟨(g4.add (k * 6)).block, (g4.add (k * 6)).off + 1, none⟩) (hBV ob) hgV p1⟩)
                  obtain ⟨V2, hV2⟩ : ∃ W, W = (V.alloc (.cells #[.slice pa P pc, .slice ia J ic] 43)).drew := ⟨_, rfl⟩
                  have hs5 : SimW W5.heap.size WA V2 := hsV.tr (by rw [hV2]; exact SimW.grow (((Below.refl _ _).alloc (Nat.le_refl _) _).drew) (by have := HK.out.2.2.2.1; omega))
                  have k5 : Blk V.heap.size #[.slice pa P pc, .slice ia J ic] 43 V2 := by rw [hV2]; exact Blk.new V _ _
                  have HV := Lib.hid (And.intro hs5 k5)
                  have HV2 := Lib.hid hV2
                  change Code.wp _ _ _ _ (wo4.setCell ⟨(g4.add (k * 6)).block, (g4.add (k * 6)).off + 2, none⟩ (Value.int IntKind.u8 (bits BinOp.xor IntKind.u8 y 1)))
                  rw [← hV]
                  clear hV hsV p0 p1 hgV hBV hV2 hs5 k5 a0 x3 z2 f2
                  refine wp_region_dep (S := fun w' => w'.cell? (g4.add (k * 6)) = some (.slice pa P pc) ∧ w'.cell? ⟨(g4.add (k * 6)).block, (g4.add (k * 6)).off + 1, none⟩ = some (.slice ia J ic)) (dep := []) (by kernel_rfl) ?_
                  change wpAnyD _ _ _ _ _ _ _ _ _ (World.drew _)
                  have hS := HS0.out
                  refine wpAnyD_take (i := 0) (v := ?_) rfl (by kernel_rfl) (by kernel_rfl) (by kernel_rfl) (by kernel_rfl) (by kernel_rfl) (fun _ _ _ h => h) hS (Or.inl ⟨by rfl, ?_⟩) ?_
                  rotate_left
                  · intro w hSw; obtain ⟨s1, s2⟩ := hSw; go_simp
                    try with_reducible rfl
                  try simp only [Act.put, List.setIfInBounds_toArray, List.set_cons_zero, List.set_cons_succ]
                  refine wpAnyD_take (i := 1) (v := ?_) rfl (by kernel_rfl) (by kernel_rfl) (by kernel_rfl) (by kernel_rfl) (by kernel_rfl) (fun _ _ _ h => h) hS (Or.inl ⟨by rfl, ?_⟩) ?_
                  rotate_left
                  · intro w hSw; obtain ⟨s1, s2⟩ := hSw; go_simp
                    try with_reducible rfl
                  try simp only [Act.put, List.setIfInBounds_toArray, List.set_cons_zero, List.set_cons_succ]
                  refine wpAnyD_take (i := 2) (v := ?_) rfl (by kernel_rfl) (by kernel_rfl) (by kernel_rfl) (by kernel_rfl) (by kernel_rfl) (fun _ _ _ h => h) hS (Or.inl ⟨by rfl, ?_⟩) ?_
                  rotate_left
                  · intro w hSw; obtain ⟨s1, s2⟩ := hSw; go_simp
                    try with_reducible rfl
                  try simp only [Act.put, List.setIfInBounds_toArray, List.set_cons_zero, List.set_cons_succ]
                  refine wpAnyD_take (i := 3) (v := ?_) rfl (by kernel_rfl) (by kernel_rfl) (by kernel_rfl) (by kernel_rfl) (by kernel_rfl) (fun _ _ _ h => h) hS (Or.inl ⟨by rfl, ?_⟩) ?_
                  rotate_left
                  · intro w hSw; obtain ⟨s1, s2⟩ := hSw; go_simp
                    try with_reducible rfl
                  try simp only [Act.put, List.setIfInBounds_toArray, List.set_cons_zero, List.set_cons_succ]
                  refine wpAnyD_take (i := 4) (v := ?_) rfl (by kernel_rfl) (by kernel_rfl) (by kernel_rfl) (by kernel_rfl) (by kernel_rfl) (fun _ _ _ h => h) hS (Or.inl ⟨by rfl, ?_⟩) ?_
                  rotate_left
                  · intro w hSw; obtain ⟨s1, s2⟩ := hSw; go_simp
                    try with_reducible rfl
                  try simp only [Act.put, List.setIfInBounds_toArray, List.set_cons_zero, List.set_cons_succ]
                  refine wpAnyD_take (i := 5) (v := ?_) rfl (by kernel_rfl) (by kernel_rfl) (by kernel_rfl) (by kernel_rfl) (by kernel_rfl) (fun _ _ _ h => h) hS (Or.inl ⟨by rfl, ?_⟩) ?_
                  rotate_left
                  · intro w hSw; obtain ⟨s1, s2⟩ := hSw; go_simp
                    try with_reducible rfl
                  try simp only [Act.put, List.setIfInBounds_toArray, List.set_cons_zero, List.set_cons_succ]
                  refine wpAnyD_take (i := 6) (v := ?_) rfl (by kernel_rfl) (by kernel_rfl) (by kernel_rfl) (by kernel_rfl) (by kernel_rfl) (fun _ _ _ h => h) hS (Or.inl ⟨by rfl, ?_⟩) ?_
                  rotate_left
                  · intro w hSw; obtain ⟨s1, s2⟩ := hSw; go_simp
                    try with_reducible rfl
                  try simp only [Act.put, List.setIfInBounds_toArray, List.set_cons_zero, List.set_cons_succ]
                  refine wpAnyD_take (i := 7) (v := ?_) rfl (by kernel_rfl) (by kernel_rfl) (by kernel_rfl) (by kernel_rfl) (by kernel_rfl) (fun _ _ _ h => h) hS (Or.inl ⟨by rfl, ?_⟩) ?_
                  rotate_left
                  · intro w hSw; obtain ⟨s1, s2⟩ := hSw; go_simp
                    try with_reducible rfl
                  try simp only [Act.put, List.setIfInBounds_toArray, List.set_cons_zero, List.set_cons_succ]
                  refine wpAnyD_take (i := 10) (v := ?_) rfl (by kernel_rfl) (by kernel_rfl) (by kernel_rfl) (by kernel_rfl) (by kernel_rfl) (fun _ _ _ h => h) hS (Or.inl ⟨by rfl, ?_⟩) ?_
                  rotate_left
                  · intro w hSw; obtain ⟨s1, s2⟩ := hSw; go_simp
                    try with_reducible rfl
                  try simp only [Act.put, List.setIfInBounds_toArray, List.set_cons_zero, List.set_cons_succ]
                  clear hS
                  refine wpAnyD_one (i := 8) rfl (by kernel_rfl) rfl (fun K hK => ?_)
                  go_simp
                  refine hK _ _ (Or.inr (HSA.out _)) ?_
                  clear hK K
                  try simp only [Act.put, List.setIfInBounds_toArray, List.set_cons_zero, List.set_cons_succ]
                  refine wpAnyD_one (i := 9) rfl (by kernel_rfl) rfl (fun K hK => ?_)
                  go_simp
                  refine hK _ _ (Or.inr (HSA.out _)) ?_
                  clear hK K
                  try simp only [Act.put, List.setIfInBounds_toArray, List.set_cons_zero, List.set_cons_succ]
                  refine wpAnyD_done (by kernel_rfl) ?_ _
                  go_wp2_with fail
                  go_loopw [121] (fun mv W => ∃ m : Nat, m ≤ 2 ∧ mv = I (m : Int) ∧ SimW W5.heap.size V2 W) (fun mv _ => 2 - (intOf mv).toNat)
                  case atStart => exact ⟨0, Nat.zero_le _, rfl, by rw [← HV2.out]; exact SimW.refl _ _⟩
                  case round =>
                    obtain ⟨m, hm, rfl, hs6⟩ := hrel
                    obtain ⟨wo6, rfl⟩ : ∃ W : World, W = wr := ⟨_, rfl⟩
                    clear HS0 HSA
                    by_cases hm2 : m < 2
                    · obtain ⟨la, Ln, lc, ls, hcell, hls, hlen, hsm⟩ : ∃ la Ln lc, ∃ ls : List InstP, wo6.cell? ⟨V.heap.size, m, none⟩ = some (.slice la Ln lc) ∧ SlS (FreeS (GeB W5.heap.size w6) WA) 6 InstV WA (.slice la Ln lc) ls ∧ Ln = ls.length ∧ SmallJ ls := by
                        rcases (by omega : m = 0 ∨ m = 1) with rfl | rfl
                        · exact ⟨pa, P, pc, bk.phis, hs6.slice (HV.out.2.get 0 _ rfl), HK.out.2.2.2.2.2.2.1, HK.out.2.2.2.2.2.2.2.2.1, HK.out.2.2.2.2.2.2.2.2.2.2.1⟩
                        · exact ⟨ia, J, ic, bk.insts, hs6.slice (HV.out.2.get 1 _ rfl), HK.out.2.2.2.2.2.2.2.1, HK.out.2.2.2.2.2.2.2.2.2.1, HK.out.2.2.2.2.2.2.2.2.2.2.2⟩
                      have e0 : decide ((m : Int) < 2) = true := by simp; omega
                      have e1 : (0 : Int) ≤ (m : Int) := by omega
                      have e2 : (m : Int) < 2 := by omega
                      have hLn : (Ln : Int) ≤ 1000000 := by have := hsm.1; omega
                      have H6 := Lib.hid (And.intro hm2 (And.intro hs6 (And.intro hls (And.intro hlen hsm))))
                      clear hm2 hm hs6 hls hlen hsm
                      go_wp2_with fail
                      clear hcell
                      go_loopw [127] (fun jv W => ∃ j : Nat, j ≤ Ln ∧ jv = I (j : Int) ∧ SimW W5.heap.size V2 W) (fun jv _ => Ln - (intOf jv).toNat)
                      case atStart => exact ⟨0, Nat.zero_le _, rfl, H6.out.2.1⟩
                      case round =>
                        obtain ⟨j, hj, rfl, hs7⟩ := hrel
                        obtain ⟨wo7, rfl⟩ : ∃ W : World, W = wr := ⟨_, rfl⟩
                        by_cases hjL : j < Ln
                        · have jl : j < ls.length := by rw [← H6.out.2.2.2.1]; exact hjL
                          obtain ⟨g5, _, rfl, gl5, c5, av, dv, rfl, haz, hdz⟩ := H6.out.2.2.1.at j jl
                          obtain ⟨aa, ac, rfl⟩ := haz.size
                          obtain ⟨dda, ddc, rfl⟩ := hdz.size
                          have hbx := H6.out.2.2.2.2.2 j jl
                          obtain ⟨x, hx⟩ : ∃ x, x = ls[j] := ⟨_, rfl⟩
                          rw [← hx] at c5 haz hdz hbx
                          obtain ⟨A, hA⟩ : ∃ n, n = x.args.length := ⟨_, rfl⟩
                          obtain ⟨D, hD⟩ : ∃ n, n = x.dbg.length := ⟨_, rfl⟩
                          rw [← hA] at c5 haz hbx
                          rw [← hD] at c5 hdz hbx
                          have hsW := HV.out.1.tr hs7
                          obtain ⟨y1, z0⟩ := hsW.int c5.f0
                          have f0 := hsW.thaw (p := g5.add (j * 6)) (by rw [addB_blk]; exact gl5.2)
                          have e0 : decide (j < Ln) = true := by simpa using hjL
                          have e1 : (0 : Int) ≤ (j : Int) := by omega
                          have e2 : (j : Int) < (Ln : Int) := by omega
                          have hAb : (A : Int) ≤ 1000000 := by have := hbx.1; omega
                          have hDb : (D : Int) ≤ 1000000 := by have := hbx.2; omega
                          obtain ⟨V3, hV3⟩ : ∃ W, W = wo7.setCell (g5.add (j * 6)) (Value.int IntKind.u8 (bits BinOp.xor IntKind.u8 y1 1)) := ⟨_, rfl⟩
                          have hs8 : SimW W5.heap.size WA V3 := by rw [hV3]; exact hsW.tr (SimW.set (by rw [addB_blk]; exact gl5.1.1) z0 _)
                          have hs8' : SimW W5.heap.size V2 V3 := by rw [hV3]; exact hs7.tr (SimW.set (by rw [addB_blk]; exact gl5.1.1) z0 _)
                          have H7' := Lib.hid (And.intro hjL (And.intro hs8' (And.intro c5.f2 (And.intro c5.f5 (And.intro haz (And.intro hdz (And.intro hA (And.intro hD hs8))))))))
                          have HV3 := Lib.hid hV3
                          clear c5 haz hdz hA hD hbx hx jl hjL hj hs7 hsW gl5 hs8 hs8' hV3
                          go_upto_region 40 with (fail)
                          change Code.wp _ _ _ _ (wo7.setCell (g5.add (j * 6)) (Value.int IntKind.u8 (bits BinOp.xor IntKind.u8 y1 1)))
                          rw [← HV3.out]
                          clear z0 f0
                          have q2 := H7'.out.2.2.2.2.2.2.2.2.slice H7'.out.2.2.1
                          go_wp2_with fail
                          go_loopw [144] (fun nv W => ∃ n : Nat, n ≤ A ∧ nv = I (n : Int) ∧ SimW W5.heap.size V3 W) (fun nv _ => A - (intOf nv).toNat)
                          case atStart => exact ⟨0, Nat.zero_le _, rfl, SimW.refl _ _⟩
                          case round =>
                            obtain ⟨n, hn, rfl, hs9⟩ := hrel
                            clear q2
                            have hsX := H7'.out.2.2.2.2.2.2.2.2.tr hs9
                            by_cases hnA : n < A
                            · have nl : n < x.args.length := by rw [← H7'.out.2.2.2.2.2.2.1]; exact hnA
                              obtain ⟨g6, _, rfl, gl6, c6, e6⟩ := H7'.out.2.2.2.2.1.at n nl
                              obtain rfl := e6
                              unfold encI at c6
                              rw [Nat.mul_one] at c6
                              have q2 := hsX.slice H7'.out.2.2.1
                              obtain ⟨y2, z6⟩ := hsX.int c6.f0
                              have f6 := hsX.thaw (p := g6.add n) (by rw [addB_blk]; exact gl6.2)
                              have b0 : decide (n < A) = true := by simpa using hnA
                              have b1' : (0 : Int) ≤ (n : Int) := by omega
                              have b2' : (n : Int) < (A : Int) := by omega
                              have HN := Lib.hid (And.intro hnA (And.intro hs9 (And.intro z6 (show W5.heap.size ≤ (g6.add n).block by rw [addB_blk]; exact gl6.1.1))))
                              clear c6 nl hnA hs9 hn gl6 hsX
                              go_wp2_with fail
                              exact ⟨⟨n + 1, HN.out.1, rfl, HN.out.2.1.tr (SimW.set HN.out.2.2.2 HN.out.2.2.1 _)⟩, by have := HN.out.1; simp [intOf]; omega⟩
                            · have b0 : decide (n < A) = false := by simpa using hnA
                              have q5 := hsX.slice H7'.out.2.2.2.1
                              have HN := Lib.hid hs9
                              clear hnA hs9 hn hsX
                              go_wp2_with fail
                              clear q5
                              go_loopw [164] (fun nv W => ∃ n : Nat, n ≤ D ∧ nv = I (n : Int) ∧ SimW W5.heap.size V3 W) (fun nv _ => D - (intOf nv).toNat)
                              case atStart => exact ⟨0, Nat.zero_le _, rfl, HN.out⟩
                              case round =>
                                clear HN b0
                                obtain ⟨r, hr, rfl, hs9⟩ := hrel
                                have hsX := H7'.out.2.2.2.2.2.2.2.2.tr hs9
                                by_cases hnA : r < D
                                · have nl : r < x.dbg.length := by rw [← H7'.out.2.2.2.2.2.2.2.1]; exact hnA
                                  obtain ⟨g6, _, rfl, gl6, c6, e6⟩ := H7'.out.2.2.2.2.2.1.at r nl
                                  obtain rfl := e6
                                  unfold encD at c6
                                  have q5 := hsX.slice H7'.out.2.2.2.1
                                  obtain ⟨y2, z6⟩ := hsX.int c6.f1
                                  have f6 := hsX.thaw (p := ⟨(g6.add (r * 6)).block, (g6.add (r * 6)).off + 1, none⟩) (by rw [addB_blk]; exact gl6.2)
                                  have b0 : decide (r < D) = true := by simpa using hnA
                                  have b1' : (0 : Int) ≤ (r : Int) := by omega
                                  have b2' : (r : Int) < (D : Int) := by omega
                                  have HN := Lib.hid (And.intro hnA (And.intro hs9 (And.intro z6 (show W5.heap.size ≤ (g6.add (r * 6)).block by rw [addB_blk]; exact gl6.1.1))))
                                  clear c6 nl hnA hs9 hr gl6 hsX
                                  go_wp2_with fail
                                  exact ⟨⟨r + 1, HN.out.1, rfl, HN.out.2.1.tr (SimW.set (a := ⟨(g6.add (r * 6)).block, (g6.add (r * 6)).off + 1, none⟩) HN.out.2.2.2 HN.out.2.2.1 _)⟩, by have := HN.out.1; simp [intOf]; omega⟩
                                · have b0 : decide (r < D) = false := by simpa using hnA
                                  have FIN := Lib.hid (H7'.out.2.1.tr hs9)
                                  clear hnA hs9 hr hsX
                                  go_wp2_with fail
                                  exact ⟨⟨j + 1, H7'.out.1, rfl, FIN.out⟩, by have := H7'.out.1; simp [intOf]; omega⟩
                        · have e0 : decide (j < Ln) = false := by simpa using hjL
                          have FIN := Lib.hid hs7
                          clear hjL hj hs7
                          go_wp2_with fail
                          exact ⟨⟨m + 1, H6.out.1, rfl, FIN.out⟩, by have := H6.out.1; simp [intOf]; omega⟩
                    · have e0 : decide ((m : Int) < 2) = false := by simp; omega
                      have FIN := Lib.hid (HV.out.1.tr hs6)
                      clear hm2 hm hs6
                      go_wp2_with fail
                      exact ⟨⟨k + 1, HK.out.1, rfl, FIN.out⟩, by have := HK.out.1; simp [intOf]; omega⟩
                · have e0 : decide (k < L) = false := by simpa using hkL
                  have FIN := Lib.hid hs4
                  clear hkL hk hs4
                  go_wp2_with fail
                  exact ⟨⟨i3 + 1, H4.out.1, rfl, FIN.out⟩, by have := H4.out.1; simp [intOf]; omega⟩
            · have d0 : decide (i3 < nf) = false := by simpa using hlt3
              have hbE := HA.out.2.2.2.trans hs3.1
              have kE := H5.out.2.2.2.2.1.below hbE H5.out.2.2.2.2.1.lt
              have mE := H5.out.2.2.2.2.2.1.below hbE H5.out.2.2.2.2.2.1.lt
              have a0 := kE.get 0 (.slice fa nf fc) rfl
              have a1 := kE.get 1 (.slice sa ns sc) rfl
              have a2 := kE.get 2 (I c.main) rfl
              have n0 := mE.get 0 (.slice pa nf pc) rfl
              have n1 := mE.get 1 (.slice qa ns qc) rfl
              have n2 := mE.get 2 (I c.main) rfl
              have HE := Lib.hid hbE
              clear hbE kE mE hlt3 hi3 hs3
              go_wp2_with fail
              refine (same_any _ _ c HSM.out.1 wo3 ⟨_, _, rfl, H5.out.2.2.1.below funV_stays HE.out, H5.out.2.2.2.1.below stopV_stays HE.out⟩ ⟨_, _, rfl, H5.out.1.below funV_stays HE.out, H5.out.2.1.below stopV_stays HE.out⟩).mono ?_
              rintro e w9 ⟨rfl, hb9⟩
              have FIN := Lib.hid (below_tr (below_tr H5.out.2.2.2.2.2.2 HE.out) hb9)
              clear hb9 a0 a1 a2 n0 n1 n2
              go_wp2_with fail
              go_ret
              exact ⟨rfl, FIN.out⟩
end Go.Proofs.Ytiimcckajjpbjaa
