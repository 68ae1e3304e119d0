/-
  Joined: CkA, CdB.
-/
import Derived.Test.YtjlmkcamefaodaaJ43
import Derived.Test.YtjlmkcamefaodaaJ44
import Derived.Test.YtjlmkcamefaodaaJ02
import Derived.Test.YtjlmkcamefaodaaRows
import Derived.Deep.Slices
import Derived.ChangeArms
import Derived.KernelRfl
/-! CkA: The checker and the document's answer say the same: the body of the statement. -/

namespace Go.Proofs.Ytjlmkcamefaodaa
open Go Go.RowKit Go.Maps Go.Sort Cd

namespace Cd
theorem insts_sm (l : List InstP) (n : Nat) (h : sumN instN l ≤ n) : l.length ≤ n ∧ ∀ i (hi : i < l.length), l[i].args.length ≤ n ∧ l[i].dbg.length ≤ n :=
  ⟨Nat.le_trans (len_sumN (f := instN) (fun x => by unfold instN; omega) l) h, fun i hi => by
    have : 1 + l[i].args.length + l[i].dbg.length ≤ sumN instN l := sumN_at instN hi
    omega⟩
theorem few_parts {c : CodeP} (h : fewB c = true) : totN c ≤ 3000 ∧ (∀ i (hi : i < c.stops.length), c.stops[i].length ≤ 3000) ∧ ∀ i (hi : i < c.funs.length), c.funs[i].blocks.length ≤ 150 ∧ funN c.funs[i] ≤ 3000 ∧ ∀ k (hk : k < c.funs[i].blocks.length), sumN instN c.funs[i].blocks[k].phis ≤ 3000 ∧ sumN instN c.funs[i].blocks[k].insts ≤ 3000 := by
  unfold fewB at h
  rw [Bool.and_eq_true] at h
  have hT : totN c ≤ 3000 := by simpa using h.2
  refine ⟨hT, fun i hi => ?_, fun i hi => ?_⟩
  · have h1 : c.stops[i].length ≤ sumN List.length c.stops := sumN_at List.length hi
    unfold totN at hT
    omega
  · have h0 := List.all_eq_true.1 h.1 _ (List.getElem_mem hi)
    have h1 : c.funs[i].blocks.length + sumN blockN c.funs[i].blocks ≤ sumN funN c.funs := sumN_at funN hi
    unfold funOk at h0
    rw [Bool.and_eq_true] at h0
    have h2 : ¬ 150 < c.funs[i].blocks.length := by simpa using h0.2
    refine ⟨by omega, by unfold funN; unfold totN at hT; omega, fun k hk => ?_⟩
    have h3 : sumN instN c.funs[i].blocks[k].phis + sumN instN c.funs[i].blocks[k].insts ≤ sumN blockN c.funs[i].blocks := sumN_at blockN hk
    unfold totN at hT
    omega
theorem few_sm {c : CodeP} (h : fewB c = true) : SmallC c := by
  obtain ⟨hT, hs, hf⟩ := few_parts h
  unfold totN at hT
  refine ⟨by omega, by omega, fun i hi => by have := hs i hi; omega, fun i hi => ⟨by have := (hf i hi).1; omega, fun k hk => ?_⟩⟩
  obtain ⟨h1, h2⟩ := (hf i hi).2.2 k hk
  have p := insts_sm _ _ h1
  have q := insts_sm _ _ h2
  exact ⟨⟨by omega, fun j hj => by have := p.2 j hj; omega⟩, by omega, fun j hj => by have := q.2 j hj; omega⟩
theorem cB_sum (f : FunP) : ∀ k, k ≤ f.blocks.length → cB f k + sumN blockN (f.blocks.drop k) ≤ sumN blockN f.blocks
  | 0, _ => by simp [cB]
  | k + 1, h => by
    have h1 := cB_sum f k (by omega)
    rw [sumN_drop blockN (show k < f.blocks.length from h)] at h1
    rw [cB_succ f h]
    have h2 := sizeB_le f.blocks[k]
    unfold sizeB at h2
    omega
theorem few_smA {c : CodeP} (h : fewB c = true) (hw : WfC c) : SmA c := by
  obtain ⟨hT, hs, hf⟩ := few_parts h
  unfold totN at hT
  refine ⟨⟨by omega, by omega, fun i hi => by have := hs i hi; omega⟩, fun i hi => ⟨(hf i hi).1, ?_⟩⟩
  have hwf := hw.2 _ (List.getElem_mem hi)
  have h3 := (hf i hi).2.1
  have h4 := cB_sum c.funs[i] c.funs[i].blocks.length (Nat.le_refl _)
  unfold funN at h3
  refine ⟨by have := (hf i hi).1; omega, by omega, fun k hk => ?_⟩
  obtain ⟨h1, h2⟩ := (hf i hi).2.2 k hk
  have p := insts_sm _ _ h1
  have q := insts_sm _ _ h2
  have hb := hwf.2 _ (List.getElem_mem hk)
  refine ⟨fun x hx => ?_, fun x hx => ?_, hb⟩
  · have hwx := hb.1 x hx
    obtain ⟨j, hj, rfl⟩ := List.getElem_of_mem hx
    exact ⟨by have := p.2 j hj; omega, by have := p.2 j hj; omega, hwx⟩
  · have hwx := hb.2.1 x hx
    obtain ⟨j, hj, rfl⟩ := List.getElem_of_mem hx
    exact ⟨by have := q.2 j hj; omega, by have := q.2 j hj; omega, hwx⟩
end Cd
theorem tellE_regrown {f : FuncId} {args : Array Value} {w : World} {P : Prop} {v : Bool} (hv : v = true ↔ P) (h : ∀ w', Below w.heap.size w w' → Calls Try.prog f args w' fun e w2 => TellE P w' e w2) (p : Regrown) :
    Calls Try.prog f args (grow (redrawn w p.d) p.os) fun e w'' => e = .returned (I (if v then 0 else 3)) ∧ ∃ p : Regrown, w'' = grow (redrawn w p.d) p.os := by
  refine Calls.regrown_of ((h _ (below_regrown w p.d p.os)).mono ?_)
  rintro e w' ⟨u, rfl, hu, hb⟩
  have e1 : u = v := by rw [Bool.eq_iff_iff, hu, hv]
  exact ⟨by rw [e1], hb⟩
theorem ret_regrown {f : FuncId} {args : Array Value} {w : World} {r : Value} (h : ∀ w', Below w.heap.size w w' → Calls Try.prog f args w' fun e w2 => e = .returned r ∧ Below w'.heap.size w' w2) (p : Regrown) :
    Calls Try.prog f args (grow (redrawn w p.d) p.os) fun e w'' => e = .returned r ∧ ∃ p : Regrown, w'' = grow (redrawn w p.d) p.os :=
  Calls.regrown_of (h _ (below_regrown w p.d p.os))

set_option maxRecDepth 100000 in
set_option maxHeartbeats 6400000 in
theorem checks_body (haw : ∀ w : World, Calls Try.prog 5 #[] w fun e w' => e = .returned (.bool true) ∧ Below w.heap.size w w') (v : Value) (c : CodeP) (hT : totN c ≤ 4000000) (hw : WfC c) (w : World) (h : CodeZ w v c) :
    Calls Try.prog 3 #[v] w fun e w' => e = .returned (.bool true) ∧ Below w.heap.size w w' := by
  obtain ⟨fv, sv, rfl, hF, hS⟩ := h
  obtain ⟨fa, fc, rfl⟩ := hF.size
  obtain ⟨sa, sc, rfl⟩ := hS.size
  obtain ⟨nf, hnf⟩ : ∃ n, n = c.funs.length := ⟨_, rfl⟩
  obtain ⟨ns, hns⟩ : ∃ n, n = c.stops.length := ⟨_, rfl⟩
  rw [← hnf] at hF ⊢
  rw [← hns] at hS ⊢
  obtain ⟨b1, hb1⟩ : ∃ g, g = w.heap.size := ⟨_, rfl⟩
  obtain ⟨W1, hW1⟩ : ∃ W, W = w.alloc (.cells #[.slice fa nf fc, .slice sa ns sc, I c.main] 25) := ⟨_, rfl⟩
  have hB1 : Below w.heap.size w W1 := by rw [hW1]; exact (Below.refl _ _).alloc (Nat.le_refl _) _
  have k1 : Blk b1 #[.slice fa nf fc, .slice sa ns sc, I c.main] 25 W1 := by rw [hW1, hb1]; exact Blk.new _ _ _
  have H1 := Lib.hid (And.intro (hF.below funV_stays hB1) (And.intro (hS.below stopV_stays hB1) (And.intro hnf (And.intro hns (And.intro hT (And.intro hB1 (And.intro k1 hw)))))))
  have HW1 := Lib.hid (And.intro hW1 hb1)
  have HAW := Lib.hid haw
  clear hF hS hnf hns hT hB1 k1 hW1 hb1 haw hw
  go_enter Try.func3, Try.ntmps3
  go_upto_region 1 with (fail)
  rw [← HW1.out.2]
  change Code.wp _ _ _ _ (w.alloc (.cells #[.slice fa nf fc, .slice sa ns sc, I c.main] 25))
  rw [← HW1.out.1]
  go_wp2_with fail
  refine (HAW.out W1).mono ?_
  rintro e w2 ⟨rfl, hb2⟩
  have k2 := H1.out.2.2.2.2.2.2.1.below hb2 H1.out.2.2.2.2.2.2.1.lt
  have a0 := k2.get 0 (.slice fa nf fc) rfl
  have a1 := k2.get 1 (.slice sa ns sc) rfl
  have a2 := k2.get 2 (I c.main) rfl
  have H2 := Lib.hid (And.intro (H1.out.1.below funV_stays hb2) (And.intro (H1.out.2.1.below stopV_stays hb2) (And.intro (below_tr H1.out.2.2.2.2.2.1 hb2) k2)))
  clear hb2 k2
  go_wp2_with fail
  refine (few_any _ c H1.out.2.2.2.2.1 w2 ⟨_, _, rfl, H2.out.1, H2.out.2.1⟩).mono ?_
  rintro e w3 ⟨rfl, hb3⟩
  clear a0 a1 a2
  have k3 := H2.out.2.2.2.below hb3 H2.out.2.2.2.lt
  have a0 := k3.get 0 (.slice fa nf fc) rfl
  have a1 := k3.get 1 (.slice sa ns sc) rfl
  have a2 := k3.get 2 (I c.main) rfl
  have H3 := Lib.hid (And.intro (H2.out.1.below funV_stays hb3) (And.intro (H2.out.2.1.below stopV_stays hb3) (And.intro (below_tr H2.out.2.2.1 hb3) k3)))
  clear hb3 k3
  obtain ⟨q, hq⟩ : ∃ q, q = fewB c := ⟨_, rfl⟩
  rw [← hq]
  cases q
  · clear hq
    go_wp2_with fail
    go_ret
    exact ⟨rfl, H3.out.2.2.1⟩
  have HSM := Lib.hid (And.intro (few_sm hq.symm) (few_smA hq.symm H1.out.2.2.2.2.2.2.2))
  have h40 : sizeC c ≤ 40000 := by have h8 := sizeC_tot c; have h9 := (few_parts hq.symm).1; omega
  have H40 := Lib.hid h40
  clear hq h40
  go_wp2_with fail
  refine (twin_any _ c HSM.out.1 w3 ⟨_, _, rfl, H3.out.1, H3.out.2.1⟩).mono ?_
  rintro e w4 ⟨u, rfl, hu, hb4⟩
  obtain ⟨mf, ms, rfl, hF, hS⟩ := hu
  obtain ⟨pa, pc, rfl⟩ := hF.size
  obtain ⟨qa, qc, rfl⟩ := hS.size
  rw [← H1.out.2.2.1] at hF ⊢
  rw [← H1.out.2.2.2.1] at hS ⊢
  clear a0 a1 a2
  obtain ⟨b3, hb3⟩ : ∃ g, g = w4.heap.size := ⟨_, rfl⟩
  obtain ⟨W5, hW5⟩ : ∃ W, W = w4.alloc (.cells #[.slice pa nf pc, .slice qa ns qc, I c.main] 25) := ⟨_, rfl⟩
  have hB5 : Below w4.heap.size w4 W5 := by rw [hW5]; exact (Below.refl _ _).alloc (Nat.le_refl _) _
  have hB35 := below_tr hb4 hB5
  have k5 := H3.out.2.2.2.below hB35 H3.out.2.2.2.lt
  have m5 : Blk b3 #[.slice pa nf pc, .slice qa ns qc, I c.main] 25 W5 := by rw [hW5, hb3]; exact Blk.new _ _ _
  have hFz : FunsZ W5 (.slice pa nf pc) c.funs := (hF.keep funV_stays (fun _ _ => rfl) (fun n hn => hn.1.2 : ∀ n, GeW w3.heap.size w4 n → LtW w4 n)).below funV_stays hB5
  have hSz : StopsZ W5 (.slice qa ns qc) c.stops := (hS.keep stopV_stays (fun _ _ => rfl) (fun n hn => hn.1.2 : ∀ n, GeW w3.heap.size w4 n → LtW w4 n)).below stopV_stays hB5
  have hFo := H3.out.1.below funV_stays hB35
  have hSo := H3.out.2.1.below stopV_stays hB35
  obtain ⟨r, hr⟩ : ∃ r : Bool, r = true ↔ RightC c := by
    by_cases e : RightC c
    · exact ⟨true, by simp [e]⟩
    · exact ⟨false, by simp [e]⟩
  obtain ⟨p, hp⟩ : ∃ r : Bool, r = true ↔ PlainC c := by
    by_cases e : PlainC c
    · exact ⟨true, by simp [e]⟩
    · exact ⟨false, by simp [e]⟩
  have hzT : ∀ W', Below W5.heap.size W5 W' → CodeZ W' (.agg #[.slice pa nf pc, .slice qa ns qc, I c.main]) c := fun W' hW' => ⟨_, _, rfl, hFz.below funV_stays hW', hSz.below stopV_stays hW'⟩
  have hzO : ∀ W', Below W5.heap.size W5 W' → CodeZ W' (.agg #[.slice fa nf fc, .slice sa ns sc, I c.main]) c := fun W' hW' => ⟨_, _, rfl, hFo.below funV_stays hW', hSo.below stopV_stays hW'⟩
  have HC1 := Lib.hid (fun q : Regrown => tellE_regrown (w := W5) hr (fun W' hW' => check_any _ c H1.out.2.2.2.2.1 H40.out HSM.out.2 W' (hzT W' hW')) q)
  have HC2 := Lib.hid (fun q : Regrown => tellE_regrown (w := W5) hr (fun W' hW' => refCheck_any _ c H1.out.2.2.2.2.1 H40.out HSM.out.2 W' (hzO W' hW')) q)
  have HC3 := Lib.hid (fun q : Regrown => tell_regrown (w := W5) hp (fun W' hW' => plain_any _ c H1.out.2.2.2.2.1 H40.out HSM.out.2 W' (hzT W' hW')) q)
  have HC4 := Lib.hid (fun q : Regrown => tell_regrown (w := W5) hp (fun W' hW' => refPlain_any _ c H1.out.2.2.2.2.1 H40.out HSM.out.2 W' (hzO W' hW')) q)
  have HC5 := Lib.hid (fun q : Regrown => ret_regrown (w := W5) (fun W' hW' => size_any _ c H1.out.2.2.2.2.1 W' (hzT W' hW')) q)
  have HC6 := Lib.hid (fun q : Regrown => ret_regrown (w := W5) (fun W' hW' => refSize_any _ c H1.out.2.2.2.2.1 W' (hzO W' hW')) q)
  have HC7 := Lib.hid (fun q : Regrown => ret_regrown (w := W5) (fun W' hW' => same_any _ _ c HSM.out.1 W' (hzT W' hW') (hzO W' hW')) q)
  have H5 := Lib.hid (below_tr H3.out.2.2.1 hB35)
  have HW5 := Lib.hid (And.intro hW5 hb3)
  have a0 : ∀ d os, (grow (redrawn W5 d) os).cell? ⟨b3, 0, none⟩ = some (.slice pa nf pc) := fun d os => cell_regrown (m5.get 0 (.slice pa nf pc) rfl) d os
  have a1 : ∀ d os, (grow (redrawn W5 d) os).cell? ⟨b3, 1, none⟩ = some (.slice qa ns qc) := fun d os => cell_regrown (m5.get 1 (.slice qa ns qc) rfl) d os
  have a2 : ∀ d os, (grow (redrawn W5 d) os).cell? ⟨b3, 2, none⟩ = some (I c.main) := fun d os => cell_regrown (m5.get 2 (I c.main) rfl) d os
  have e0 : ∀ d os, (grow (redrawn W5 d) os).cell? ⟨b1, 0, none⟩ = some (.slice fa nf fc) := fun d os => cell_regrown (k5.get 0 (.slice fa nf fc) rfl) d os
  have e1 : ∀ d os, (grow (redrawn W5 d) os).cell? ⟨b1, 1, none⟩ = some (.slice sa ns sc) := fun d os => cell_regrown (k5.get 1 (.slice sa ns sc) rfl) d os
  have e2 : ∀ d os, (grow (redrawn W5 d) os).cell? ⟨b1, 2, none⟩ = some (I c.main) := fun d os => cell_regrown (k5.get 2 (I c.main) rfl) d os
  obtain ⟨sz, hsz⟩ : ∃ s, s = sizeC c := ⟨_, rfl⟩
  rw [← hsz] at HC5 HC6
  clear hb3 hW5 hB5 hB35 k5 m5 hFz hSz hF hS hb4 hFo hSo hzT hzO hr hp hsz
  go_upto_region 6 with (fail)
  rw [← HW5.out.2]
  change Code.wp _ _ _ _ (w4.alloc (.cells #[.slice pa nf pc, .slice qa ns qc, I c.main] 25))
  rw [← HW5.out.1]
  refine wp_region_quiet_below (by kernel_rfl) (by kernel_rfl) ?_
  cases r <;> cases p
  all_goals repeat (go_big_quiet_step (first | with_reducible exact HC1.out _ | with_reducible exact HC2.out _ | with_reducible exact HC3.out _ | with_reducible exact HC4.out _ | with_reducible exact HC5.out _ | with_reducible exact HC6.out _ | with_reducible exact HC7.out _))
  all_goals refine wpQuiet_nil ?_
  all_goals intro _ hw'
  all_goals obtain ⟨⟨dq, osq⟩, hw''⟩ := hw'
  all_goals subst hw''
  all_goals have HF := Lib.hid (below_tr H5.out (below_regrown W5 dq osq))
  all_goals clear a0 a1 a2 e0 e1 e2
  all_goals go_wp2_with fail
  all_goals go_ret
  all_goals exact ⟨rfl, HF.out⟩
end Go.Proofs.Ytjlmkcamefaodaa

/-! CdB: The code that a row reads: how it lies in memory, and that its size is at most its bulk. -/

namespace Go.Proofs.Ytjlmkcamefaodaa
open Go Go.ChangeShapes Go.WideShapes Go.RowKit Cd

instance : Inhabited DbgP := ⟨⟨0, 0, 0, 0, 0, 0⟩⟩
instance : Inhabited InstP := ⟨⟨0, 0, [], 0, 0, []⟩⟩
instance : Inhabited BlockP := ⟨⟨[], [], 0, 0, 0, 0⟩⟩
instance : Inhabited FunP := ⟨⟨0, 0, 0, []⟩⟩
instance : Inhabited SpotP := ⟨⟨0, 0⟩⟩
section
variable {H : Type} {enc : TypeId × Value → H} {w : World} {spare : Nat → Bool} {held : Bool}

theorem bulkAll_sum {α : Type} (bf : α → Nat) (Y : Nat → α) (D : Nat → DataW H) : ∀ L : List Nat, (∀ i ∈ L, bf (Y i) ≤ Rows.uptoBulk (D i)) → sumN bf (L.map Y) ≤ Rows.uptoBulkAll (L.map D)
  | [], _ => by simp [sumN, Rows.uptoBulkAll]
  | i :: L, h => by
    have h1 := bulkAll_sum bf Y D L (fun j hj => h j (by simp [hj]))
    have h2 := h i (by simp)
    simp only [sumN, List.map_cons, List.sum_cons, Rows.uptoBulkAll] at h1 ⊢
    omega
/-- What a thing of a row reads as, of a type, and its bulk. -/
def OpnV (enc : TypeId × Value → H) (w : World) (spare : Nat → Bool) (held : Bool) (e : TypeId) {α : Type} (V : (Nat → Prop) → World → List Value → α → Prop) (bf : α → Nat) : Prop :=
  ∀ fuel cs x, DataW.trod enc Try.prog w 0 spare held fuel e cs = some x → ∃ y : α, V (LtW w) w cs y ∧ bf y ≤ Rows.uptoBulk x.1
theorem open_sl {α : Type} [Inhabited α] {k : Nat} {V : (Nat → Prop) → World → List Value → α → Prop} {t e : TypeId} {bf : α → Nat} (ht : Try.prog.underlying t = some (.slice e)) (hc : Try.prog.cellsOf e = k) (hk : 0 < k)
    (hV : OpnV enc w spare held e V bf) {fuel : Nat} {cs : List Value} {x : DataW H × List MemPlace} (h : DataW.trod enc Try.prog w 0 spare held fuel t cs = some x) :
    ∃ sv l, cs = [sv] ∧ SlS (LtW w) k V w sv l ∧ 1 + sumN bf l ≤ Rows.uptoBulk x.1 := by
  rcases Go.Deep.open_slice ht h with ⟨rfl, rfl⟩ | ⟨a, len, cap, m, n, D, Pl, rfl, hb, hl, hm, hmm, rfl, hx⟩
  · exact ⟨_, [], rfl, SlS.nil _ _, by simp [sumN, Rows.uptoBulk]⟩
  · have hlm : len ≤ m := by rw [hmm]; split <;> omega
    obtain ⟨Y, hY⟩ := Go.Deep.choose_lt (α := α) (n := len) (p := fun i y => ∃ cs', w.cells? 0 (a.add (i * k)) k = some cs' ∧ V (LtW w) w cs' y ∧ bf y ≤ Rows.uptoBulk (D i)) (fun i hi => by
      obtain ⟨cs', h1, h2⟩ := hx i (by omega)
      obtain ⟨y, h3, h4⟩ := hV _ _ _ h2
      exact ⟨y, cs', by rw [← hc]; exact h1, h3, h4⟩)
    refine ⟨_, (List.range len).map Y, rfl, ⟨some a, cap, by simp, by simpa using hl, fun i hi => ?_⟩, ?_⟩
    · have hi' : i < len := by simpa using hi
      obtain ⟨cs', h1, h2, _⟩ := hY i hi'
      obtain ⟨_, hlen, hcell⟩ := World.cells?_some h1
      refine ⟨a, cs', rfl, ?_, fun j v hj => ?_, by simpa using h2⟩
      · have h0 := hcell 0 hk
        rw [List.getElem?_eq_getElem (by omega)] at h0
        have := World.block_lt_of_cell? _ _ h0
        rw [addB_blk, addB_blk] at this
        exact this
      · rw [hcell j (by have := (List.getElem?_eq_some_iff.1 hj).1; omega)]
        exact hj
    · have := bulkAll_sum bf Y D (List.range len) (fun i hi => (hY i (List.mem_range.1 hi)).choose_spec.2.2)
      simp only [Rows.uptoBulk]
      omega
/-- A struct whose fields are one cell each. -/
theorem open_st {e : TypeId} {fs : Array Field} {n : Nat} (he : Try.prog.underlying e = some (.struct fs)) (hn : fs.size = n) (hc : Try.prog.cellsOf e = n) (hob : ((List.range n).all fun i => match fs[i]? with | some f => f.offset == i && Try.prog.cellsOf f.type == 1 | none => false) = true)
    {fuel : Nat} {cs : List Value} {x : DataW H × List MemPlace} (h : DataW.trod enc Try.prog w 0 spare held fuel e cs = some x) :
    ∃ (xs : List (DataW H × List MemPlace)) (k : Nat), x.1 = .agg (xs.map (·.1)) ∧ xs.length = n ∧ cs.length = n ∧ ∀ i (h : i < fs.size) (h1 : i < cs.length) (h2 : i < xs.length), DataW.trod enc Try.prog w 0 spare held k fs[i].type [cs[i]] = some xs[i] := by
  have ho : ∀ i (h : i < fs.size), fs[i].offset = i ∧ Try.prog.cellsOf fs[i].type = 1 := fun i hi => by
    have h1 := List.all_eq_true.1 hob i (by simp; omega)
    rw [Array.getElem?_eq_getElem hi] at h1
    simpa using h1
  obtain ⟨xs, k, _, rfl, h2, h3, h4⟩ := DataW.trod_struct he h
  refine ⟨xs, k, rfl, by omega, by omega, fun i hi h1 h2' => ?_⟩
  have h5 := h4 i fs[i] (Array.getElem?_eq_getElem hi)
  rw [(ho i hi).1, (ho i hi).2, List.getElem?_eq_getElem h2'] at h5
  rw [← h5, List.drop_eq_getElem_cons h1]
  rfl
theorem opn_int : OpnV enc w spare held 3 IntV (fun _ => 1) := fun fuel cs x h => by
  obtain ⟨n, rfl, rfl, _⟩ := DataW.trod_int Try.underlying3 h
  exact ⟨n, rfl, by simp [Rows.uptoBulk]⟩
theorem opn_dbg : OpnV enc w spare held 57 DbgV (fun _ => 1) := fun fuel cs x h => by
  obtain ⟨xs, k, ex, l1, l2, hf⟩ := open_st (n := 6) Try.underlying57 rfl (by kernel_rfl) (by kernel_rfl) h
  rcases cs with _ | ⟨v0, _ | ⟨v1, _ | ⟨v2, _ | ⟨v3, _ | ⟨v4, _ | ⟨v5, _ | ⟨_, _⟩⟩⟩⟩⟩⟩⟩ <;> simp at l2
  rcases xs with _ | ⟨y0, _ | ⟨y1, _ | ⟨y2, _ | ⟨y3, _ | ⟨y4, _ | ⟨y5, _ | ⟨_, _⟩⟩⟩⟩⟩⟩⟩ <;> simp at l1
  have g0 := hf 0 (by decide) (by simp) (by simp)
  obtain ⟨n0, e0, _, _⟩ := DataW.trod_int Try.underlying3 g0
  obtain rfl := List.head_eq_of_cons_eq e0
  have g1 := hf 1 (by decide) (by simp) (by simp)
  obtain ⟨n1, e1, _, _⟩ := DataW.trod_int Try.underlying3 g1
  obtain rfl := List.head_eq_of_cons_eq e1
  have g2 := hf 2 (by decide) (by simp) (by simp)
  obtain ⟨n2, e2, _, _⟩ := DataW.trod_int Try.underlying5 g2
  obtain rfl := List.head_eq_of_cons_eq e2
  have g3 := hf 3 (by decide) (by simp) (by simp)
  obtain ⟨n3, e3, _, _⟩ := DataW.trod_int Try.underlying3 g3
  obtain rfl := List.head_eq_of_cons_eq e3
  have g4 := hf 4 (by decide) (by simp) (by simp)
  obtain ⟨n4, e4, _, _⟩ := DataW.trod_int Try.underlying2 g4
  obtain rfl := List.head_eq_of_cons_eq e4
  have g5 := hf 5 (by decide) (by simp) (by simp)
  obtain ⟨n5, e5, _, _⟩ := DataW.trod_int Try.underlying2 g5
  obtain rfl := List.head_eq_of_cons_eq e5
  refine ⟨⟨n0, n1, n2, n3, n4, n5⟩, rfl, ?_⟩
  rw [ex]
  simp only [Rows.uptoBulk, List.map_cons, List.map_nil, Rows.uptoBulkAll]
  omega
theorem opn_spot : OpnV enc w spare held 59 SpotV (fun _ => 1) := fun fuel cs x h => by
  obtain ⟨xs, k, ex, l1, l2, hf⟩ := open_st (n := 2) Try.underlying59 rfl (by kernel_rfl) (by kernel_rfl) h
  rcases cs with _ | ⟨v0, _ | ⟨v1, _ | ⟨_, _⟩⟩⟩ <;> simp at l2
  rcases xs with _ | ⟨y0, _ | ⟨y1, _ | ⟨_, _⟩⟩⟩ <;> simp at l1
  have g0 := hf 0 (by decide) (by simp) (by simp)
  obtain ⟨n0, e0, _, _⟩ := DataW.trod_int Try.underlying3 g0
  obtain rfl := List.head_eq_of_cons_eq e0
  have g1 := hf 1 (by decide) (by simp) (by simp)
  obtain ⟨n1, e1, _, _⟩ := DataW.trod_int Try.underlying3 g1
  obtain rfl := List.head_eq_of_cons_eq e1
  refine ⟨⟨n0, n1⟩, rfl, ?_⟩
  rw [ex]
  simp only [Rows.uptoBulk, List.map_cons, List.map_nil, Rows.uptoBulkAll]
  omega
theorem sum_ones {α : Type} (l : List α) : sumN (fun _ => 1) l = l.length := by
  induction l with
  | nil => rfl
  | cons a l ih => simp only [sumN, List.map_cons, List.sum_cons, List.length_cons] at ih ⊢; omega
theorem opn_inst : OpnV enc w spare held 44 InstV instN := fun fuel cs x h => by
  obtain ⟨xs, k, ex, l1, l2, hf⟩ := open_st (n := 6) Try.underlying44 rfl (by kernel_rfl) (by kernel_rfl) h
  rcases cs with _ | ⟨v0, _ | ⟨v1, _ | ⟨v2, _ | ⟨v3, _ | ⟨v4, _ | ⟨v5, _ | ⟨_, _⟩⟩⟩⟩⟩⟩⟩ <;> simp at l2
  rcases xs with _ | ⟨y0, _ | ⟨y1, _ | ⟨y2, _ | ⟨y3, _ | ⟨y4, _ | ⟨y5, _ | ⟨_, _⟩⟩⟩⟩⟩⟩⟩ <;> simp at l1
  have g0 := hf 0 (by decide) (by simp) (by simp)
  obtain ⟨n0, e0, _, _⟩ := DataW.trod_int Try.underlying5 g0
  obtain rfl := List.head_eq_of_cons_eq e0
  have g1 := hf 1 (by decide) (by simp) (by simp)
  obtain ⟨n1, e1, _, _⟩ := DataW.trod_int Try.underlying3 g1
  obtain rfl := List.head_eq_of_cons_eq e1
  have g2 := hf 2 (by decide) (by simp) (by simp)
  obtain ⟨sv2, n2, e2, s2, b2⟩ := open_sl (k := 1) (V := IntV) Try.underlying41 (by kernel_rfl) (by decide) opn_int g2
  obtain rfl := List.head_eq_of_cons_eq e2
  have g3 := hf 3 (by decide) (by simp) (by simp)
  obtain ⟨n3, e3, _, _⟩ := DataW.trod_int Try.underlying2 g3
  obtain rfl := List.head_eq_of_cons_eq e3
  have g4 := hf 4 (by decide) (by simp) (by simp)
  obtain ⟨n4, e4, _, _⟩ := DataW.trod_int Try.underlying3 g4
  obtain rfl := List.head_eq_of_cons_eq e4
  have g5 := hf 5 (by decide) (by simp) (by simp)
  obtain ⟨sv5, n5, e5, s5, b5⟩ := open_sl (k := 6) (V := DbgV) Try.underlying42 (by kernel_rfl) (by decide) opn_dbg g5
  obtain rfl := List.head_eq_of_cons_eq e5
  refine ⟨⟨n0, n1, n2, n3, n4, n5⟩, ⟨_, _, rfl, s2, s5⟩, ?_⟩
  rw [ex]
  simp only [Rows.uptoBulk, List.map_cons, List.map_nil, Rows.uptoBulkAll]
  simp only [List.getElem_cons_succ, List.getElem_cons_zero] at b2 b5
  rw [sum_ones] at b2 b5
  show 1 + n2.length + n5.length ≤ _
  omega
theorem opn_block : OpnV enc w spare held 40 BlockV (fun b => 1 + blockN b) := fun fuel cs x h => by
  obtain ⟨xs, k, ex, l1, l2, hf⟩ := open_st (n := 6) Try.underlying40 rfl (by kernel_rfl) (by kernel_rfl) h
  rcases cs with _ | ⟨v0, _ | ⟨v1, _ | ⟨v2, _ | ⟨v3, _ | ⟨v4, _ | ⟨v5, _ | ⟨_, _⟩⟩⟩⟩⟩⟩⟩ <;> simp at l2
  rcases xs with _ | ⟨y0, _ | ⟨y1, _ | ⟨y2, _ | ⟨y3, _ | ⟨y4, _ | ⟨y5, _ | ⟨_, _⟩⟩⟩⟩⟩⟩⟩ <;> simp at l1
  have g0 := hf 0 (by decide) (by simp) (by simp)
  obtain ⟨sv0, n0, e0, s0, b0⟩ := open_sl (k := 6) (V := InstV) Try.underlying38 (by kernel_rfl) (by decide) opn_inst g0
  obtain rfl := List.head_eq_of_cons_eq e0
  have g1 := hf 1 (by decide) (by simp) (by simp)
  obtain ⟨sv1, n1, e1, s1, b1⟩ := open_sl (k := 6) (V := InstV) Try.underlying38 (by kernel_rfl) (by decide) opn_inst g1
  obtain rfl := List.head_eq_of_cons_eq e1
  have g2 := hf 2 (by decide) (by simp) (by simp)
  obtain ⟨n2, e2, _, _⟩ := DataW.trod_int Try.underlying5 g2
  obtain rfl := List.head_eq_of_cons_eq e2
  have g3 := hf 3 (by decide) (by simp) (by simp)
  obtain ⟨n3, e3, _, _⟩ := DataW.trod_int Try.underlying3 g3
  obtain rfl := List.head_eq_of_cons_eq e3
  have g4 := hf 4 (by decide) (by simp) (by simp)
  obtain ⟨n4, e4, _, _⟩ := DataW.trod_int Try.underlying3 g4
  obtain rfl := List.head_eq_of_cons_eq e4
  have g5 := hf 5 (by decide) (by simp) (by simp)
  obtain ⟨n5, e5, _, _⟩ := DataW.trod_int Try.underlying3 g5
  obtain rfl := List.head_eq_of_cons_eq e5
  refine ⟨⟨n0, n1, n2, n3, n4, n5⟩, ⟨_, _, rfl, s0, s1⟩, ?_⟩
  rw [ex]
  simp only [Rows.uptoBulk, List.map_cons, List.map_nil, Rows.uptoBulkAll]
  simp only [List.getElem_cons_succ, List.getElem_cons_zero] at b0 b1
  show 1 + (sumN instN n0 + sumN instN n1) ≤ _
  omega
theorem sum_succ {α : Type} (f : α → Nat) (l : List α) : sumN (fun x => 1 + f x) l = l.length + sumN f l := by
  induction l with
  | nil => rfl
  | cons a l ih => simp only [sumN, List.map_cons, List.sum_cons, List.length_cons] at ih ⊢; omega
theorem opn_fun : OpnV enc w spare held 36 FunV (fun f => 1 + funN f) := fun fuel cs x h => by
  obtain ⟨xs, k, ex, l1, l2, hf⟩ := open_st (n := 4) Try.underlying36 rfl (by kernel_rfl) (by kernel_rfl) h
  rcases cs with _ | ⟨v0, _ | ⟨v1, _ | ⟨v2, _ | ⟨v3, _ | ⟨_, _⟩⟩⟩⟩⟩ <;> simp at l2
  rcases xs with _ | ⟨y0, _ | ⟨y1, _ | ⟨y2, _ | ⟨y3, _ | ⟨_, _⟩⟩⟩⟩⟩ <;> simp at l1
  have g0 := hf 0 (by decide) (by simp) (by simp)
  obtain ⟨n0, e0, _, _⟩ := DataW.trod_int Try.underlying3 g0
  obtain rfl := List.head_eq_of_cons_eq e0
  have g1 := hf 1 (by decide) (by simp) (by simp)
  obtain ⟨n1, e1, _, _⟩ := DataW.trod_int Try.underlying3 g1
  obtain rfl := List.head_eq_of_cons_eq e1
  have g2 := hf 2 (by decide) (by simp) (by simp)
  obtain ⟨n2, e2, _, _⟩ := DataW.trod_int Try.underlying3 g2
  obtain rfl := List.head_eq_of_cons_eq e2
  have g3 := hf 3 (by decide) (by simp) (by simp)
  obtain ⟨sv3, n3, e3, s3, b3⟩ := open_sl (k := 6) (V := BlockV) Try.underlying34 (by kernel_rfl) (by decide) opn_block g3
  obtain rfl := List.head_eq_of_cons_eq e3
  refine ⟨⟨n0, n1, n2, n3⟩, ⟨_, rfl, s3⟩, ?_⟩
  rw [ex]
  simp only [Rows.uptoBulk, List.map_cons, List.map_nil, Rows.uptoBulkAll]
  simp only [List.getElem_cons_succ, List.getElem_cons_zero] at b3
  rw [sum_succ] at b3
  show 1 + (n3.length + sumN blockN n3) ≤ _
  omega
theorem opn_stop : OpnV enc w spare held 51 StopV (fun l => 1 + l.length) := fun fuel cs x h => by
  obtain ⟨sv, l, rfl, s, b⟩ := open_sl (k := 2) (V := SpotV) Try.underlying51 (by kernel_rfl) (by decide) opn_spot h
  rw [sum_ones] at b
  exact ⟨l, ⟨sv, rfl, s⟩, b⟩
end
end Go.Proofs.Ytjlmkcamefaodaa
