/-
  MovesCircles holds: whatever the list, from every heap: the function returns true, and its argument reads as it did.
-/
import Derived.Test.YtnbkcdhblmfopaaMvA
import Derived.Test.YtnbkcdhblmfopaaLift
import Derived.Test.YtnbkcdhblmfopaaRows
import Derived.Deep.Slices
import Derived.ChangeArms
import Derived.ProofKit
import Derived.OpenShut
import Derived.KernelRfl
namespace Go.Proofs.Ytnbkcdhblmfopaa
open Go Go.ChangeShapes Go.WideShapes Go.ChangeAt Go.RowKit Mv

theorem ownM : ownKnob Try.prog.godebug = none := by kernel_rfl
def MovW (S : Nat → Prop) (W : World) (vs : List Value) (x : M) : Prop := vs = encM x ∧ (Lit.int .i64 x.1).wf = true ∧ (Lit.int .i64 x.2).wf = true
section
variable {H : Type} {enc : TypeId × Value → H} {w : World} {spare : Nat → Bool} {held : Bool}
/-- A struct whose fields are one cell each. -/
theorem open_st {e : TypeId} {fs : Array Field} {n : Nat} (he : Try.prog.underlying e = some (.struct fs)) (hn : fs.size = n) (hc : Try.prog.cellsOf e = n) (hob : ((List.range n).all fun i => match fs[i]? with | some f => f.offset == i && Try.prog.cellsOf f.type == 1 | none => false) = true)
    {fuel : Nat} {cs : List Value} {x : DataW H × List MemPlace} (h : DataW.trod enc Try.prog w 0 spare held fuel e cs = some x) :
    ∃ (xs : List (DataW H × List MemPlace)) (k : Nat), x.1 = .agg (xs.map (·.1)) ∧ xs.length = n ∧ cs.length = n ∧ ∀ i (h : i < fs.size) (h1 : i < cs.length) (h2 : i < xs.length), DataW.trod enc Try.prog w 0 spare held k fs[i].type [cs[i]] = some xs[i] := by
  have ho : ∀ i (h : i < fs.size), fs[i].offset = i ∧ Try.prog.cellsOf fs[i].type = 1 := fun i hi => by
    have h1 := List.all_eq_true.1 hob i (by simp; omega)
    rw [Array.getElem?_eq_getElem hi] at h1
    simpa using h1
  obtain ⟨xs, k, _, rfl, h2, h3, h4⟩ := DataW.trod_struct he h
  refine ⟨xs, k, rfl, by omega, by omega, fun i hi h1 h2' => ?_⟩
  have h5 := h4 i fs[i] (Array.getElem?_eq_getElem hi)
  rw [(ho i hi).1, (ho i hi).2, List.getElem?_eq_getElem h2'] at h5
  rw [← h5, List.drop_eq_getElem_cons h1]
  rfl
theorem opn_move (fuel : Nat) (cs : List Value) (x : DataW H × List MemPlace) (h : DataW.trod enc Try.prog w 0 spare held fuel 31 cs = some x) : ∃ y : M, MovW (LtW w) w cs y := by
  obtain ⟨xs, k, ex, l1, l2, hf⟩ := open_st (n := 2) Try.underlying31 rfl (by kernel_rfl) (by kernel_rfl) h
  rcases cs with _ | ⟨v0, _ | ⟨v1, _ | ⟨_, _⟩⟩⟩ <;> simp at l2
  rcases xs with _ | ⟨y0, _ | ⟨y1, _ | ⟨_, _⟩⟩⟩ <;> simp at l1
  have g0 := hf 0 (by decide) (by simp) (by simp)
  obtain ⟨n0, e0, _, w0⟩ := DataW.trod_int Try.underlying3 g0
  obtain rfl := List.head_eq_of_cons_eq e0
  have g1 := hf 1 (by decide) (by simp) (by simp)
  obtain ⟨n1, e1, _, w1⟩ := DataW.trod_int Try.underlying3 g1
  obtain rfl := List.head_eq_of_cons_eq e1
  exact ⟨(n0, n1), rfl, w0, w1⟩
theorem open_moves {r : Reach} {b0 : Nat} {v : Value} {d : DataW H} {p : List MemPlace} (hv : Value.okWide Try.prog w r b0 22 v) (h : DataW.Trod enc Try.prog w 0 spare held 22 v d p) :
    ∃ a n c l, v = .slice a n c ∧ n = l.length ∧ n ≤ c ∧ WfL l ∧ MovZ w (.slice a n c) l := by
  obtain ⟨a0, n0, c0, rfl⟩ := okWide_slice Try.underlying22 hv
  obtain ⟨fuel, hf⟩ := h
  rcases Go.Deep.open_slice Try.underlying22 hf with ⟨hcs, _⟩ | ⟨a, len, cap, m, n, D, Pl, hcs, hb, hl, hm, hmm, _, hx⟩
  · simp [Value.cells] at hcs
    obtain ⟨rfl, rfl, rfl⟩ := hcs
    exact ⟨none, 0, 0, [], rfl, rfl, Nat.le_refl _, (fun m hm => by cases hm), SlS.nil _ _⟩
  · simp [Value.cells] at hcs
    obtain ⟨rfl, rfl, rfl⟩ := hcs
    have hlm : n0 ≤ m := by rw [hmm]; split <;> omega
    have hc2 : Try.prog.cellsOf 31 = 2 := by kernel_rfl
    obtain ⟨Y, hY⟩ := Go.Deep.choose_lt (α := M) (n := n0) (p := fun i y => ∃ cs', w.cells? 0 (a.add (i * 2)) 2 = some cs' ∧ MovW (LtW w) w cs' y) (fun i hi => by
      obtain ⟨cs', h1, h2⟩ := hx i (by omega)
      obtain ⟨y, h3⟩ := opn_move _ _ _ h2
      exact ⟨y, cs', by rw [← hc2]; exact h1, h3⟩)
    refine ⟨some a, n0, c0, (List.range n0).map Y, rfl, by simp, hl, fun m hm => ?_, some a, c0, by simp, fun i hi => ?_⟩
    · obtain ⟨i, hi, rfl⟩ := List.mem_map.1 hm
      obtain ⟨_, _, _, h3⟩ := hY i (List.mem_range.1 hi)
      exact h3
    · have hi' : i < n0 := by simpa using hi
      obtain ⟨cs', h1, h2, _⟩ := hY i hi'
      obtain ⟨_, hlen, hcell⟩ := World.cells?_some h1
      refine ⟨a, cs', rfl, ?_, fun j v hj => ?_, by simpa [FlatV] using h2⟩
      · have h0 := hcell 0 (by decide)
        rw [List.getElem?_eq_getElem (by omega)] at h0
        have := World.block_lt_of_cell? _ _ h0
        rw [addB_blk, addB_blk] at this
        exact this
      · rw [hcell j (by have := (List.getElem?_eq_some_iff.1 hj).1; omega)]
        exact hj
end

set_option maxRecDepth 100000 in
theorem movesCircles_lifted (os : Os) (started : os.Started) (H : Type) (enc : TypeId × Value → H) :
    ReturnsInHanded {} Try.checked os 4 .any (Rows.movesCirclesSpec.pre6 enc Try.prog Try.f4 Rows.movesCirclesRow.domain false) (Rows.movesCirclesSpec.post enc Try.prog Try.f4 false true false false) := by
  refine returnsInHanded_of_change (C := Try.checked) ownM started (by kernel_rfl) Try.func4
    (ChangeSpec.witness6 (enc := enc) (C := Try.checked) false ⟨#[], #[.slice none 0 0], []⟩ 8 (by kernel_rfl) (by kernel_rfl) (by kernel_rfl) (by kernel_rfl)) ?_
  intro W base args ds gs before hval0 hW hcnd _
  have hval : ∀ (j : Nat) t v, Try.f4.params[j]? = some t → args[j]? = some v → Value.okWide Try.prog W .any base t v := hval0
  have hW' := hW
  obtain ⟨p, q, hA0, hV, rfl, hfz, hnd⟩ := hW
  have hA : DataW.TrodAll enc Try.prog W 0 (fun _ => true) true Try.f4.params.toList args.toList ds p := hA0
  have hAA := hA
  have hlt : ∀ x ∈ p, x.block < W.heap.size := fun x hx => hW'.lt x (List.mem_append_left _ hx)
  rw [Try.params4] at hA hval
  obtain ⟨v0, vs0, d0, ds0, p0, q0, hargs, rfl, rfl, h0, r0⟩ := trodAll_cons hA
  obtain ⟨rfl, rfl, rfl⟩ := trodAll_nil r0
  obtain rfl : args = #[v0] := by cases args; simp_all
  obtain ⟨a0, n0, c0, l0, rfl, hn, hnc, hwf, hz⟩ := open_moves (hval 0 22 v0 rfl rfl) h0
  obtain ⟨rfl, rfl⟩ := trodVars_none hV
  have hread : ∀ t ∈ Try.f4.params.toList, Try.prog.readableRec t = true ∧ t < Try.prog.types.size := by
    have hall : (Try.f4.params.toList.all fun t => Try.prog.readableRec t && decide (t < Try.prog.types.size)) = true := by kernel_rfl
    intro t ht
    have h2 := List.all_eq_true.1 hall t ht
    rw [Bool.and_eq_true, decide_eq_true_eq] at h2
    exact h2
  refine (movesCircles_body _ _ _ l0 hn hnc hwf W hz).mono fun e W' ⟨he, hw⟩ => ?_
  subst he
  exact ⟨_, rfl, _, _, _, [], _, [], hW', trodAll_cons_mk (shut_bool Try.underlying4 _) trodAll_mk0, Lift.trodAll_below (by kernel_rfl) hw _ _ _ _ hread hAA hlt, rfl, hw.frame _, fun h => by cases h⟩

theorem movesCircles_holds : Rows.MovesCirclesSaid :=
  OpenClaim.holds_of_wide 4 Try.f4 rfl rfl rfl rfl rfl rfl rfl ⟨rfl, rfl, rfl, rfl, rfl⟩ rfl rfl rfl rfl rfl (by kernel_rfl) Try.func4 (by kernel_rfl)
    (of_decide_eq_true (by kernel_rfl)) (by unfold Func.isWrapper; first | (rw [if_pos (by decide +kernel)]; kernel_rfl) | (rw [if_neg (by decide +kernel)]; exact ⟨rfl, rfl⟩))
    (fun os started H enc _ => movesCircles_lifted os started H enc)
#print axioms movesCircles_holds
end Go.Proofs.Ytnbkcdhblmfopaa
