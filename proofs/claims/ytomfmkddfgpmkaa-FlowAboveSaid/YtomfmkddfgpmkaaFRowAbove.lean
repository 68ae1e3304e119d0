/-
  FlowAbove holds: at every graph, from every heap: the function returns true, and its argument reads as it did.
-/
import Derived.Test.YtomfmkddfgpmkaaFRow2
import Derived.Test.YtomfmkddfgpmkaaLift
import Derived.Test.YtomfmkddfgpmkaaRows
import Derived.ProofKit
import Derived.OpenShut
import Derived.Deep.Matrix
namespace Go.Proofs.Ytomfmkddfgpmkaa
open Go Go.ChangeShapes Go.WideShapes Go.ChangeAt Go.RowKit Fl

theorem own : ownKnob Try.prog.godebug = none := by kernel_rfl

/-- A graph as a row reads it: it lies somewhere, with room where it says so. -/
theorem graph_open {H : Type} {enc : TypeId × Value → H} {W : World} {a0 : Option Addr} {n0 c0 : Nat} {d : DataW H} {p : List MemPlace} (h : DataW.Trod enc Try.prog W 0 (fun _ => true) true 22 (.slice a0 n0 c0) d p) :
    ∃ Z : List (List Int), (Z.length ≤ 9223372036854775807 ∧ ∀ i (h : i < Z.length), Z[i].length ≤ 9223372036854775807) ∧ GZc W (.slice a0 n0 c0) Z := by
  obtain ⟨fuel, hf⟩ := h
  rcases Go.Deep.open_int_rows Try.underlying22 Try.underlying25 Try.underlying3 (by kernel_rfl) (by kernel_rfl) hf with ⟨hcs0, _⟩ | ⟨a, len, cap, A, L, C, Z, hcs0, _, hl, hm, _, hrows⟩
  · simp [Value.cells] at hcs0
    obtain ⟨rfl, rfl, rfl⟩ := hcs0
    exact ⟨[], ⟨by simp, by simp⟩, none, 0, rfl, fun i hi => absurd hi (by simp)⟩
  · simp [Value.cells] at hcs0
    obtain ⟨rfl, rfl, rfl⟩ := hcs0
    have hmx : maxLen ≤ 9223372036854775807 := Nat.le_refl _
    have hrl : ∀ i, i < n0 → ((Z i).take (L i)).length = L i := fun i hi => by
      obtain ⟨_, h2, _, h4, _⟩ := hrows i (by omega)
      rw [List.length_take]
      omega
    refine ⟨(List.range n0).map (fun r => (Z r).take (L r)), ⟨by simp; omega, fun i hi => ?_⟩, some a, c0, by simp, fun i hi => ?_⟩
    · have hi' : i < n0 := by simpa using hi
      obtain ⟨_, h2, h3, _⟩ := hrows i (by omega)
      rw [List.getElem_map, List.getElem_range, hrl i hi']
      omega
    · have hi' : i < n0 := by simpa using hi
      obtain ⟨h1, h2, h3, h4, h5, h6, h7⟩ := hrows i (by omega)
      have hb : a.block < W.heap.size := by
        have := block_lt_of_cell h1
        rw [add_block] at this
        exact this
      refine ⟨a, _, rfl, hb, h1, ⟨A i, C i, ?_, fun j hj => ?_⟩, A i, L i, C i, rfl, h2⟩
      · rw [List.getElem_map, List.getElem_range, hrl i hi']
      · have hj' : j < L i := by
          rw [List.getElem_map, List.getElem_range, hrl i hi'] at hj
          exact hj
        cases hA : A i with
        | none => have := h6 hA; omega
        | some b =>
          have hc := (h7 b hA).2 j (by omega)
          refine ⟨b, rfl, ?_, ?_⟩
          · have := block_lt_of_cell hc
            rw [add_block] at this
            exact this
          · rw [hc]
            have hjz : j < (Z i).length := by omega
            simp [List.getD_eq_getElem?_getD, List.getElem?_eq_getElem hjz]

set_option maxRecDepth 100000 in
theorem flowAbove_lifted (os : Os) (started : os.Started) (H : Type) (enc : TypeId × Value → H) :
    ReturnsInHanded {} Try.checked os 4 .any (Rows.flowAboveSpec.pre6 enc Try.prog Try.f4 Rows.flowAboveRow.domain false) (Rows.flowAboveSpec.post enc Try.prog Try.f4 false true false false) := by
  refine returnsInHanded_of_change (C := Try.checked) own started (by kernel_rfl) Try.func4
    (ChangeSpec.witness6 (enc := enc) (C := Try.checked) false ⟨#[], #[.slice none 0 0], []⟩ 8 (by kernel_rfl) (by kernel_rfl) (by kernel_rfl) (by kernel_rfl)) ?_
  intro W base args ds gs before hval0 hW hcnd _
  have hval : ∀ (j : Nat) t v, Try.f4.params[j]? = some t → args[j]? = some v → Value.okWide Try.prog W .any base t v := hval0
  have hW' := hW
  obtain ⟨p, q, hA0, hV, rfl, hfz, hnd⟩ := hW
  have hA : DataW.TrodAll enc Try.prog W 0 (fun _ => true) true Try.f4.params.toList args.toList ds p := hA0
  have hAA := hA
  have hlt : ∀ x ∈ p, x.block < W.heap.size := fun x hx => hW'.lt x (List.mem_append_left _ hx)
  rw [Try.params4] at hA hval
  obtain ⟨v0, vs0, d0, ds0, p0, q0, hargs, rfl, rfl, h0, r0⟩ := trodAll_cons hA
  obtain ⟨rfl, rfl, rfl⟩ := trodAll_nil r0
  obtain rfl : args = #[v0] := by cases args; simp_all
  obtain ⟨rfl, rfl⟩ := trodVars_none hV
  obtain ⟨a0, n0, c0, rfl⟩ := okWide_slice Try.underlying22 (hval 0 22 v0 rfl rfl)
  obtain ⟨Z, hz, hg⟩ := graph_open h0
  have hread : ∀ t ∈ Try.f4.params.toList, Try.prog.readableRec t = true ∧ t < Try.prog.types.size := by
    have hall : (Try.f4.params.toList.all fun t => Try.prog.readableRec t && decide (t < Try.prog.types.size)) = true := by kernel_rfl
    intro t ht
    have h2 := List.all_eq_true.1 hall t ht
    rw [Bool.and_eq_true, decide_eq_true_eq] at h2
    exact h2
  refine (flowAbove_any _ Z hz W hg).mono fun e W' ⟨he, hw⟩ => ?_
  subst he
  exact ⟨_, rfl, _, _, _, [], _, [], hW', trodAll_cons_mk (shut_bool Try.underlying4 _) trodAll_mk0, Lift.trodAll_below (by kernel_rfl) hw _ _ _ _ hread hAA hlt, rfl, hw.frame _, fun h => by cases h⟩

theorem flowAbove_holds : Rows.FlowAboveSaid :=
  OpenClaim.holds_of_wide 4 Try.f4 rfl rfl rfl rfl rfl rfl rfl ⟨rfl, rfl, rfl, rfl, rfl⟩ rfl rfl rfl rfl rfl (by kernel_rfl) Try.func4 (by kernel_rfl)
    (of_decide_eq_true (by kernel_rfl)) (by unfold Func.isWrapper; first | (rw [if_pos (by decide +kernel)]; kernel_rfl) | (rw [if_neg (by decide +kernel)]; exact ⟨rfl, rfl⟩))
    (fun os started H enc _ => flowAbove_lifted os started H enc)
#print axioms flowAbove_holds
end Go.Proofs.Ytomfmkddfgpmkaa
