/-
  CodeChecks holds, where what it reads is of bulk at most 1048576: from every heap: the function returns true, and its argument reads as it did.
-/
import Derived.Test.YtjlmkcamefaodaaJ45
import Derived.Test.YtjlmkcamefaodaaJ46
import Derived.Test.YtjlmkcamefaodaaJ49
import Derived.Test.YtjlmkcamefaodaaRows
import Derived.Lib.SmallJoins
import Derived.ProofKit
import Derived.OpenShut
import Derived.JoinedCond
namespace Go.Proofs.Ytjlmkcamefaodaa
open Go Go.ChangeShapes Go.WideShapes Go.ChangeAt Go.RowKit Cd

theorem ownC : ownKnob Try.prog.godebug = none := by kernel_rfl
set_option maxRecDepth 100000 in
/-- Code as a row reads it. -/
theorem code_open {H : Type} {enc : TypeId × Value → H} {w : World} {spare : Nat → Bool} {held : Bool} {r : Reach} {b0 : Nat} {v : Value} {d : DataW H} {p : List MemPlace} (hv : Value.okWide Try.prog w r b0 25 v)
    (h : DataW.Trod enc Try.prog w 0 spare held 25 v d p) : ∃ c : CodeP, CodeZ w v c ∧ totN c ≤ Rows.uptoBulk d ∧ WfC c := by
  obtain ⟨v0, v1, v2, y0, y1, y2, n, rfl, rfl, rfl, h0, h1, h2⟩ := _root_.Go.Joins.open_agg3 Try.underlying25 (by kernel_rfl) (by kernel_rfl) hv h
  obtain ⟨fv, fs, e0, s0, q0, p0⟩ := open_slw (k := 4) (V := FunV) Try.underlying22 (by kernel_rfl) (by decide) opn_funw h0
  obtain ⟨sv, ss, e1, s1, q1, _⟩ := open_slw (k := 1) (V := StopV) Try.underlying23 (by kernel_rfl) (by decide) opn_stopw h1
  obtain ⟨m, e2, _, f2⟩ := DataW.trod_int Try.underlying3 h2
  obtain rfl := List.head_eq_of_cons_eq e0
  obtain rfl := List.head_eq_of_cons_eq e1
  obtain rfl := List.head_eq_of_cons_eq e2
  refine ⟨⟨fs, ss, m⟩, ⟨_, _, rfl, s0, s1⟩, ?_, f2, p0⟩
  rw [sum_succ] at q0 q1
  simp only [Rows.uptoBulk, Rows.uptoBulkAll]
  show fs.length + ss.length + sumN List.length ss + sumN funN fs ≤ _
  omega

set_option maxRecDepth 100000 in
theorem codeChecks_lifted (os : Os) (started : os.Started) (H : Type) (enc : TypeId × Value → H) (F : Stop.Interp) :
    ReturnsInHanded {} Try.checked os 3 .any ((Rows.OpenSpec.upto Rows.codeChecksSpec).pre6 enc Try.prog Try.f3 Rows.codeChecksUptoRow.domain false) (((Rows.OpenSpec.upto Rows.codeChecksSpec).at F).post enc Try.prog Try.f3 false true false false) := by
  refine returnsInHanded_of_cond (C := Try.checked) (s := Rows.OpenSpec.upto Rows.codeChecksSpec) (k := Rows.uptoSmall) rfl ownC started (by kernel_rfl) Try.func3
    (OpenSpec.witness (enc := enc) (C := Try.checked) (s := Rows.OpenSpec.upto Rows.codeChecksSpec) (k := Rows.uptoSmall) rfl false ⟨#[], #[.agg #[.slice none 0 0, .slice none 0 0, .int .i64 0]], []⟩ 8 (by kernel_rfl) (by kernel_rfl) (by kernel_rfl)
      (x := ([.agg [.nil, .nil, .lit (.int .i64 0)]], [], [])) (by kernel_rfl) rfl (by kernel_rfl)) ?_
  intro W base args ds gs before hval0 hW _ hk _
  have hval : ∀ (j : Nat) t v, Try.f3.params[j]? = some t → args[j]? = some v → Value.okWide Try.prog W .any base t v := hval0
  have hW' := hW
  obtain ⟨p, q, hA0, hV, rfl, hfz, hnd⟩ := hW
  have hA : DataW.TrodAll enc Try.prog W 0 (fun _ => true) true Try.f3.params.toList args.toList ds p := hA0
  have hAA := hA
  have hlt : ∀ x ∈ p, x.block < W.heap.size := fun x hx => hW'.lt x (List.mem_append_left _ hx)
  rw [Try.params3] at hA hval
  obtain ⟨v0, vs0, d0, ds0, p0, q0, hargs, rfl, rfl, h0, r0⟩ := trodAll_cons hA
  obtain ⟨rfl, rfl, rfl⟩ := trodAll_nil r0
  obtain rfl : args = #[v0] := by cases args; simp_all
  obtain ⟨rfl, rfl⟩ := trodVars_none hV
  obtain ⟨c, hc, hb, hwf⟩ := code_open (hval 0 25 v0 rfl rfl) h0
  have hT : totN c ≤ 4000000 := by
    have h1 := of_decide_eq_true hk
    simp only [List.cons_append, List.nil_append, Rows.uptoBulkAll] at h1
    omega
  have hread : ∀ t ∈ Try.f3.params.toList, Try.prog.readableRec t = true ∧ t < Try.prog.types.size := by
    have hall : (Try.f3.params.toList.all fun t => Try.prog.readableRec t && decide (t < Try.prog.types.size)) = true := by kernel_rfl
    intro t ht
    have h2 := List.all_eq_true.1 hall t ht
    rw [Bool.and_eq_true, decide_eq_true_eq] at h2
    exact h2
  refine (checks_body awake_code _ c hT hwf W hc).mono fun e W' ⟨he, hw⟩ => ?_
  subst he
  exact ⟨_, rfl, _, _, _, [], _, [], hW', trodAll_cons_mk (shut_bool Try.underlying4 _) trodAll_mk0, Lift.trodAll_below (by kernel_rfl) hw _ _ _ _ hread hAA hlt, rfl, hw.frame _, fun h => by cases h⟩

theorem codeChecks_over : Rows.codeChecksUptoRow.holds Try.pinned (Rows.OpenSpec.upto Rows.codeChecksSpec) :=
  OpenClaim.holds_of_cond 3 Try.f3 rfl rfl rfl rfl rfl rfl rfl ⟨rfl, rfl, rfl, rfl, rfl⟩ rfl rfl rfl rfl rfl (by kernel_rfl) Try.func3 (by kernel_rfl)
    (of_decide_eq_true (by kernel_rfl)) (by unfold Func.isWrapper; first | (rw [if_pos (by decide +kernel)]; kernel_rfl) | (rw [if_neg (by decide +kernel)]; exact ⟨rfl, rfl⟩))
    (fun os started H enc _ F => codeChecks_lifted os started H enc F)
theorem codeChecks_holds : Rows.CodeChecksUptoSaid := codeChecks_over
#print axioms codeChecks_holds
end Go.Proofs.Ytjlmkcamefaodaa
