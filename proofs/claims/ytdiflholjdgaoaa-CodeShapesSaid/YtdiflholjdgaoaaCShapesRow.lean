/-
  CodeShapes holds: at every Op, from every heap: the function returns true, and its argument reads as it did.
-/
import Derived.Test.YtdiflholjdgaoaaCPlain
import Derived.Test.YtdiflholjdgaoaaCRefShape
import Derived.Test.YtdiflholjdgaoaaRows
import Derived.ProofKit
import Derived.OpenShut
namespace Go.Proofs.Ytdiflholjdgaoaa
open Go Go.ChangeShapes Go.WideShapes Go.ChangeAt Go.RowKit Cd

set_option maxRecDepth 100000 in
set_option maxHeartbeats 1600000 in
theorem codeShapes_any (op : Nat) (ho : op < 256) (w : World) : Calls Try.prog 10 #[.int .u8 (op : Int)] w fun e w' => e = .returned (.bool true) ∧ Below w.heap.size w w' := by
  obtain ⟨p, hp⟩ : ∃ p, p = shapeF op := ⟨_, rfl⟩
  obtain ⟨a, b, c⟩ := p
  have HS := Lib.hid (shape_any op w)
  have HR := Lib.hid fun w => refShape_any op ho w
  have HP := Lib.hid fun w => pure_any op w
  have HP' := Lib.hid fun w => refPure_any op w
  have HT := Lib.hid fun w => traps_any op w
  have HT' := Lib.hid fun w => refTraps_any op w
  rw [← hp] at HS HR
  obtain ⟨q, hq⟩ : ∃ q, q = pureB op := ⟨_, rfl⟩
  obtain ⟨t, ht⟩ : ∃ t, t = trapsB op := ⟨_, rfl⟩
  rw [← hq] at HP HP'
  rw [← ht] at HT HT'
  clear hp hq ht
  go_enter Try.func10, Try.ntmps10
  go_wp2_with fail
  refine HS.out.mono ?_
  rintro e w' ⟨rfl, rfl⟩
  unfold shapeV
  go_wp2_with fail
  refine (HR.out w).mono ?_
  rintro e w1 ⟨rfl, b1⟩
  have H1 := Lib.hid b1
  clear b1
  unfold shapeV
  go_wp2_with fail
  refine (awake_code w1).mono ?_
  rintro e w2 ⟨rfl, b2⟩
  have H2 := Lib.hid (H1.out.trans (b2.mono H1.out.size))
  clear b2
  go_wp2_with fail
  refine (HP.out w2).mono ?_
  rintro e w' ⟨rfl, rfl⟩
  go_wp2_with fail
  refine (HP'.out w2).mono ?_
  rintro e w' ⟨rfl, rfl⟩
  go_wp2_with fail
  refine (HT.out w2).mono ?_
  rintro e w' ⟨rfl, rfl⟩
  go_wp2_with fail
  refine (HT'.out w2).mono ?_
  rintro e w' ⟨rfl, rfl⟩
  go_wp2_with fail
  go_ret
  exact ⟨rfl, H2.out⟩

theorem own : ownKnob Try.prog.godebug = none := by kernel_rfl

set_option maxRecDepth 100000 in
theorem codeShapes_lifted (os : Os) (started : os.Started) (H : Type) (enc : TypeId × Value → H) :
    ReturnsInHanded {} Try.checked os 10 .any (Rows.codeShapesSpec.pre6 enc Try.prog Try.f10 Rows.codeShapesRow.domain false) (Rows.codeShapesSpec.post enc Try.prog Try.f10 false true false false) := by
  refine returnsInHanded_of_change (C := Try.checked) own started (by kernel_rfl) Try.func10
    (ChangeSpec.witness6 (enc := enc) (C := Try.checked) false ⟨#[], #[.int .u8 0], []⟩ 8 (by kernel_rfl) (by kernel_rfl) (by kernel_rfl) (by kernel_rfl)) ?_
  intro W base args ds gs before hval0 hW hcnd _
  have hval : ∀ (j : Nat) t v, Try.f10.params[j]? = some t → args[j]? = some v → Value.okWide Try.prog W .any base t v := hval0
  have hW' := hW
  obtain ⟨p, q, hA0, hV, rfl, hfz, hnd⟩ := hW
  have hA : DataW.TrodAll enc Try.prog W 0 (fun _ => true) true Try.f10.params.toList args.toList ds p := hA0
  rw [Try.params10] at hA hval
  obtain ⟨v0, vs0, d0, ds0, p0, q0, hargs, rfl, rfl, h0, r0⟩ := trodAll_cons hA
  obtain ⟨rfl, rfl, rfl⟩ := trodAll_nil r0
  obtain rfl : args = #[v0] := by cases args; simp_all
  obtain ⟨rfl, rfl⟩ := trodVars_none hV
  obtain ⟨a0, rfl, rfl, rfl, w0⟩ := open_int Try.underlying5 (hval 0 5 v0 rfl rfl) h0
  clear hA0 hval0
  simp only [List.append_nil] at hW'
  have hb := bounds_u8 w0
  obtain ⟨k, rfl⟩ : ∃ k : Nat, a0 = (k : Int) := ⟨a0.toNat, by omega⟩
  refine (codeShapes_any k (by omega) W).mono fun e W' ⟨he, hw⟩ => ?_
  subst he
  exact ⟨_, rfl, _, _, _, [], [], [], hW', trodAll_cons_mk (shut_bool Try.underlying4 _) trodAll_mk0, trodAll_cons_mk (shut_int Try.underlying5 w0) trodAll_mk0, rfl, hw.frame _, fun h => by cases h⟩

theorem codeShapes_holds : Rows.CodeShapesSaid :=
  OpenClaim.holds_of_wide 10 Try.f10 rfl rfl rfl rfl rfl rfl rfl ⟨rfl, rfl, rfl, rfl, rfl⟩ rfl rfl rfl rfl rfl (by kernel_rfl) Try.func10 (by kernel_rfl)
    (of_decide_eq_true (by kernel_rfl)) (by unfold Func.isWrapper; first | (rw [if_pos (by decide +kernel)]; kernel_rfl) | (rw [if_neg (by decide +kernel)]; exact ⟨rfl, rfl⟩))
    (fun os started H enc _ => codeShapes_lifted os started H enc)
#print axioms codeShapes_holds
end Go.Proofs.Ytdiflholjdgaoaa
