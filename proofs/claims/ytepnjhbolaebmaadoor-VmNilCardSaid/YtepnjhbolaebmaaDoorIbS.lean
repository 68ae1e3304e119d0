/-
  The small functions of instructions: what an Op names, by the program and by the document's answer.
-/
import Derived.Test.YtepnjhbolaebmaaDoorFMem
import Derived.Test.YtepnjhbolaebmaaDoorIbQ
import Derived.Laws.ResultCell
namespace Go.Proofs.YtepnjhbolaebmaaDoor
open Go Go.RowKit Ib

/-- A byte. -/
abbrev B8 (n : Nat) : Value := .int .u8 (n : Int)
abbrev bys (l : List Nat) : List Value := l.map B8
section
variable {P : Program}
theorem results_row2 {fn : Func} {p u : Tmp} {ty : TypeId} (h : fn.results = #[.cell p ty, .tmp u]) (tmps : Array Value) (w : World) (g : Nat) (t : TypeId) (cs : Array Value) (fr : Nat × Nat) (d : TypeDesc)
    (hp : tmps.getD p undef = .pointer (some ⟨g, 0, none⟩)) (hg : w.heap[g]? = some (.cells cs t fr))
    (hu : P.underlying ty = some d) (hd : (match d with | .struct _ | .array _ _ => true | _ => false) = true) (hi : (P.info? ty).map (·.size) = some cs.size) :
    (results fn tmps).run P w = .ok (.tuple #[.agg cs, tmps.getD u undef]) w := by
  have hp' : tmps[p]?.getD undef = .pointer (some ⟨g, 0, none⟩) := by simpa using hp
  simp [results, h, hp', asAddr, Sem.run_bind, Result.andThen, run_loadVar_row w g t ty cs fr d hg hu hd hi]
theorem results_row3 {fn : Func} {p u v : Tmp} {ty : TypeId} (h : fn.results = #[.cell p ty, .tmp u, .tmp v]) (tmps : Array Value) (w : World) (g : Nat) (t : TypeId) (cs : Array Value) (fr : Nat × Nat) (d : TypeDesc)
    (hp : tmps.getD p undef = .pointer (some ⟨g, 0, none⟩)) (hg : w.heap[g]? = some (.cells cs t fr))
    (hu : P.underlying ty = some d) (hd : (match d with | .struct _ | .array _ _ => true | _ => false) = true) (hi : (P.info? ty).map (·.size) = some cs.size) :
    (results fn tmps).run P w = .ok (.tuple #[.agg cs, tmps.getD u undef, tmps.getD v undef]) w := by
  have hp' : tmps[p]?.getD undef = .pointer (some ⟨g, 0, none⟩) := by simpa using hp
  simp [results, h, hp', asAddr, Sem.run_bind, Result.andThen, run_loadVar_row w g t ty cs fr d hg hu hd hi]
end

def trapsI (op : Nat) : Bool := op == 4 || op == 5 || op == 34 || op == 35 || op == 41 || op == 43
set_option maxRecDepth 100000 in
set_option maxHeartbeats 800000 in
theorem traps_any (op : Nat) (w : World) : Calls Tryd.prog 74 #[B8 op] w fun e w' => e = .returned (.bool (trapsI op)) ∧ w = w' := by
  go_enter Tryd.func74, Tryd.ntmps74
  go_wp2_with fail
  all_goals go_ret
  all_goals refine ⟨ret_bool ?_, rfl⟩
  all_goals simp only [beq_iff_eq, beq_eq_false_iff_ne] at *
  all_goals (unfold trapsI; simp; try omega)
set_option maxRecDepth 100000 in
set_option maxHeartbeats 800000 in
theorem refTraps_any (op : Nat) (w : World) : Calls Tryd.prog 53 #[B8 op] w fun e w' => e = .returned (.bool (trapsI op)) ∧ w = w' := by
  go_enter Tryd.func53, Tryd.ntmps53
  go_wp2_with fail
  all_goals go_ret
  all_goals refine ⟨ret_bool ?_, rfl⟩
  all_goals try simp only [beq_iff_eq, beq_eq_false_iff_ne] at *
  all_goals (unfold trapsI; rw [Bool.eq_iff_iff]; simp; try omega)

theorem info80 : (Tryd.prog.info? 174).map (·.size) = some 3 := by kernel_rfl
def shT (op : Nat) (e : Ending) : Prop := (names op = none ∧ e = .returned (.tuple #[.agg #[I 0, I 0, I 0], .bool false])) ∨ ∃ n im, names op = some (n, im) ∧ e = .returned (.tuple #[.agg #[I (n : Int), I (least op), I (most op)], .bool true])
theorem shT_none {op : Nat} (h : ¬ (1 ≤ op ∧ op ≤ 16)) (h2 : ¬ (19 ≤ op ∧ op ≤ 21)) (h3 : op < 30 ∨ 48 < op) : shT op (.returned (.tuple #[.agg #[I 0, I 0, I 0], .bool false])) :=
  Or.inl ⟨by unfold names; rw [if_neg h, if_neg h2, if_pos h3], rfl⟩
theorem shT_low {op : Nat} (h : 1 ≤ op ∧ op ≤ 16) : shT op (.returned (.tuple #[.agg #[I 3, I 0, I 0], .bool true])) :=
  Or.inr ⟨3, false, by unfold names; rw [if_pos h], by
    have e1 : least op = 0 := by unfold least; rw [if_neg (by omega), if_neg (by omega)]
    have e2 : most op = 0 := by unfold most; rw [if_neg (by omega), if_neg (by omega), if_neg (by omega), if_neg (by omega)]
    rw [e1, e2]; rfl⟩
theorem shT_at {op n : Nat} {im : Bool} {a b : Int} (h : names op = some (n, im)) (h1 : least op = a) (h2 : most op = b) : shT op (.returned (.tuple #[.agg #[I (n : Int), I a, I b], .bool true])) :=
  Or.inr ⟨n, im, h, by rw [h1, h2]⟩
theorem shT_is {op : Nat} (k : Nat) {e : Ending} (h : op = k) (h2 : shT k e) : shT op e := by rw [h]; exact h2
set_option maxRecDepth 100000 in
set_option maxHeartbeats 3200000 in
theorem shapeOf_any (op : Nat) (w : World) : Calls Tryd.prog 85 #[B8 op] w fun e w' => shT op e ∧ Below w.heap.size w w' := by
  go_enter Tryd.func85, Tryd.ntmps85
  go_wp2_with fail
  all_goals refine bodyPost_ret (results_row2 rfl _ _ w.heap.size 174 _ (0, 0) _ rfl (heap_alloc_new _ _) Tryd.underlying174 rfl info80) rfl ?_
  all_goals refine ⟨?_, (Below.refl _ _).alloc (Nat.le_refl _) _⟩
  all_goals simp only [beq_iff_eq, beq_eq_false_iff_ne] at *
  all_goals first | exact shT_low (by omega) | exact shT_none (by omega) (by omega) (by omega) | (refine shT_is 44 ?_ (Or.inr ⟨_, _, rfl, rfl⟩); omega) | (refine shT_is 45 ?_ (Or.inr ⟨_, _, rfl, rfl⟩); omega) | (refine shT_is 41 ?_ (Or.inr ⟨_, _, rfl, rfl⟩); omega) | (refine shT_is 46 ?_ (Or.inr ⟨_, _, rfl, rfl⟩); omega) | (refine shT_is 30 ?_ (Or.inr ⟨_, _, rfl, rfl⟩); omega) | (refine shT_is 32 ?_ (Or.inr ⟨_, _, rfl, rfl⟩); omega) | (refine shT_is 33 ?_ (Or.inr ⟨_, _, rfl, rfl⟩); omega) | (refine shT_is 37 ?_ (Or.inr ⟨_, _, rfl, rfl⟩); omega) | (refine shT_is 48 ?_ (Or.inr ⟨_, _, rfl, rfl⟩); omega) | (refine shT_is 38 ?_ (Or.inr ⟨_, _, rfl, rfl⟩); omega) | (refine shT_is 39 ?_ (Or.inr ⟨_, _, rfl, rfl⟩); omega) | (refine shT_is 40 ?_ (Or.inr ⟨_, _, rfl, rfl⟩); omega) | (refine shT_is 42 ?_ (Or.inr ⟨_, _, rfl, rfl⟩); omega) | (refine shT_is 43 ?_ (Or.inr ⟨_, _, rfl, rfl⟩); omega) | (refine shT_is 47 ?_ (Or.inr ⟨_, _, rfl, rfl⟩); omega) | (refine shT_is 19 ?_ (Or.inr ⟨_, _, rfl, rfl⟩); omega) | (refine shT_is 20 ?_ (Or.inr ⟨_, _, rfl, rfl⟩); omega) | (refine shT_is 21 ?_ (Or.inr ⟨_, _, rfl, rfl⟩); omega) | (refine shT_is 31 ?_ (Or.inr ⟨_, _, rfl, rfl⟩); omega) | (refine shT_is 36 ?_ (Or.inr ⟨_, _, rfl, rfl⟩); omega) | (refine shT_is 34 ?_ (Or.inr ⟨_, _, rfl, rfl⟩); omega) | (refine shT_is 35 ?_ (Or.inr ⟨_, _, rfl, rfl⟩); omega)
end Go.Proofs.YtepnjhbolaebmaaDoor
