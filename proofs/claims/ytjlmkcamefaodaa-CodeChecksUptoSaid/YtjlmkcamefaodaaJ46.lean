/-
  Joined: CkB, CInst, CUse.
-/
import Derived.Test.YtjlmkcamefaodaaJ45
import Derived.Test.YtjlmkcamefaodaaJ14
/-! CkB: The code that a row reads, with what numbers are numbers. -/

namespace Go.Proofs.Ytjlmkcamefaodaa
open Go Go.ChangeShapes Go.WideShapes Go.RowKit Cd

section
variable {H : Type} {enc : TypeId × Value → H} {w : World} {spare : Nat → Bool} {held : Bool}
/-- What a thing of a row reads as, of a type, its bulk, and what else is known of it. -/
def OpnW (enc : TypeId × Value → H) (w : World) (spare : Nat → Bool) (held : Bool) (e : TypeId) {α : Type} (V : (Nat → Prop) → World → List Value → α → Prop) (bf : α → Nat) (wf : α → Prop) : Prop :=
  ∀ fuel cs x, DataW.trod enc Try.prog w 0 spare held fuel e cs = some x → ∃ y : α, V (LtW w) w cs y ∧ bf y ≤ Rows.uptoBulk x.1 ∧ wf y
theorem u8ok {n : Int} (h : (Lit.int .u8 n).wf = true) : 0 ≤ n ∧ n ≤ 255 := by
  have h1 : IntKind.u8.min = 0 := rfl
  have h2 : IntKind.u8.max = 255 := rfl
  simpa [Lit.wf, h1, h2] using h
theorem open_slw {α : Type} [Inhabited α] {k : Nat} {V : (Nat → Prop) → World → List Value → α → Prop} {t e : TypeId} {bf : α → Nat} {wf : α → Prop} (ht : Try.prog.underlying t = some (.slice e)) (hc : Try.prog.cellsOf e = k) (hk : 0 < k)
    (hV : OpnW enc w spare held e V bf wf) {fuel : Nat} {cs : List Value} {x : DataW H × List MemPlace} (h : DataW.trod enc Try.prog w 0 spare held fuel t cs = some x) :
    ∃ sv l, cs = [sv] ∧ SlS (LtW w) k V w sv l ∧ 1 + sumN bf l ≤ Rows.uptoBulk x.1 ∧ ∀ y ∈ l, wf y := by
  rcases Go.Deep.open_slice ht h with ⟨rfl, rfl⟩ | ⟨a, len, cap, m, n, D, Pl, rfl, hb, hl, hm, hmm, rfl, hx⟩
  · exact ⟨_, [], rfl, SlS.nil _ _, by simp [sumN, Rows.uptoBulk], by simp⟩
  · have hlm : len ≤ m := by rw [hmm]; split <;> omega
    obtain ⟨Y, hY⟩ := Go.Deep.choose_lt (α := α) (n := len) (p := fun i y => ∃ cs', w.cells? 0 (a.add (i * k)) k = some cs' ∧ V (LtW w) w cs' y ∧ bf y ≤ Rows.uptoBulk (D i) ∧ wf y) (fun i hi => by
      obtain ⟨cs', h1, h2⟩ := hx i (by omega)
      obtain ⟨y, h3, h4, h5⟩ := hV _ _ _ h2
      exact ⟨y, cs', by rw [← hc]; exact h1, h3, h4, h5⟩)
    refine ⟨_, (List.range len).map Y, rfl, ⟨some a, cap, by simp, by simpa using hl, fun i hi => ?_⟩, ?_, ?_⟩
    · have hi' : i < len := by simpa using hi
      obtain ⟨cs', h1, h2, _⟩ := hY i hi'
      obtain ⟨_, hlen, hcell⟩ := World.cells?_some h1
      refine ⟨a, cs', rfl, ?_, fun j v hj => ?_, by simpa using h2⟩
      · have h0 := hcell 0 hk
        rw [List.getElem?_eq_getElem (by omega)] at h0
        have := World.block_lt_of_cell? _ _ h0
        rw [addB_blk, addB_blk] at this
        exact this
      · rw [hcell j (by have := (List.getElem?_eq_some_iff.1 hj).1; omega)]
        exact hj
    · have := bulkAll_sum bf Y D (List.range len) (fun i hi => (hY i (List.mem_range.1 hi)).choose_spec.2.2.1)
      simp only [Rows.uptoBulk]
      omega
    · intro y hy
      obtain ⟨i, hi, rfl⟩ := List.mem_map.1 hy
      exact (hY i (List.mem_range.1 hi)).choose_spec.2.2.2
theorem opn_intw : OpnW enc w spare held 3 IntV (fun _ => 1) i64ok := fun fuel cs x h => by
  obtain ⟨n, rfl, rfl, f⟩ := DataW.trod_int Try.underlying3 h
  exact ⟨n, rfl, by simp [Rows.uptoBulk], f⟩
theorem opn_dbgw : OpnW enc w spare held 57 DbgV (fun _ => 1) WfD := fun fuel cs x h => by
  obtain ⟨xs, k, ex, l1, l2, hf⟩ := open_st (n := 6) Try.underlying57 rfl (by kernel_rfl) (by kernel_rfl) h
  rcases cs with _ | ⟨v0, _ | ⟨v1, _ | ⟨v2, _ | ⟨v3, _ | ⟨v4, _ | ⟨v5, _ | ⟨_, _⟩⟩⟩⟩⟩⟩⟩ <;> simp at l2
  rcases xs with _ | ⟨y0, _ | ⟨y1, _ | ⟨y2, _ | ⟨y3, _ | ⟨y4, _ | ⟨y5, _ | ⟨_, _⟩⟩⟩⟩⟩⟩⟩ <;> simp at l1
  have g0 := hf 0 (by decide) (by simp) (by simp)
  obtain ⟨n0, e0, _, f0⟩ := DataW.trod_int Try.underlying3 g0
  obtain rfl := List.head_eq_of_cons_eq e0
  have g1 := hf 1 (by decide) (by simp) (by simp)
  obtain ⟨n1, e1, _, f1⟩ := DataW.trod_int Try.underlying3 g1
  obtain rfl := List.head_eq_of_cons_eq e1
  have g2 := hf 2 (by decide) (by simp) (by simp)
  obtain ⟨n2, e2, _, f2⟩ := DataW.trod_int Try.underlying5 g2
  obtain rfl := List.head_eq_of_cons_eq e2
  have g3 := hf 3 (by decide) (by simp) (by simp)
  obtain ⟨n3, e3, _, f3⟩ := DataW.trod_int Try.underlying3 g3
  obtain rfl := List.head_eq_of_cons_eq e3
  have g4 := hf 4 (by decide) (by simp) (by simp)
  obtain ⟨n4, e4, _, f4⟩ := DataW.trod_int Try.underlying2 g4
  obtain rfl := List.head_eq_of_cons_eq e4
  have g5 := hf 5 (by decide) (by simp) (by simp)
  obtain ⟨n5, e5, _, f5⟩ := DataW.trod_int Try.underlying2 g5
  obtain rfl := List.head_eq_of_cons_eq e5
  refine ⟨⟨n0, n1, n2, n3, n4, n5⟩, rfl, ?_, ⟨f0, f1, u8ok f2, f3⟩⟩
  rw [ex]
  simp only [Rows.uptoBulk, List.map_cons, List.map_nil, Rows.uptoBulkAll]
  omega
theorem opn_spotw : OpnW enc w spare held 59 SpotV (fun _ => 1) (fun _ => True) := fun fuel cs x h => by
  obtain ⟨xs, k, ex, l1, l2, hf⟩ := open_st (n := 2) Try.underlying59 rfl (by kernel_rfl) (by kernel_rfl) h
  rcases cs with _ | ⟨v0, _ | ⟨v1, _ | ⟨_, _⟩⟩⟩ <;> simp at l2
  rcases xs with _ | ⟨y0, _ | ⟨y1, _ | ⟨_, _⟩⟩⟩ <;> simp at l1
  have g0 := hf 0 (by decide) (by simp) (by simp)
  obtain ⟨n0, e0, _, f0⟩ := DataW.trod_int Try.underlying3 g0
  obtain rfl := List.head_eq_of_cons_eq e0
  have g1 := hf 1 (by decide) (by simp) (by simp)
  obtain ⟨n1, e1, _, f1⟩ := DataW.trod_int Try.underlying3 g1
  obtain rfl := List.head_eq_of_cons_eq e1
  refine ⟨⟨n0, n1⟩, rfl, ?_, trivial⟩
  rw [ex]
  simp only [Rows.uptoBulk, List.map_cons, List.map_nil, Rows.uptoBulkAll]
  omega
theorem opn_instw : OpnW enc w spare held 44 InstV instN WfI := fun fuel cs x h => by
  obtain ⟨xs, k, ex, l1, l2, hf⟩ := open_st (n := 6) Try.underlying44 rfl (by kernel_rfl) (by kernel_rfl) h
  rcases cs with _ | ⟨v0, _ | ⟨v1, _ | ⟨v2, _ | ⟨v3, _ | ⟨v4, _ | ⟨v5, _ | ⟨_, _⟩⟩⟩⟩⟩⟩⟩ <;> simp at l2
  rcases xs with _ | ⟨y0, _ | ⟨y1, _ | ⟨y2, _ | ⟨y3, _ | ⟨y4, _ | ⟨y5, _ | ⟨_, _⟩⟩⟩⟩⟩⟩⟩ <;> simp at l1
  have g0 := hf 0 (by decide) (by simp) (by simp)
  obtain ⟨n0, e0, _, f0⟩ := DataW.trod_int Try.underlying5 g0
  obtain rfl := List.head_eq_of_cons_eq e0
  have g1 := hf 1 (by decide) (by simp) (by simp)
  obtain ⟨n1, e1, _, f1⟩ := DataW.trod_int Try.underlying3 g1
  obtain rfl := List.head_eq_of_cons_eq e1
  have g2 := hf 2 (by decide) (by simp) (by simp)
  obtain ⟨sv2, n2, e2, s2, b2, q2⟩ := open_slw (k := 1) (V := IntV) Try.underlying41 (by kernel_rfl) (by decide) opn_intw g2
  obtain rfl := List.head_eq_of_cons_eq e2
  have g3 := hf 3 (by decide) (by simp) (by simp)
  obtain ⟨n3, e3, _, f3⟩ := DataW.trod_int Try.underlying2 g3
  obtain rfl := List.head_eq_of_cons_eq e3
  have g4 := hf 4 (by decide) (by simp) (by simp)
  obtain ⟨n4, e4, _, f4⟩ := DataW.trod_int Try.underlying3 g4
  obtain rfl := List.head_eq_of_cons_eq e4
  have g5 := hf 5 (by decide) (by simp) (by simp)
  obtain ⟨sv5, n5, e5, s5, b5, q5⟩ := open_slw (k := 6) (V := DbgV) Try.underlying42 (by kernel_rfl) (by decide) opn_dbgw g5
  obtain rfl := List.head_eq_of_cons_eq e5
  refine ⟨⟨n0, n1, n2, n3, n4, n5⟩, ⟨_, _, rfl, s2, s5⟩, ?_, ⟨u8ok f0, f1, f3, f4, q2, q5⟩⟩
  rw [ex]
  simp only [Rows.uptoBulk, List.map_cons, List.map_nil, Rows.uptoBulkAll]
  simp only [List.getElem_cons_succ, List.getElem_cons_zero] at b2 b5
  rw [sum_ones] at b2 b5
  show 1 + n2.length + n5.length ≤ _
  omega
theorem opn_blockw : OpnW enc w spare held 40 BlockV (fun b => 1 + blockN b) WfB := fun fuel cs x h => by
  obtain ⟨xs, k, ex, l1, l2, hf⟩ := open_st (n := 6) Try.underlying40 rfl (by kernel_rfl) (by kernel_rfl) h
  rcases cs with _ | ⟨v0, _ | ⟨v1, _ | ⟨v2, _ | ⟨v3, _ | ⟨v4, _ | ⟨v5, _ | ⟨_, _⟩⟩⟩⟩⟩⟩⟩ <;> simp at l2
  rcases xs with _ | ⟨y0, _ | ⟨y1, _ | ⟨y2, _ | ⟨y3, _ | ⟨y4, _ | ⟨y5, _ | ⟨_, _⟩⟩⟩⟩⟩⟩⟩ <;> simp at l1
  have g0 := hf 0 (by decide) (by simp) (by simp)
  obtain ⟨sv0, n0, e0, s0, b0, q0⟩ := open_slw (k := 6) (V := InstV) Try.underlying38 (by kernel_rfl) (by decide) opn_instw g0
  obtain rfl := List.head_eq_of_cons_eq e0
  have g1 := hf 1 (by decide) (by simp) (by simp)
  obtain ⟨sv1, n1, e1, s1, b1, q1⟩ := open_slw (k := 6) (V := InstV) Try.underlying38 (by kernel_rfl) (by decide) opn_instw g1
  obtain rfl := List.head_eq_of_cons_eq e1
  have g2 := hf 2 (by decide) (by simp) (by simp)
  obtain ⟨n2, e2, _, f2⟩ := DataW.trod_int Try.underlying5 g2
  obtain rfl := List.head_eq_of_cons_eq e2
  have g3 := hf 3 (by decide) (by simp) (by simp)
  obtain ⟨n3, e3, _, f3⟩ := DataW.trod_int Try.underlying3 g3
  obtain rfl := List.head_eq_of_cons_eq e3
  have g4 := hf 4 (by decide) (by simp) (by simp)
  obtain ⟨n4, e4, _, f4⟩ := DataW.trod_int Try.underlying3 g4
  obtain rfl := List.head_eq_of_cons_eq e4
  have g5 := hf 5 (by decide) (by simp) (by simp)
  obtain ⟨n5, e5, _, f5⟩ := DataW.trod_int Try.underlying3 g5
  obtain rfl := List.head_eq_of_cons_eq e5
  refine ⟨⟨n0, n1, n2, n3, n4, n5⟩, ⟨_, _, rfl, s0, s1⟩, ?_, ⟨q0, q1, u8ok f2, f3, f4, f5⟩⟩
  rw [ex]
  simp only [Rows.uptoBulk, List.map_cons, List.map_nil, Rows.uptoBulkAll]
  simp only [List.getElem_cons_succ, List.getElem_cons_zero] at b0 b1
  show 1 + (sumN instN n0 + sumN instN n1) ≤ _
  omega
theorem opn_funw : OpnW enc w spare held 36 FunV (fun f => 1 + funN f) WfF := fun fuel cs x h => by
  obtain ⟨xs, k, ex, l1, l2, hf⟩ := open_st (n := 4) Try.underlying36 rfl (by kernel_rfl) (by kernel_rfl) h
  rcases cs with _ | ⟨v0, _ | ⟨v1, _ | ⟨v2, _ | ⟨v3, _ | ⟨_, _⟩⟩⟩⟩⟩ <;> simp at l2
  rcases xs with _ | ⟨y0, _ | ⟨y1, _ | ⟨y2, _ | ⟨y3, _ | ⟨_, _⟩⟩⟩⟩⟩ <;> simp at l1
  have g0 := hf 0 (by decide) (by simp) (by simp)
  obtain ⟨n0, e0, _, f0⟩ := DataW.trod_int Try.underlying3 g0
  obtain rfl := List.head_eq_of_cons_eq e0
  have g1 := hf 1 (by decide) (by simp) (by simp)
  obtain ⟨n1, e1, _, f1⟩ := DataW.trod_int Try.underlying3 g1
  obtain rfl := List.head_eq_of_cons_eq e1
  have g2 := hf 2 (by decide) (by simp) (by simp)
  obtain ⟨n2, e2, _, f2⟩ := DataW.trod_int Try.underlying3 g2
  obtain rfl := List.head_eq_of_cons_eq e2
  have g3 := hf 3 (by decide) (by simp) (by simp)
  obtain ⟨sv3, n3, e3, s3, b3, q3⟩ := open_slw (k := 6) (V := BlockV) Try.underlying34 (by kernel_rfl) (by decide) opn_blockw g3
  obtain rfl := List.head_eq_of_cons_eq e3
  refine ⟨⟨n0, n1, n2, n3⟩, ⟨_, rfl, s3⟩, ?_, ⟨⟨f0, f1, f2⟩, q3⟩⟩
  rw [ex]
  simp only [Rows.uptoBulk, List.map_cons, List.map_nil, Rows.uptoBulkAll]
  simp only [List.getElem_cons_succ, List.getElem_cons_zero] at b3
  rw [sum_succ] at b3
  show 1 + (n3.length + sumN blockN n3) ≤ _
  omega
theorem opn_stopw : OpnW enc w spare held 51 StopV (fun l => 1 + l.length) (fun _ => True) := fun fuel cs x h => by
  obtain ⟨sv, l, rfl, s, b, _⟩ := open_slw (k := 2) (V := SpotV) Try.underlying51 (by kernel_rfl) (by decide) opn_spotw h
  rw [sum_ones] at b
  exact ⟨l, ⟨sv, rfl, s⟩, b, trivial⟩
end
end Go.Proofs.Ytjlmkcamefaodaa

/-! CInst: A checker's questions of one instruction: a number, a copy, a print. -/

namespace Go.Proofs.Ytjlmkcamefaodaa
open Go Go.RowKit Go.Maps Cd

/-- An instruction by value. -/
abbrev instV (op : Nat) (dst : Int) (av : Value) (imm : Int) : Value := .agg #[.int .u8 (op : Int), I dst, av, I imm, I 0, .slice none 0 0]
abbrev instC (op : Nat) (dst : Int) (av : Value) (imm : Int) : Obj := .cells #[.int .u8 (op : Int), I dst, av, I imm, I 0, .slice none 0 0] 44

set_option maxRecDepth 100000 in
set_option maxHeartbeats 800000 in
theorem hasImm_const (kv av : Value) (dst imm blk : Int) (w : World) : Calls Try.prog 58 #[kv, instV 30 dst av imm, I blk] w fun e w' => e = .returned (.bool true) ∧ Below w.heap.size w w' := by
  have HB := Lib.hid ((Below.refl w.heap.size w).alloc (Nat.le_refl _) (instC 30 dst av imm))
  go_enter Try.func58, Try.ntmps58
  go_wp2_with fail
  go_ret
  exact ⟨rfl, HB.out⟩

set_option maxRecDepth 100000 in
set_option maxHeartbeats 800000 in
theorem hasSite_const (kv av : Value) (dst imm : Int) (w : World) : Calls Try.prog 59 #[kv, instV 30 dst av imm] w fun e w' => e = .returned (.bool true) ∧ Below w.heap.size w w' := by
  have HB := Lib.hid ((Below.refl w.heap.size w).alloc (Nat.le_refl _) (instC 30 dst av imm))
  go_enter Try.func59, Try.ntmps59
  go_wp2_with (go_at_call 68; refine (traps_any 30 _).mono ?_; rintro e w' ⟨rfl, rfl⟩)
  go_ret
  exact ⟨rfl, HB.out⟩

set_option maxRecDepth 100000 in
set_option maxHeartbeats 800000 in
theorem hasImm_copy (kv av : Value) (dst imm blk : Int) (w : World) : Calls Try.prog 58 #[kv, instV 31 dst av imm, I blk] w fun e w' => e = .returned (.bool true) ∧ Below w.heap.size w w' := by
  have HB := Lib.hid ((Below.refl w.heap.size w).alloc (Nat.le_refl _) (instC 31 dst av imm))
  go_enter Try.func58, Try.ntmps58
  go_wp2_with fail
  go_ret
  exact ⟨rfl, HB.out⟩

set_option maxRecDepth 100000 in
set_option maxHeartbeats 800000 in
theorem hasSite_copy (kv av : Value) (dst imm : Int) (w : World) : Calls Try.prog 59 #[kv, instV 31 dst av imm] w fun e w' => e = .returned (.bool true) ∧ Below w.heap.size w w' := by
  have HB := Lib.hid ((Below.refl w.heap.size w).alloc (Nat.le_refl _) (instC 31 dst av imm))
  go_enter Try.func59, Try.ntmps59
  go_wp2_with (go_at_call 68; refine (traps_any 31 _).mono ?_; rintro e w' ⟨rfl, rfl⟩)
  go_ret
  exact ⟨rfl, HB.out⟩

set_option maxRecDepth 100000 in
set_option maxHeartbeats 800000 in
theorem hasImm_print (kv av : Value) (dst imm blk : Int) (w : World) : Calls Try.prog 58 #[kv, instV 40 dst av imm, I blk] w fun e w' => e = .returned (.bool true) ∧ Below w.heap.size w w' := by
  have HB := Lib.hid ((Below.refl w.heap.size w).alloc (Nat.le_refl _) (instC 40 dst av imm))
  go_enter Try.func58, Try.ntmps58
  go_wp2_with fail
  go_ret
  exact ⟨rfl, HB.out⟩

set_option maxRecDepth 100000 in
set_option maxHeartbeats 800000 in
theorem hasSite_print (kv av : Value) (dst imm : Int) (w : World) : Calls Try.prog 59 #[kv, instV 40 dst av imm] w fun e w' => e = .returned (.bool true) ∧ Below w.heap.size w w' := by
  have HB := Lib.hid ((Below.refl w.heap.size w).alloc (Nat.le_refl _) (instC 40 dst av imm))
  go_enter Try.func59, Try.ntmps59
  go_wp2_with (go_at_call 68; refine (traps_any 40 _).mono ?_; rintro e w' ⟨rfl, rfl⟩)
  go_ret
  exact ⟨rfl, HB.out⟩

set_option maxRecDepth 100000 in
set_option maxHeartbeats 800000 in
theorem isInst_const (bk bm : Nat) (c0 c1 c3 c4 c5 c6 c7 c8 c9 : Value) (vals : Int) (f : Int → Option (Int × Int)) (n : Nat) (hn : n < 1000000) (v imm hb ha : Int) (hvs : 0 ≤ vals ∧ vals ≤ 60000) (hv : (Lit.int .i64 v).wf = true) (w : World) (h : CkB bk bm c0 c1 (I vals) c3 c4 c5 c6 c7 c8 c9 w) (hm : MadeW bm f n w) (hbk : bk ≠ bm) :
    Calls Try.prog 48 #[.pointer (some ⟨bk, 0, none⟩), instV 30 v (.slice none 0 0) imm, placeV hb ha] w fun e w' => e = .returned (.bool (!(f v).isSome && decide (0 ≤ v ∧ v ≤ vals - 1))) ∧ Noted bk bm c0 c1 (I vals) c3 c4 c5 c6 c7 c8 c9 f n v hb ha w w' := by
  have H := Lib.hid (And.intro h (And.intro hm (And.intro hbk (And.intro hn (And.intro hvs hv)))))
  obtain ⟨W, hW⟩ : ∃ W, W = (w.alloc (instC 30 v (.slice none 0 0) imm)).alloc (.cells #[I hb, I ha] 91) := ⟨_, rfl⟩
  have hbel : Below w.heap.size w W := by rw [hW]; exact ((Below.refl _ _).alloc (Nat.le_refl _) _).alloc (by simp) _
  obtain ⟨b4, hb4⟩ : ∃ b, b = w.heap.size := ⟨_, rfl⟩
  obtain ⟨b5, hb5⟩ : ∃ b, b = w.heap.size + 1 := ⟨_, rfl⟩
  have k4 : Blk b4 #[.int .u8 30, I v, .slice none 0 0, I imm, I 0, .slice none 0 0] 44 W := by rw [hW, hb4]; exact (Blk.new w _ _).alloc _
  have k5 : Blk b5 #[I hb, I ha] 91 W := by rw [hW, hb5]; exact Blk.new' _ _ _ (by simp)
  have HW := Lib.hid (And.intro hW (And.intro hb4 hb5))
  have HK := Lib.hid (And.intro hbel (And.intro k4 k5))
  clear h hm hbk hn hvs hv hW hb4 hb5 hbel k4 k5
  have x0 := HK.out.2.1.get 0 (.int .u8 30) rfl
  have x1 := HK.out.2.1.get 1 (I v) rfl
  have x2 := HK.out.2.1.get 2 (.slice none 0 0) rfl
  have x3 := HK.out.2.1.get 3 (I imm) rfl
  have x4 := HK.out.2.1.get 4 (I 0) rfl
  have x5 := HK.out.2.1.get 5 (.slice none 0 0) rfl
  have y0 := HK.out.2.2.get 0 (I hb) rfl
  have y1 := HK.out.2.2.get 1 (I ha) rfl
  go_enter Try.func48, Try.ntmps48
  go_upto_region 1 with (fail)
  rw [← HW.out.2.2, ← HW.out.2.1]
  change Code.wp _ _ _ _ ((w.alloc (instC 30 v (.slice none 0 0) imm)).alloc (.cells #[I hb, I ha] 91))
  rw [← HW.out.1]
  go_wp2_with (go_at_call 16; refine (shape_any 30 _).mono ?_; rintro e w' ⟨rfl, rfl⟩; unfold shapeV)
  refine (hasImm_const _ _ _ _ _ _).mono ?_
  rintro e w1 ⟨rfl, hb1⟩
  have k4 := HK.out.2.1.below hb1 HK.out.2.1.lt
  have k5 := HK.out.2.2.below hb1 HK.out.2.2.lt
  have x0 := k4.get 0 (.int .u8 30) rfl
  have x1 := k4.get 1 (I v) rfl
  have x2 := k4.get 2 (.slice none 0 0) rfl
  have x3 := k4.get 3 (I imm) rfl
  have x4 := k4.get 4 (I 0) rfl
  have x5 := k4.get 5 (.slice none 0 0) rfl
  have H1 := Lib.hid (And.intro (HK.out.1.trans (hb1.mono HK.out.1.size)) (And.intro k4 k5))
  clear hb1 k4 k5 y0 y1
  go_wp2_with fail
  refine (hasSite_const _ _ _ _ _).mono ?_
  rintro e w2 ⟨rfl, hb2⟩
  have k4 := H1.out.2.1.below hb2 H1.out.2.1.lt
  have k5 := H1.out.2.2.below hb2 H1.out.2.2.lt
  have x0 := k4.get 0 (.int .u8 30) rfl
  have x1 := k4.get 1 (I v) rfl
  have x2 := k4.get 2 (.slice none 0 0) rfl
  have y0 := k5.get 0 (I hb) rfl
  have y1 := k5.get 1 (I ha) rfl
  have hbl := H1.out.1.trans (hb2.mono H1.out.1.size)
  have hck := H.out.1.below hbl H.out.1.lt
  have hmd : MadeW bm f n w2 := by
    obtain ⟨D, ho, hD⟩ := H.out.2.1
    exact ⟨D, ho.kept (grown_of_below hbl) (by simp), hD⟩
  have HC := Lib.hid (makes_any bk bm c0 c1 c3 c4 c5 c6 c7 c8 c9 vals f n H.out.2.2.2.1 v hb ha H.out.2.2.2.2.1 H.out.2.2.2.2.2 w2 hck hmd H.out.2.2.1)
  have HL := Lib.hid hbl
  clear hb2 k4 k5 hbl hck hmd
  go_wp2_with fail
  refine HC.out.mono ?_
  rintro e w3 ⟨rfl, hN⟩
  have FIN := Lib.hid (show Noted bk bm c0 c1 (I vals) c3 c4 c5 c6 c7 c8 c9 f n v hb ha w w3 from ⟨hN.1, ⟨hN.2.os.trans HL.out.os, hN.2.tape.trans HL.out.tape, hN.2.output.trans HL.out.output, Nat.le_trans HL.out.size hN.2.size, fun i hi hne => (hN.2.block i (Nat.lt_of_lt_of_le hi HL.out.size) hne).trans (HL.out.block i hi)⟩⟩)
  clear hN
  obtain ⟨r, hr⟩ : ∃ r, r = (!(f v).isSome && decide (0 ≤ v ∧ v ≤ vals - 1)) := ⟨_, rfl⟩
  rw [← hr]
  have HR := Lib.hid hr
  clear hr
  go_wp2_with fail
  go_ret
  exact ⟨by rw [← HR.out]; rfl, FIN.out⟩

set_option maxRecDepth 100000 in
set_option maxHeartbeats 800000 in
theorem isInst_copy (ba : Nat) (bk bm : Nat) (c0 c1 c3 c4 c5 c6 c7 c8 c9 : Value) (vals : Int) (f : Int → Option (Int × Int)) (n : Nat) (hn : n < 1000000) (v imm hb ha : Int) (hvs : 0 ≤ vals ∧ vals ≤ 60000) (hv : (Lit.int .i64 v).wf = true) (w : World) (h : CkB bk bm c0 c1 (I vals) c3 c4 c5 c6 c7 c8 c9 w) (hm : MadeW bm f n w) (hbk : bk ≠ bm) :
    Calls Try.prog 48 #[.pointer (some ⟨bk, 0, none⟩), instV 31 v (.slice (some ⟨ba, 0, none⟩) 1 1) imm, placeV hb ha] w fun e w' => e = .returned (.bool (!(f v).isSome && decide (0 ≤ v ∧ v ≤ vals - 1))) ∧ Noted bk bm c0 c1 (I vals) c3 c4 c5 c6 c7 c8 c9 f n v hb ha w w' := by
  have H := Lib.hid (And.intro h (And.intro hm (And.intro hbk (And.intro hn (And.intro hvs hv)))))
  obtain ⟨W, hW⟩ : ∃ W, W = (w.alloc (instC 31 v (.slice (some ⟨ba, 0, none⟩) 1 1) imm)).alloc (.cells #[I hb, I ha] 91) := ⟨_, rfl⟩
  have hbel : Below w.heap.size w W := by rw [hW]; exact ((Below.refl _ _).alloc (Nat.le_refl _) _).alloc (by simp) _
  obtain ⟨b4, hb4⟩ : ∃ b, b = w.heap.size := ⟨_, rfl⟩
  obtain ⟨b5, hb5⟩ : ∃ b, b = w.heap.size + 1 := ⟨_, rfl⟩
  have k4 : Blk b4 #[.int .u8 31, I v, .slice (some ⟨ba, 0, none⟩) 1 1, I imm, I 0, .slice none 0 0] 44 W := by rw [hW, hb4]; exact (Blk.new w _ _).alloc _
  have k5 : Blk b5 #[I hb, I ha] 91 W := by rw [hW, hb5]; exact Blk.new' _ _ _ (by simp)
  have HW := Lib.hid (And.intro hW (And.intro hb4 hb5))
  have HK := Lib.hid (And.intro hbel (And.intro k4 k5))
  clear h hm hbk hn hvs hv hW hb4 hb5 hbel k4 k5
  have x0 := HK.out.2.1.get 0 (.int .u8 31) rfl
  have x1 := HK.out.2.1.get 1 (I v) rfl
  have x2 := HK.out.2.1.get 2 (.slice (some ⟨ba, 0, none⟩) 1 1) rfl
  have x3 := HK.out.2.1.get 3 (I imm) rfl
  have x4 := HK.out.2.1.get 4 (I 0) rfl
  have x5 := HK.out.2.1.get 5 (.slice none 0 0) rfl
  have y0 := HK.out.2.2.get 0 (I hb) rfl
  have y1 := HK.out.2.2.get 1 (I ha) rfl
  go_enter Try.func48, Try.ntmps48
  go_upto_region 1 with (fail)
  rw [← HW.out.2.2, ← HW.out.2.1]
  change Code.wp _ _ _ _ ((w.alloc (instC 31 v (.slice (some ⟨ba, 0, none⟩) 1 1) imm)).alloc (.cells #[I hb, I ha] 91))
  rw [← HW.out.1]
  go_wp2_with (go_at_call 16; refine (shape_any 31 _).mono ?_; rintro e w' ⟨rfl, rfl⟩; unfold shapeV)
  refine (hasImm_copy _ _ _ _ _ _).mono ?_
  rintro e w1 ⟨rfl, hb1⟩
  have k4 := HK.out.2.1.below hb1 HK.out.2.1.lt
  have k5 := HK.out.2.2.below hb1 HK.out.2.2.lt
  have x0 := k4.get 0 (.int .u8 31) rfl
  have x1 := k4.get 1 (I v) rfl
  have x2 := k4.get 2 (.slice (some ⟨ba, 0, none⟩) 1 1) rfl
  have x3 := k4.get 3 (I imm) rfl
  have x4 := k4.get 4 (I 0) rfl
  have x5 := k4.get 5 (.slice none 0 0) rfl
  have H1 := Lib.hid (And.intro (HK.out.1.trans (hb1.mono HK.out.1.size)) (And.intro k4 k5))
  clear hb1 k4 k5 y0 y1
  go_wp2_with fail
  refine (hasSite_copy _ _ _ _ _).mono ?_
  rintro e w2 ⟨rfl, hb2⟩
  have k4 := H1.out.2.1.below hb2 H1.out.2.1.lt
  have k5 := H1.out.2.2.below hb2 H1.out.2.2.lt
  have x0 := k4.get 0 (.int .u8 31) rfl
  have x1 := k4.get 1 (I v) rfl
  have x2 := k4.get 2 (.slice (some ⟨ba, 0, none⟩) 1 1) rfl
  have y0 := k5.get 0 (I hb) rfl
  have y1 := k5.get 1 (I ha) rfl
  have hbl := H1.out.1.trans (hb2.mono H1.out.1.size)
  have hck := H.out.1.below hbl H.out.1.lt
  have hmd : MadeW bm f n w2 := by
    obtain ⟨D, ho, hD⟩ := H.out.2.1
    exact ⟨D, ho.kept (grown_of_below hbl) (by simp), hD⟩
  have HC := Lib.hid (makes_any bk bm c0 c1 c3 c4 c5 c6 c7 c8 c9 vals f n H.out.2.2.2.1 v hb ha H.out.2.2.2.2.1 H.out.2.2.2.2.2 w2 hck hmd H.out.2.2.1)
  have HL := Lib.hid hbl
  clear hb2 k4 k5 hbl hck hmd
  go_wp2_with fail
  refine HC.out.mono ?_
  rintro e w3 ⟨rfl, hN⟩
  have FIN := Lib.hid (show Noted bk bm c0 c1 (I vals) c3 c4 c5 c6 c7 c8 c9 f n v hb ha w w3 from ⟨hN.1, ⟨hN.2.os.trans HL.out.os, hN.2.tape.trans HL.out.tape, hN.2.output.trans HL.out.output, Nat.le_trans HL.out.size hN.2.size, fun i hi hne => (hN.2.block i (Nat.lt_of_lt_of_le hi HL.out.size) hne).trans (HL.out.block i hi)⟩⟩)
  clear hN
  obtain ⟨r, hr⟩ : ∃ r, r = (!(f v).isSome && decide (0 ≤ v ∧ v ≤ vals - 1)) := ⟨_, rfl⟩
  rw [← hr]
  have HR := Lib.hid hr
  clear hr
  go_wp2_with fail
  go_ret
  exact ⟨by rw [← HR.out]; rfl, FIN.out⟩

set_option maxRecDepth 100000 in
set_option maxHeartbeats 800000 in
theorem isInst_print (ba : Nat) (kv : Value) (imm hb ha : Int) (w : World) :
    Calls Try.prog 48 #[kv, instV 40 (-1) (.slice (some ⟨ba, 0, none⟩) 1 1) imm, placeV hb ha] w fun e w' => e = .returned (.bool true) ∧ Below w.heap.size w w' := by
  obtain ⟨W, hW⟩ : ∃ W, W = (w.alloc (instC 40 (-1) (.slice (some ⟨ba, 0, none⟩) 1 1) imm)).alloc (.cells #[I hb, I ha] 91) := ⟨_, rfl⟩
  have hbel : Below w.heap.size w W := by rw [hW]; exact ((Below.refl _ _).alloc (Nat.le_refl _) _).alloc (by simp) _
  obtain ⟨b4, hb4⟩ : ∃ b, b = w.heap.size := ⟨_, rfl⟩
  obtain ⟨b5, hb5⟩ : ∃ b, b = w.heap.size + 1 := ⟨_, rfl⟩
  have k4 : Blk b4 #[.int .u8 40, I (-1), .slice (some ⟨ba, 0, none⟩) 1 1, I imm, I 0, .slice none 0 0] 44 W := by rw [hW, hb4]; exact (Blk.new w _ _).alloc _
  have k5 : Blk b5 #[I hb, I ha] 91 W := by rw [hW, hb5]; exact Blk.new' _ _ _ (by simp)
  have HW := Lib.hid (And.intro hW (And.intro hb4 hb5))
  have HK := Lib.hid (And.intro hbel (And.intro k4 k5))
  clear hW hb4 hb5 hbel k4 k5
  have x0 := HK.out.2.1.get 0 (.int .u8 40) rfl
  have x1 := HK.out.2.1.get 1 (I (-1)) rfl
  have x2 := HK.out.2.1.get 2 (.slice (some ⟨ba, 0, none⟩) 1 1) rfl
  have x3 := HK.out.2.1.get 3 (I imm) rfl
  have x4 := HK.out.2.1.get 4 (I 0) rfl
  have x5 := HK.out.2.1.get 5 (.slice none 0 0) rfl
  have y0 := HK.out.2.2.get 0 (I hb) rfl
  have y1 := HK.out.2.2.get 1 (I ha) rfl
  go_enter Try.func48, Try.ntmps48
  go_upto_region 1 with (fail)
  rw [← HW.out.2.2, ← HW.out.2.1]
  change Code.wp _ _ _ _ ((w.alloc (instC 40 (-1) (.slice (some ⟨ba, 0, none⟩) 1 1) imm)).alloc (.cells #[I hb, I ha] 91))
  rw [← HW.out.1]
  go_wp2_with (go_at_call 16; refine (shape_any 40 _).mono ?_; rintro e w' ⟨rfl, rfl⟩; unfold shapeV)
  refine (hasImm_print _ _ _ _ _ _).mono ?_
  rintro e w1 ⟨rfl, hb1⟩
  have k4 := HK.out.2.1.below hb1 HK.out.2.1.lt
  have k5 := HK.out.2.2.below hb1 HK.out.2.2.lt
  have x0 := k4.get 0 (.int .u8 40) rfl
  have x1 := k4.get 1 (I (-1)) rfl
  have x2 := k4.get 2 (.slice (some ⟨ba, 0, none⟩) 1 1) rfl
  have x3 := k4.get 3 (I imm) rfl
  have x4 := k4.get 4 (I 0) rfl
  have x5 := k4.get 5 (.slice none 0 0) rfl
  have H1 := Lib.hid (And.intro (HK.out.1.trans (hb1.mono HK.out.1.size)) (And.intro k4 k5))
  clear hb1 k4 k5 y0 y1
  go_wp2_with fail
  refine (hasSite_print _ _ _ _ _).mono ?_
  rintro e w2 ⟨rfl, hb2⟩
  have k4 := H1.out.2.1.below hb2 H1.out.2.1.lt
  have x0 := k4.get 0 (.int .u8 40) rfl
  have x1 := k4.get 1 (I (-1)) rfl
  have x2 := k4.get 2 (.slice (some ⟨ba, 0, none⟩) 1 1) rfl
  have FIN := Lib.hid (H1.out.1.trans (hb2.mono H1.out.1.size))
  clear hb2 k4
  go_wp2_with fail
  go_ret
  exact ⟨rfl, FIN.out⟩
end Go.Proofs.Ytjlmkcamefaodaa

/-! CUse: A checker's question whether an instruction may use what it uses: of none, of one. -/

namespace Go.Proofs.Ytjlmkcamefaodaa
open Go Go.RowKit Go.Maps Cd

set_option maxRecDepth 100000 in
set_option maxHeartbeats 800000 in
theorem mayUse_none (kv : Value) (dst imm hb ha : Int) (w : World) : Calls Try.prog 50 #[kv, instV 30 dst (.slice none 0 0) imm, placeV hb ha] w fun e w' => e = .returned (.bool true) ∧ Below w.heap.size w w' := by
  have HB := Lib.hid (((Below.refl w.heap.size w).alloc (Nat.le_refl _) (instC 30 dst (.slice none 0 0) imm)).alloc (by simp) (.cells #[I hb, I ha] 91))
  go_enter Try.func50, Try.ntmps50
  go_wp2_with fail
  refine wp_loop_rounds 1 ?_
  rw [rounds_succ]
  go_wp2_with fail
  go_ret
  exact ⟨rfl, HB.out⟩

/-- Of one Arg: a copy, a print. -/
def OneUse (op : Nat) : Prop := op = 31 ∨ op = 40

set_option maxRecDepth 100000 in
set_option maxHeartbeats 1600000 in
theorem mayUse_one (op : Nat) (hop : OneUse op) (ba : Nat) (x : Int) (bk bm : Nat) (c0 c1 c2 c3 c4 c5 c6 c7 c8 c9 : Value) (f : Int → Option (Int × Int)) (n : Nat) (dst imm hb ha : Int) (hx : (Lit.int .i64 x).wf = true) (w : World) (h : CkB bk bm c0 c1 c2 c3 c4 c5 c6 c7 c8 c9 w) (hm : MadeW bm f n w) (hba : Blk ba #[I x] 3 w) (pb pa : Int) (hp : (f x).getD (0, 0) = (pb, pa)) (hn : pb = hb) :
    Calls Try.prog 50 #[.pointer (some ⟨bk, 0, none⟩), instV op dst (.slice (some ⟨ba, 0, none⟩) 1 1) imm, placeV hb ha] w fun e w' => e = .returned (.bool ((f x).isSome && decide (pa < ha))) ∧ Below w.heap.size w w' := by
  obtain ⟨W, hW⟩ : ∃ W, W = (w.alloc (instC op dst (.slice (some ⟨ba, 0, none⟩) 1 1) imm)).alloc (.cells #[I hb, I ha] 91) := ⟨_, rfl⟩
  have hbel : Below w.heap.size w W := by rw [hW]; exact ((Below.refl _ _).alloc (Nat.le_refl _) _).alloc (by simp) _
  obtain ⟨b4, hb4⟩ : ∃ b, b = w.heap.size := ⟨_, rfl⟩
  obtain ⟨b5, hb5⟩ : ∃ b, b = w.heap.size + 1 := ⟨_, rfl⟩
  have k4 : Blk b4 #[.int .u8 (op : Int), I dst, .slice (some ⟨ba, 0, none⟩) 1 1, I imm, I 0, .slice none 0 0] 44 W := by rw [hW, hb4]; exact (Blk.new w _ _).alloc _
  have k5 : Blk b5 #[I hb, I ha] 91 W := by rw [hW, hb5]; exact Blk.new' _ _ _ (by simp)
  have hmd : MadeW bm f n W := by
    obtain ⟨D, ho, hD⟩ := hm
    exact ⟨D, ho.kept (grown_of_below hbel) (by simp), hD⟩
  have HC := Lib.hid (isMade_near bk bm c0 c1 c2 c3 c4 c5 c6 c7 c8 c9 f n x hb ha hx W (h.below hbel h.lt) hmd pb pa hp hn)
  have ca := (hba.below hbel hba.lt).get 0 (I x) rfl
  have x0 := k4.get 0 (.int .u8 (op : Int)) rfl
  have x2 := k4.get 2 (.slice (some ⟨ba, 0, none⟩) 1 1) rfl
  have y0 := k5.get 0 (I hb) rfl
  have y1 := k5.get 1 (I ha) rfl
  have HW := Lib.hid (And.intro hW (And.intro hb4 hb5))
  have HK := Lib.hid (And.intro hbel k4)
  have h42 : ((op : Int) == 42) = false := by rcases hop with rfl | rfl <;> rfl
  have h39 : ((op : Int) == 39) = false := by rcases hop with rfl | rfl <;> rfl
  have g42 : ((op : Int) != 42) = true := by rcases hop with rfl | rfl <;> rfl
  have g39 : ((op : Int) != 39) = true := by rcases hop with rfl | rfl <;> rfl
  obtain ⟨r, hr⟩ : ∃ r, r = ((f x).isSome && decide (pa < ha)) := ⟨_, rfl⟩
  rw [← hr] at HC ⊢
  clear hr h hm hba hx hp hn hW hb4 hb5 hbel k4 k5 hmd
  go_enter Try.func50, Try.ntmps50
  go_upto_region 1 with (fail)
  rw [← HW.out.2.2, ← HW.out.2.1]
  change Code.wp _ _ _ _ ((w.alloc (instC op dst (.slice (some ⟨ba, 0, none⟩) 1 1) imm)).alloc (.cells #[I hb, I ha] 91))
  rw [← HW.out.1]
  go_wp2_with fail
  refine wp_loop_rounds 2 ?_
  rw [rounds_succ]
  go_wp2_with fail
  refine HC.out.mono ?_
  rintro e w1 ⟨rfl, hb1⟩
  have x0 := (HK.out.2.below hb1 HK.out.2.lt).get 0 (.int .u8 (op : Int)) rfl
  have FIN := Lib.hid (HK.out.1.trans (hb1.mono HK.out.1.size))
  clear hb1
  cases r
  · go_wp2_with fail
    go_ret
    exact ⟨rfl, FIN.out⟩
  · go_wp2_with fail
    rw [rounds_succ]
    go_wp2_with fail
    go_ret
    exact ⟨rfl, FIN.out⟩
end Go.Proofs.Ytjlmkcamefaodaa
