/-
  The code that a row reads: how it lies in memory, and that its size is at most its bulk.
-/
import Derived.Test.YtiimcckajjpbjaaCdF
import Derived.Test.YtiimcckajjpbjaaRows
import Derived.Deep.Slices
import Derived.ChangeArms
import Derived.KernelRfl
namespace Go.Proofs.Ytiimcckajjpbjaa
open Go Go.ChangeShapes Go.WideShapes Go.RowKit Cd

instance : Inhabited DbgP := ⟨⟨0, 0, 0, 0, 0, 0⟩⟩
instance : Inhabited InstP := ⟨⟨0, 0, [], 0, 0, []⟩⟩
instance : Inhabited BlockP := ⟨⟨[], [], 0, 0, 0, 0⟩⟩
instance : Inhabited FunP := ⟨⟨0, 0, 0, []⟩⟩
instance : Inhabited SpotP := ⟨⟨0, 0⟩⟩
section
variable {H : Type} {enc : TypeId × Value → H} {w : World} {spare : Nat → Bool} {held : Bool}

theorem bulkAll_sum {α : Type} (bf : α → Nat) (Y : Nat → α) (D : Nat → DataW H) : ∀ L : List Nat, (∀ i ∈ L, bf (Y i) ≤ Rows.uptoBulk (D i)) → sumN bf (L.map Y) ≤ Rows.uptoBulkAll (L.map D)
  | [], _ => by simp [sumN, Rows.uptoBulkAll]
  | i :: L, h => by
    have h1 := bulkAll_sum bf Y D L (fun j hj => h j (by simp [hj]))
    have h2 := h i (by simp)
    simp only [sumN, List.map_cons, List.sum_cons, Rows.uptoBulkAll] at h1 ⊢
    omega
/-- What a thing of a row reads as, of a type, and its bulk. -/
def OpnV (enc : TypeId × Value → H) (w : World) (spare : Nat → Bool) (held : Bool) (e : TypeId) {α : Type} (V : (Nat → Prop) → World → List Value → α → Prop) (bf : α → Nat) : Prop :=
  ∀ fuel cs x, DataW.trod enc Try.prog w 0 spare held fuel e cs = some x → ∃ y : α, V (LtW w) w cs y ∧ bf y ≤ Rows.uptoBulk x.1
theorem open_sl {α : Type} [Inhabited α] {k : Nat} {V : (Nat → Prop) → World → List Value → α → Prop} {t e : TypeId} {bf : α → Nat} (ht : Try.prog.underlying t = some (.slice e)) (hc : Try.prog.cellsOf e = k) (hk : 0 < k)
    (hV : OpnV enc w spare held e V bf) {fuel : Nat} {cs : List Value} {x : DataW H × List MemPlace} (h : DataW.trod enc Try.prog w 0 spare held fuel t cs = some x) :
    ∃ sv l, cs = [sv] ∧ SlS (LtW w) k V w sv l ∧ 1 + sumN bf l ≤ Rows.uptoBulk x.1 := by
  rcases Go.Deep.open_slice ht h with ⟨rfl, rfl⟩ | ⟨a, len, cap, m, n, D, Pl, rfl, hb, hl, hm, hmm, rfl, hx⟩
  · exact ⟨_, [], rfl, SlS.nil _ _, by simp [sumN, Rows.uptoBulk]⟩
  · have hlm : len ≤ m := by rw [hmm]; split <;> omega
    obtain ⟨Y, hY⟩ := Go.Deep.choose_lt (α := α) (n := len) (p := fun i y => ∃ cs', w.cells? 0 (a.add (i * k)) k = some cs' ∧ V (LtW w) w cs' y ∧ bf y ≤ Rows.uptoBulk (D i)) (fun i hi => by
      obtain ⟨cs', h1, h2⟩ := hx i (by omega)
      obtain ⟨y, h3, h4⟩ := hV _ _ _ h2
      exact ⟨y, cs', by rw [← hc]; exact h1, h3, h4⟩)
    refine ⟨_, (List.range len).map Y, rfl, ⟨some a, cap, by simp, fun i hi => ?_⟩, ?_⟩
    · have hi' : i < len := by simpa using hi
      obtain ⟨cs', h1, h2, _⟩ := hY i hi'
      obtain ⟨_, hlen, hcell⟩ := World.cells?_some h1
      refine ⟨a, cs', rfl, ?_, fun j v hj => ?_, by simpa using h2⟩
      · have h0 := hcell 0 hk
        rw [List.getElem?_eq_getElem (by omega)] at h0
        have := World.block_lt_of_cell? _ _ h0
        rw [addB_blk, addB_blk] at this
        exact this
      · rw [hcell j (by have := (List.getElem?_eq_some_iff.1 hj).1; omega)]
        exact hj
    · have := bulkAll_sum bf Y D (List.range len) (fun i hi => (hY i (List.mem_range.1 hi)).choose_spec.2.2)
      simp only [Rows.uptoBulk]
      omega
/-- A struct whose fields are one cell each. -/
theorem open_st {e : TypeId} {fs : Array Field} {n : Nat} (he : Try.prog.underlying e = some (.struct fs)) (hn : fs.size = n) (hc : Try.prog.cellsOf e = n) (hob : ((List.range n).all fun i => match fs[i]? with | some f => f.offset == i && Try.prog.cellsOf f.type == 1 | none => false) = true)
    {fuel : Nat} {cs : List Value} {x : DataW H × List MemPlace} (h : DataW.trod enc Try.prog w 0 spare held fuel e cs = some x) :
    ∃ (xs : List (DataW H × List MemPlace)) (k : Nat), x.1 = .agg (xs.map (·.1)) ∧ xs.length = n ∧ cs.length = n ∧ ∀ i (h : i < fs.size) (h1 : i < cs.length) (h2 : i < xs.length), DataW.trod enc Try.prog w 0 spare held k fs[i].type [cs[i]] = some xs[i] := by
  have ho : ∀ i (h : i < fs.size), fs[i].offset = i ∧ Try.prog.cellsOf fs[i].type = 1 := fun i hi => by
    have h1 := List.all_eq_true.1 hob i (by simp; omega)
    rw [Array.getElem?_eq_getElem hi] at h1
    simpa using h1
  obtain ⟨xs, k, _, rfl, h2, h3, h4⟩ := DataW.trod_struct he h
  refine ⟨xs, k, rfl, by omega, by omega, fun i hi h1 h2' => ?_⟩
  have h5 := h4 i fs[i] (Array.getElem?_eq_getElem hi)
  rw [(ho i hi).1, (ho i hi).2, List.getElem?_eq_getElem h2'] at h5
  rw [← h5, List.drop_eq_getElem_cons h1]
  rfl
theorem opn_int : OpnV enc w spare held 3 IntV (fun _ => 1) := fun fuel cs x h => by
  obtain ⟨n, rfl, rfl, _⟩ := DataW.trod_int Try.underlying3 h
  exact ⟨n, rfl, by simp [Rows.uptoBulk]⟩
theorem opn_dbg : OpnV enc w spare held 52 DbgV (fun _ => 1) := fun fuel cs x h => by
  obtain ⟨xs, k, ex, l1, l2, hf⟩ := open_st (n := 6) Try.underlying52 rfl (by kernel_rfl) (by kernel_rfl) h
  rcases cs with _ | ⟨v0, _ | ⟨v1, _ | ⟨v2, _ | ⟨v3, _ | ⟨v4, _ | ⟨v5, _ | ⟨_, _⟩⟩⟩⟩⟩⟩⟩ <;> simp at l2
  rcases xs with _ | ⟨y0, _ | ⟨y1, _ | ⟨y2, _ | ⟨y3, _ | ⟨y4, _ | ⟨y5, _ | ⟨_, _⟩⟩⟩⟩⟩⟩⟩ <;> simp at l1
  have g0 := hf 0 (by decide) (by simp) (by simp)
  obtain ⟨n0, e0, _, _⟩ := DataW.trod_int Try.underlying3 g0
  obtain rfl := List.head_eq_of_cons_eq e0
  have g1 := hf 1 (by decide) (by simp) (by simp)
  obtain ⟨n1, e1, _, _⟩ := DataW.trod_int Try.underlying3 g1
  obtain rfl := List.head_eq_of_cons_eq e1
  have g2 := hf 2 (by decide) (by simp) (by simp)
  obtain ⟨n2, e2, _, _⟩ := DataW.trod_int Try.underlying5 g2
  obtain rfl := List.head_eq_of_cons_eq e2
  have g3 := hf 3 (by decide) (by simp) (by simp)
  obtain ⟨n3, e3, _, _⟩ := DataW.trod_int Try.underlying3 g3
  obtain rfl := List.head_eq_of_cons_eq e3
  have g4 := hf 4 (by decide) (by simp) (by simp)
  obtain ⟨n4, e4, _, _⟩ := DataW.trod_int Try.underlying2 g4
  obtain rfl := List.head_eq_of_cons_eq e4
  have g5 := hf 5 (by decide) (by simp) (by simp)
  obtain ⟨n5, e5, _, _⟩ := DataW.trod_int Try.underlying2 g5
  obtain rfl := List.head_eq_of_cons_eq e5
  refine ⟨⟨n0, n1, n2, n3, n4, n5⟩, rfl, ?_⟩
  rw [ex]
  simp only [Rows.uptoBulk, List.map_cons, List.map_nil, Rows.uptoBulkAll]
  omega
theorem opn_spot : OpnV enc w spare held 41 SpotV (fun _ => 1) := fun fuel cs x h => by
  obtain ⟨xs, k, ex, l1, l2, hf⟩ := open_st (n := 2) Try.underlying41 rfl (by kernel_rfl) (by kernel_rfl) h
  rcases cs with _ | ⟨v0, _ | ⟨v1, _ | ⟨_, _⟩⟩⟩ <;> simp at l2
  rcases xs with _ | ⟨y0, _ | ⟨y1, _ | ⟨_, _⟩⟩⟩ <;> simp at l1
  have g0 := hf 0 (by decide) (by simp) (by simp)
  obtain ⟨n0, e0, _, _⟩ := DataW.trod_int Try.underlying3 g0
  obtain rfl := List.head_eq_of_cons_eq e0
  have g1 := hf 1 (by decide) (by simp) (by simp)
  obtain ⟨n1, e1, _, _⟩ := DataW.trod_int Try.underlying3 g1
  obtain rfl := List.head_eq_of_cons_eq e1
  refine ⟨⟨n0, n1⟩, rfl, ?_⟩
  rw [ex]
  simp only [Rows.uptoBulk, List.map_cons, List.map_nil, Rows.uptoBulkAll]
  omega
theorem sum_ones {α : Type} (l : List α) : sumN (fun _ => 1) l = l.length := by
  induction l with
  | nil => rfl
  | cons a l ih => simp only [sumN, List.map_cons, List.sum_cons, List.length_cons] at ih ⊢; omega
theorem opn_inst : OpnV enc w spare held 50 InstV instN := fun fuel cs x h => by
  obtain ⟨xs, k, ex, l1, l2, hf⟩ := open_st (n := 6) Try.underlying50 rfl (by kernel_rfl) (by kernel_rfl) h
  rcases cs with _ | ⟨v0, _ | ⟨v1, _ | ⟨v2, _ | ⟨v3, _ | ⟨v4, _ | ⟨v5, _ | ⟨_, _⟩⟩⟩⟩⟩⟩⟩ <;> simp at l2
  rcases xs with _ | ⟨y0, _ | ⟨y1, _ | ⟨y2, _ | ⟨y3, _ | ⟨y4, _ | ⟨y5, _ | ⟨_, _⟩⟩⟩⟩⟩⟩⟩ <;> simp at l1
  have g0 := hf 0 (by decide) (by simp) (by simp)
  obtain ⟨n0, e0, _, _⟩ := DataW.trod_int Try.underlying5 g0
  obtain rfl := List.head_eq_of_cons_eq e0
  have g1 := hf 1 (by decide) (by simp) (by simp)
  obtain ⟨n1, e1, _, _⟩ := DataW.trod_int Try.underlying3 g1
  obtain rfl := List.head_eq_of_cons_eq e1
  have g2 := hf 2 (by decide) (by simp) (by simp)
  obtain ⟨sv2, n2, e2, s2, b2⟩ := open_sl (k := 1) (V := IntV) Try.underlying47 (by kernel_rfl) (by decide) opn_int g2
  obtain rfl := List.head_eq_of_cons_eq e2
  have g3 := hf 3 (by decide) (by simp) (by simp)
  obtain ⟨n3, e3, _, _⟩ := DataW.trod_int Try.underlying2 g3
  obtain rfl := List.head_eq_of_cons_eq e3
  have g4 := hf 4 (by decide) (by simp) (by simp)
  obtain ⟨n4, e4, _, _⟩ := DataW.trod_int Try.underlying3 g4
  obtain rfl := List.head_eq_of_cons_eq e4
  have g5 := hf 5 (by decide) (by simp) (by simp)
  obtain ⟨sv5, n5, e5, s5, b5⟩ := open_sl (k := 6) (V := DbgV) Try.underlying48 (by kernel_rfl) (by decide) opn_dbg g5
  obtain rfl := List.head_eq_of_cons_eq e5
  refine ⟨⟨n0, n1, n2, n3, n4, n5⟩, ⟨_, _, rfl, s2, s5⟩, ?_⟩
  rw [ex]
  simp only [Rows.uptoBulk, List.map_cons, List.map_nil, Rows.uptoBulkAll]
  simp only [List.getElem_cons_succ, List.getElem_cons_zero] at b2 b5
  rw [sum_ones] at b2 b5
  show 1 + n2.length + n5.length ≤ _
  omega
theorem opn_block : OpnV enc w spare held 45 BlockV (fun b => 1 + blockN b) := fun fuel cs x h => by
  obtain ⟨xs, k, ex, l1, l2, hf⟩ := open_st (n := 6) Try.underlying45 rfl (by kernel_rfl) (by kernel_rfl) h
  rcases cs with _ | ⟨v0, _ | ⟨v1, _ | ⟨v2, _ | ⟨v3, _ | ⟨v4, _ | ⟨v5, _ | ⟨_, _⟩⟩⟩⟩⟩⟩⟩ <;> simp at l2
  rcases xs with _ | ⟨y0, _ | ⟨y1, _ | ⟨y2, _ | ⟨y3, _ | ⟨y4, _ | ⟨y5, _ | ⟨_, _⟩⟩⟩⟩⟩⟩⟩ <;> simp at l1
  have g0 := hf 0 (by decide) (by simp) (by simp)
  obtain ⟨sv0, n0, e0, s0, b0⟩ := open_sl (k := 6) (V := InstV) Try.underlying43 (by kernel_rfl) (by decide) opn_inst g0
  obtain rfl := List.head_eq_of_cons_eq e0
  have g1 := hf 1 (by decide) (by simp) (by simp)
  obtain ⟨sv1, n1, e1, s1, b1⟩ := open_sl (k := 6) (V := InstV) Try.underlying43 (by kernel_rfl) (by decide) opn_inst g1
  obtain rfl := List.head_eq_of_cons_eq e1
  have g2 := hf 2 (by decide) (by simp) (by simp)
  obtain ⟨n2, e2, _, _⟩ := DataW.trod_int Try.underlying5 g2
  obtain rfl := List.head_eq_of_cons_eq e2
  have g3 := hf 3 (by decide) (by simp) (by simp)
  obtain ⟨n3, e3, _, _⟩ := DataW.trod_int Try.underlying3 g3
  obtain rfl := List.head_eq_of_cons_eq e3
  have g4 := hf 4 (by decide) (by simp) (by simp)
  obtain ⟨n4, e4, _, _⟩ := DataW.trod_int Try.underlying3 g4
  obtain rfl := List.head_eq_of_cons_eq e4
  have g5 := hf 5 (by decide) (by simp) (by simp)
  obtain ⟨n5, e5, _, _⟩ := DataW.trod_int Try.underlying3 g5
  obtain rfl := List.head_eq_of_cons_eq e5
  refine ⟨⟨n0, n1, n2, n3, n4, n5⟩, ⟨_, _, rfl, s0, s1⟩, ?_⟩
  rw [ex]
  simp only [Rows.uptoBulk, List.map_cons, List.map_nil, Rows.uptoBulkAll]
  simp only [List.getElem_cons_succ, List.getElem_cons_zero] at b0 b1
  show 1 + (sumN instN n0 + sumN instN n1) ≤ _
  omega
theorem sum_succ {α : Type} (f : α → Nat) (l : List α) : sumN (fun x => 1 + f x) l = l.length + sumN f l := by
  induction l with
  | nil => rfl
  | cons a l ih => simp only [sumN, List.map_cons, List.sum_cons, List.length_cons] at ih ⊢; omega
theorem opn_fun : OpnV enc w spare held 35 FunV (fun f => 1 + funN f) := fun fuel cs x h => by
  obtain ⟨xs, k, ex, l1, l2, hf⟩ := open_st (n := 4) Try.underlying35 rfl (by kernel_rfl) (by kernel_rfl) h
  rcases cs with _ | ⟨v0, _ | ⟨v1, _ | ⟨v2, _ | ⟨v3, _ | ⟨_, _⟩⟩⟩⟩⟩ <;> simp at l2
  rcases xs with _ | ⟨y0, _ | ⟨y1, _ | ⟨y2, _ | ⟨y3, _ | ⟨_, _⟩⟩⟩⟩⟩ <;> simp at l1
  have g0 := hf 0 (by decide) (by simp) (by simp)
  obtain ⟨n0, e0, _, _⟩ := DataW.trod_int Try.underlying3 g0
  obtain rfl := List.head_eq_of_cons_eq e0
  have g1 := hf 1 (by decide) (by simp) (by simp)
  obtain ⟨n1, e1, _, _⟩ := DataW.trod_int Try.underlying3 g1
  obtain rfl := List.head_eq_of_cons_eq e1
  have g2 := hf 2 (by decide) (by simp) (by simp)
  obtain ⟨n2, e2, _, _⟩ := DataW.trod_int Try.underlying3 g2
  obtain rfl := List.head_eq_of_cons_eq e2
  have g3 := hf 3 (by decide) (by simp) (by simp)
  obtain ⟨sv3, n3, e3, s3, b3⟩ := open_sl (k := 6) (V := BlockV) Try.underlying33 (by kernel_rfl) (by decide) opn_block g3
  obtain rfl := List.head_eq_of_cons_eq e3
  refine ⟨⟨n0, n1, n2, n3⟩, ⟨_, rfl, s3⟩, ?_⟩
  rw [ex]
  simp only [Rows.uptoBulk, List.map_cons, List.map_nil, Rows.uptoBulkAll]
  simp only [List.getElem_cons_succ, List.getElem_cons_zero] at b3
  rw [sum_succ] at b3
  show 1 + (n3.length + sumN blockN n3) ≤ _
  omega
theorem opn_stop : OpnV enc w spare held 39 StopV (fun l => 1 + l.length) := fun fuel cs x h => by
  obtain ⟨sv, l, rfl, s, b⟩ := open_sl (k := 2) (V := SpotV) Try.underlying39 (by kernel_rfl) (by decide) opn_spot h
  rw [sum_ones] at b
  exact ⟨l, ⟨sv, rfl, s⟩, b⟩
end
end Go.Proofs.Ytiimcckajjpbjaa
