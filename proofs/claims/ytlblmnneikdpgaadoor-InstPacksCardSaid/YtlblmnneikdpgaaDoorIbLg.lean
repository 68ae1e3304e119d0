/-
  A slice of instructions that came in, as a list of instructions; and a slice of bytes with its bound.
-/
import Derived.Test.YtlblmnneikdpgaaDoorIbLe
import Derived.Test.YtlblmnneikdpgaaDoorIbWs
import Derived.Deep.Slices
import Derived.ChangeArms
namespace Go.Proofs.YtlblmnneikdpgaaDoor
open Go Go.ChangeShapes Go.WideShapes Go.ChangeAt Go.WideMaps Go.WideElems Go.RowKit Ib

instance : Inhabited Wd := ⟨⟨0, 0, 0, 0, 0⟩⟩
section
variable {H : Type} {enc : TypeId × Value → H} {w : World} {spare : Nat → Bool} {held : Bool}
/-- A struct whose fields are one cell each. -/
theorem open_st {e : TypeId} {fs : Array Field} {n : Nat} (he : Tryd.prog.underlying e = some (.struct fs)) (hn : fs.size = n) (hc : Tryd.prog.cellsOf e = n) (hob : ((List.range n).all fun i => match fs[i]? with | some f => f.offset == i && Tryd.prog.cellsOf f.type == 1 | none => false) = true)
    {fuel : Nat} {cs : List Value} {x : DataW H × List MemPlace} (h : DataW.trod enc Tryd.prog w 0 spare held fuel e cs = some x) :
    ∃ (xs : List (DataW H × List MemPlace)) (k : Nat), x.1 = .agg (xs.map (·.1)) ∧ xs.length = n ∧ cs.length = n ∧ ∀ i (h : i < fs.size) (h1 : i < cs.length) (h2 : i < xs.length), DataW.trod enc Tryd.prog w 0 spare held k fs[i].type [cs[i]] = some xs[i] := by
  have ho : ∀ i (h : i < fs.size), fs[i].offset = i ∧ Tryd.prog.cellsOf fs[i].type = 1 := fun i hi => by
    have h1 := List.all_eq_true.1 hob i (by simp; omega)
    rw [Array.getElem?_eq_getElem hi] at h1
    simpa using h1
  obtain ⟨xs, k, _, rfl, h2, h3, h4⟩ := DataW.trod_struct he h
  refine ⟨xs, k, rfl, by omega, by omega, fun i hi h1 h2' => ?_⟩
  have h5 := h4 i fs[i] (Array.getElem?_eq_getElem hi)
  rw [(ho i hi).1, (ho i hi).2, List.getElem?_eq_getElem h2'] at h5
  rw [← h5, List.drop_eq_getElem_cons h1]
  rfl
theorem opn_word (fuel : Nat) (cs : List Value) (x : DataW H × List MemPlace) (h : DataW.trod enc Tryd.prog w 0 spare held fuel 23 cs = some x) : ∃ y : Wd, cs = encWd y ∧ WfW y := by
  obtain ⟨xs, k, ex, l1, l2, hf⟩ := open_st (n := 5) Tryd.underlying23 rfl (by kernel_rfl) (by kernel_rfl) h
  rcases cs with _ | ⟨v0, _ | ⟨v1, _ | ⟨v2, _ | ⟨v3, _ | ⟨v4, _ | ⟨_, _⟩⟩⟩⟩⟩⟩ <;> simp at l2
  rcases xs with _ | ⟨y0, _ | ⟨y1, _ | ⟨y2, _ | ⟨y3, _ | ⟨y4, _ | ⟨_, _⟩⟩⟩⟩⟩⟩ <;> simp at l1
  obtain ⟨n0, e0, _, w0⟩ := DataW.trod_int Tryd.underlying5 (hf 0 (by decide) (by simp) (by simp))
  obtain ⟨n1, e1, _, w1⟩ := DataW.trod_int Tryd.underlying5 (hf 1 (by decide) (by simp) (by simp))
  obtain ⟨n2, e2, _, w2⟩ := DataW.trod_int Tryd.underlying5 (hf 2 (by decide) (by simp) (by simp))
  obtain ⟨n3, e3, _, w3⟩ := DataW.trod_int Tryd.underlying5 (hf 3 (by decide) (by simp) (by simp))
  obtain ⟨n4, e4, _, w4⟩ := DataW.trod_int Tryd.underlying2 (hf 4 (by decide) (by simp) (by simp))
  obtain rfl := List.head_eq_of_cons_eq e0
  obtain rfl := List.head_eq_of_cons_eq e1
  obtain rfl := List.head_eq_of_cons_eq e2
  obtain rfl := List.head_eq_of_cons_eq e3
  obtain rfl := List.head_eq_of_cons_eq e4
  obtain ⟨k0, rfl, l0⟩ := b8_of w0
  obtain ⟨k1, rfl, l1⟩ := b8_of w1
  obtain ⟨k2, rfl, l2⟩ := b8_of w2
  obtain ⟨k3, rfl, l3⟩ := b8_of w3
  exact ⟨⟨k0, k1, k2, k3, n4⟩, rfl, l0, l1, l2, l3, bounds_i64 w4⟩
set_option maxRecDepth 100000 in
theorem words_open {r : Reach} {b0 : Nat} {v : Value} {d : DataW H} {p : List MemPlace} (hv : Value.okWide Tryd.prog w r b0 40 v) (h : DataW.Trod enc Tryd.prog w 0 spare held 40 v d p) :
    ∃ (a : Option Addr) (n c : Nat) (l : List Wd), v = .slice a n c ∧ (∀ x ∈ l, WfW x) ∧ WordZ w (.slice a n c) l := by
  obtain ⟨a0, n0, c0, rfl⟩ := okWide_slice Tryd.underlying40 hv
  obtain ⟨fuel, hf⟩ := h
  rcases Go.Deep.open_slice Tryd.underlying40 hf with ⟨hcs, _⟩ | ⟨a, len, cap, m, n, D, Pl, hcs, hb, hl, hm, hmm, _, hx⟩
  · simp [Value.cells] at hcs
    obtain ⟨rfl, rfl, rfl⟩ := hcs
    exact ⟨none, 0, 0, [], rfl, (fun m hm => by cases hm), SlS.nil _ _⟩
  · simp [Value.cells] at hcs
    obtain ⟨rfl, rfl, rfl⟩ := hcs
    have hlm : n0 ≤ m := by rw [hmm]; split <;> omega
    have hc2 : Tryd.prog.cellsOf 23 = 5 := by kernel_rfl
    obtain ⟨Y, hY⟩ := Go.Deep.choose_lt (α := Wd) (n := n0) (p := fun i y => ∃ cs', w.cells? 0 (a.add (i * 5)) 5 = some cs' ∧ cs' = encWd y ∧ WfW y) (fun i hi => by
      obtain ⟨cs', h1, h2⟩ := hx i (by omega)
      obtain ⟨y, h3⟩ := opn_word _ _ _ h2
      exact ⟨y, cs', by rw [← hc2]; exact h1, h3⟩)
    refine ⟨some a, n0, c0, (List.range n0).map Y, rfl, fun m hm => ?_, some a, c0, by simp, by simpa using hl, fun i hi => ?_⟩
    · obtain ⟨i, hi, rfl⟩ := List.mem_map.1 hm
      obtain ⟨_, _, _, h3⟩ := hY i (List.mem_range.1 hi)
      exact h3
    · have hi' : i < n0 := by simpa using hi
      obtain ⟨cs', h1, h2, _⟩ := hY i hi'
      obtain ⟨_, hlen, hcell⟩ := World.cells?_some h1
      refine ⟨a, cs', rfl, ?_, fun j v hj => ?_, by simpa [FlatV] using h2⟩
      · have h0 := hcell 0 (by decide)
        rw [List.getElem?_eq_getElem (by omega)] at h0
        have := World.block_lt_of_cell? _ _ h0
        rw [addB_blk, addB_blk] at this
        exact this
      · rw [hcell j (by have := (List.getElem?_eq_some_iff.1 hj).1; omega)]
        exact hj
end

set_option maxRecDepth 100000 in
theorem bytes_bound {H : Type} {enc : TypeId × Value → H} {W : World} {ts : List TypeId} {ds : List (DataW H)} {j : Nat} {v : Value} {d : DataW H} {p : List MemPlace} (hWT : (DataW.weightsEach Tryd.prog ts ds).all (· ≤ reachBytes) = true) (ht : ts[j]? = some 24) (hd : ds[j]? = some d)
    {a : Option Addr} {n c : Nat} (hv : v = .slice a n c) (h1 : DataW.Trod enc Tryd.prog W 0 (fun _ => true) true 24 v d p) : n ≤ 140737488351232 := by
  subst hv
  obtain ⟨fuel, hf⟩ := h1
  rcases open_ints Tryd.underlying24 Tryd.underlying5 cells_u8 hf with ⟨hcs, hx⟩ | ⟨a, len', cap', zs, hcs, _, hl, hm, hz, hx, hcell, hwz⟩
  · simp [Value.cells] at hcs
    obtain ⟨rfl, rfl, rfl⟩ := hcs
    omega
  · simp [Value.cells] at hcs
    obtain ⟨rfl, rfl, rfl⟩ := hcs
    simp only [Prod.mk.injEq] at hx
    obtain ⟨rfl, rfl⟩ := hx
    have hr := sized_slice hWT ht hd Tryd.underlying24
    rw [show Tryd.prog.bytesOf 5 = 1 by kernel_rfl] at hr
    unfold reachBytes at hr
    simp at hr
    simp only [if_true] at hz
    have e1 : (lits (H := H) IntKind.u8 (zs.take n)).length = (zs.take n).length := by unfold lits; simp
    have e2 := List.length_take (i := n) (l := zs)
    omega
end Go.Proofs.YtlblmnneikdpgaaDoor
