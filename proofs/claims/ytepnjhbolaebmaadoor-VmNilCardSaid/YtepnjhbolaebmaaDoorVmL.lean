/-
  An image that came in, opened; what the door lays.
-/
import Derived.Test.YtepnjhbolaebmaaDoorVmJ
import Derived.Test.YtepnjhbolaebmaaDoorRows
import Derived.Deep.Slices
import Derived.ChangeArms
import Derived.SizedLaws
import Derived.MakeChecks
import Derived.LaidMore
import Derived.OpenShut
import Derived.Stop.Joined
import Derived.ProofKit
import Derived.KernelRfl
namespace Go.Proofs.YtepnjhbolaebmaaDoor
open Go Go.ChangeShapes Go.WideShapes Go.ChangeAt Go.WideMaps Go.WideElems Go.RowKit Ib

/-- The variables that the row lists. -/
abbrev laidL : List (String × DataW Unit) := Rows.vmNilRow.laid
theorem own : ownKnob Tryd.prog.godebug = none := by kernel_rfl
theorem door_met (os : Os) (args : Array Value) : laidMetH Tryd.prog laidL ((World.doorLaid Tryd.prog 47 os).forCall (fun _ _ => 0) ⟨#[], args, []⟩).memory :=
  laidMetH_of_parts3 (fuel := 8) (laidMet_of_run' 8 (by kernel_rfl) (by kernel_rfl)) (by kernel_rfl) (by kernel_rfl)
section
variable {H : Type} {enc : TypeId × Value → H} {w : World}
theorem raw_open {t e : TypeId} {k : Nat} (ht : Tryd.prog.underlying t = some (.slice e)) (hk : Tryd.prog.cellsOf e = k) (hk0 : 0 < k) (HOP : ∀ fuel cs x, DataW.trod enc Tryd.prog w 0 (fun _ => true) true fuel e cs = some x → ∀ u ∈ cs, u.oneCell' = true)
    {fuel : Nat} {cs : List Value} {x : DataW H × List MemPlace} (h : DataW.trod enc Tryd.prog w 0 (fun _ => true) true fuel t cs = some x) :
    ∃ a n c, cs = [.slice a n c] ∧ RawZ k w a n ∧ (n = 0 ∨ ∃ el sp, x.1 = .slice el sp ∧ el.length = n) := by
  rcases Go.Deep.open_slice ht h with ⟨rfl, rfl⟩ | ⟨a, len, cap, m, n, D, Pl, rfl, hb, hl, hm, hmm, rfl, hx⟩
  · exact ⟨none, 0, 0, rfl, Or.inl ⟨rfl, rfl⟩, Or.inl rfl⟩
  · simp only [if_true] at hmm
    subst hmm
    refine ⟨some a, len, _, rfl, ?_, Or.inr ⟨_, _, rfl, by simp⟩⟩
    by_cases hl0 : len = 0
    · subst hl0
      exact Or.inr ⟨a, [], rfl, Or.inl rfl, by simp, (fun j u hj => by cases hj), (fun u hu => by cases hu)⟩
    · have hcell : ∀ i, i < len → ∀ r, r < k → ∃ u, w.cell? ((a.add (i * k)).add r) = some u ∧ u.oneCell' = true := fun i hi r hr => by
        obtain ⟨cs', h1, h2⟩ := hx i (by omega)
        rw [hk] at h1
        obtain ⟨_, hlen, hc⟩ := World.cells?_some h1
        have h3 := hc r hr
        have hr' : r < cs'.length := by omega
        rw [List.getElem?_eq_getElem hr'] at h3
        exact ⟨_, h3, HOP _ _ _ h2 _ (List.getElem_mem hr')⟩
      obtain ⟨ab, ao, spot⟩ := a
      have hspot : spot = none := by
        obtain ⟨u, h1, _⟩ := hcell 0 (by omega) 0 hk0
        have e0 : ∀ z : Addr, z.add 0 = z := fun z => by unfold Addr.add; simp
        rw [Nat.zero_mul, e0, e0] at h1
        simpa using World.cell?_spot h1
      subst hspot
      have hlit : ∀ j, j < len * k → ∃ u, w.cell? ⟨ab, ao + j, none⟩ = some u ∧ u.oneCell' = true := fun j hj => by
        have h1 : j / k < len := (Nat.div_lt_iff_lt_mul hk0).2 hj
        have h2 : j % k < k := Nat.mod_lt _ hk0
        obtain ⟨u, h3, h4⟩ := hcell (j / k) h1 (j % k) h2
        rw [Addr.add_lit, Addr.add_lit] at h3
        have e : ao + j / k * k + j % k = ao + j := by have := Nat.div_add_mod j k; rw [Nat.mul_comm] at this; omega
        rw [e] at h3
        exact ⟨u, h3, h4⟩
      obtain ⟨Y, hY⟩ := Go.Deep.choose_lt (α := Value) (n := len * k) (p := fun j u => w.cell? ⟨ab, ao + j, none⟩ = some u ∧ u.oneCell' = true) hlit
      refine Or.inr ⟨⟨ab, ao, none⟩, (List.range (len * k)).map Y, rfl, Or.inr ?_, by simp, fun j u hj => ?_, fun u hu => ?_⟩
      · exact lt_of_cell (hY 0 (Nat.mul_pos (by omega) hk0)).1
      · rw [List.getElem?_map] at hj
        by_cases hjl : j < len * k
        · rw [List.getElem?_range hjl] at hj
          simp at hj
          subst hj
          rw [Addr.add_lit]
          exact (hY j hjl).1
        · rw [List.getElem?_eq_none (by simp; omega)] at hj
          simp at hj
      · obtain ⟨j, hj, rfl⟩ := List.mem_map.1 hu
        exact (hY j (List.mem_range.1 hj)).2
/-- A struct whose fields are one cell each. -/
theorem open_st {e : TypeId} {fs : Array Field} {n : Nat} (he : Tryd.prog.underlying e = some (.struct fs)) (hn : fs.size = n) (hc : Tryd.prog.cellsOf e = n) (hob : ((List.range n).all fun i => match fs[i]? with | some f => f.offset == i && Tryd.prog.cellsOf f.type == 1 | none => false) = true)
    {fuel : Nat} {cs : List Value} {x : DataW H × List MemPlace} (h : DataW.trod enc Tryd.prog w 0 (fun _ => true) true fuel e cs = some x) :
    ∃ (xs : List (DataW H × List MemPlace)) (k : Nat), x.1 = .agg (xs.map (·.1)) ∧ xs.length = n ∧ cs.length = n ∧ ∀ i (h : i < fs.size) (h1 : i < cs.length) (h2 : i < xs.length), DataW.trod enc Tryd.prog w 0 (fun _ => true) true k fs[i].type [cs[i]] = some xs[i] := by
  have ho : ∀ i (h : i < fs.size), fs[i].offset = i ∧ Tryd.prog.cellsOf fs[i].type = 1 := fun i hi => by
    have h1 := List.all_eq_true.1 hob i (by simp; omega)
    rw [Array.getElem?_eq_getElem hi] at h1
    simpa using h1
  obtain ⟨xs, k, _, rfl, h2, h3, h4⟩ := DataW.trod_struct he h
  refine ⟨xs, k, rfl, by omega, by omega, fun i hi h1 h2' => ?_⟩
  have h5 := h4 i fs[i] (Array.getElem?_eq_getElem hi)
  rw [(ho i hi).1, (ho i hi).2, List.getElem?_eq_getElem h2'] at h5
  rw [← h5, List.drop_eq_getElem_cons h1]
  rfl
theorem one_int {e : TypeId} {k : IntKind} (he : Tryd.prog.underlying e = some (.int k)) {fuel : Nat} {v : Value} {x : DataW H × List MemPlace} (h : DataW.trod enc Tryd.prog w 0 (fun _ => true) true fuel e [v] = some x) : v.oneCell' = true := by
  obtain ⟨n, e1, _, _⟩ := DataW.trod_int he h
  obtain rfl := List.head_eq_of_cons_eq e1
  rfl
theorem opn_w (fuel : Nat) (cs : List Value) (x : DataW H × List MemPlace) (h : DataW.trod enc Tryd.prog w 0 (fun _ => true) true fuel 69 cs = some x) : ∀ u ∈ cs, u.oneCell' = true := by
  obtain ⟨xs, k, ex, l1, l2, hf⟩ := open_st (n := 5) Tryd.underlying69 rfl (by kernel_rfl) (by kernel_rfl) h
  rcases cs with _ | ⟨v0, _ | ⟨v1, _ | ⟨v2, _ | ⟨v3, _ | ⟨v4, _ | ⟨_, _⟩⟩⟩⟩⟩⟩ <;> simp at l2
  rcases xs with _ | ⟨y0, _ | ⟨y1, _ | ⟨y2, _ | ⟨y3, _ | ⟨y4, _ | ⟨_, _⟩⟩⟩⟩⟩⟩ <;> simp at l1
  have w0 := one_int Tryd.underlying5 (hf 0 (by decide) (by simp) (by simp))
  have w1 := one_int Tryd.underlying5 (hf 1 (by decide) (by simp) (by simp))
  have w2 := one_int Tryd.underlying5 (hf 2 (by decide) (by simp) (by simp))
  have w3 := one_int Tryd.underlying5 (hf 3 (by decide) (by simp) (by simp))
  have w4 := one_int Tryd.underlying2 (hf 4 (by decide) (by simp) (by simp))
  intro u hu
  simp at hu
  rcases hu with rfl | rfl | rfl | rfl | rfl <;> assumption
theorem opn_e (fuel : Nat) (cs : List Value) (x : DataW H × List MemPlace) (h : DataW.trod enc Tryd.prog w 0 (fun _ => true) true fuel 76 cs = some x) : ∀ u ∈ cs, u.oneCell' = true := by
  obtain ⟨xs, k, ex, l1, l2, hf⟩ := open_st (n := 2) Tryd.underlying76 rfl (by kernel_rfl) (by kernel_rfl) h
  rcases cs with _ | ⟨v0, _ | ⟨v1, _ | ⟨_, _⟩⟩⟩ <;> simp at l2
  rcases xs with _ | ⟨y0, _ | ⟨y1, _ | ⟨_, _⟩⟩⟩ <;> simp at l1
  have w0 := one_int Tryd.underlying3 (hf 0 (by decide) (by simp) (by simp))
  have w1 := one_int Tryd.underlying3 (hf 1 (by decide) (by simp) (by simp))
  intro u hu
  simp at hu
  rcases hu with rfl | rfl <;> assumption
theorem opn_b (fuel : Nat) (cs : List Value) (x : DataW H × List MemPlace) (h : DataW.trod enc Tryd.prog w 0 (fun _ => true) true fuel 5 cs = some x) : ∀ u ∈ cs, u.oneCell' = true := by
  obtain ⟨n, e1, _, _⟩ := DataW.trod_int Tryd.underlying5 h
  subst e1
  intro u hu
  simp at hu
  subst hu
  rfl
set_option maxRecDepth 100000 in
theorem image_open {r : Reach} {b0 : Nat} {ts : List TypeId} {ds : List (DataW H)} {j : Nat} {v : Value} {d : DataW H} {p : List MemPlace} (hWT : (DataW.weightsEach Tryd.prog ts ds).all (· ≤ reachBytes) = true) (hts : ts[j]? = some 26) (hds : ds[j]? = some d)
    (hv : Value.okWide Tryd.prog w r b0 26 v) (h : DataW.Trod enc Tryd.prog w 0 (fun _ => true) true 26 v d p) :
    ∃ (a0 a1 a3 : Option Addr) (n0 c0 n1 c1 n3 c3 : Nat) (mn : Int), v = .agg #[.slice a0 n0 c0, .slice a1 n1 c1, I mn, .slice a3 n3 c3] ∧ RawZ 5 w a0 n0 ∧ RawZ 2 w a1 n1 ∧ RawZ 1 w a3 n3 ∧ n0 * 16 ≤ 140737488355328 ∧ n1 * 16 ≤ 140737488355328 ∧ n3 * 1 ≤ 140737488355328 := by
  obtain ⟨cs, rfl, hsz⟩ := okWide_struct Tryd.underlying26 hv
  obtain ⟨fuel, hf⟩ := h
  have hce : (Value.agg cs).cells.toList = cs.toList := rfl
  rw [hce] at hf
  obtain ⟨xs, k, ex, l1, l2, hfs⟩ := open_st (n := 4) Tryd.underlying26 rfl (by kernel_rfl) (by kernel_rfl) hf
  obtain ⟨l⟩ := cs
  rcases l with _ | ⟨v0, _ | ⟨v1, _ | ⟨v2, _ | ⟨v3, _ | ⟨_, _⟩⟩⟩⟩⟩ <;> simp at l2
  rcases xs with _ | ⟨y0, _ | ⟨y1, _ | ⟨y2, _ | ⟨y3, _ | ⟨_, _⟩⟩⟩⟩⟩ <;> simp at l1
  have g0 := hfs 0 (by decide) (by simp) (by simp)
  have g1 := hfs 1 (by decide) (by simp) (by simp)
  have g2 := hfs 2 (by decide) (by simp) (by simp)
  have g3 := hfs 3 (by decide) (by simp) (by simp)
  obtain ⟨a0, n0, c0, e0, r0, b0'⟩ := raw_open (k := 5) Tryd.underlying22 (by kernel_rfl) (by decide) opn_w g0
  obtain ⟨a1, n1, c1, e1, r1, b1⟩ := raw_open (k := 2) Tryd.underlying23 (by kernel_rfl) (by decide) opn_e g1
  obtain ⟨mn, e2, _, _⟩ := DataW.trod_int Tryd.underlying3 g2
  obtain ⟨a3, n3, c3, e3, r3, b3⟩ := raw_open (k := 1) Tryd.underlying24 (by kernel_rfl) (by decide) opn_b g3
  obtain rfl := List.head_eq_of_cons_eq e0
  obtain rfl := List.head_eq_of_cons_eq e1
  obtain rfl := List.head_eq_of_cons_eq e2
  obtain rfl := List.head_eq_of_cons_eq e3
  have hd : d = .agg [y0.1, y1.1, y2.1, y3.1] := ex
  subst hd
  have hWI : (DataW.weightsEach Tryd.prog [22, 23, 3, 24] [y0.1, y1.1, y2.1, y3.1]).all (· ≤ reachBytes) = true := by
    refine List.all_eq_true.2 fun n hn => ?_
    refine List.all_eq_true.1 hWT n (DataW.weights_mem_each hts hds n ?_)
    unfold DataW.weights
    rw [Tryd.underlying26]
    exact hn
  have bnd : ∀ (j : Nat) (t e : TypeId) (bt n : Nat) (y : DataW H), [22, 23, 3, 24][j]? = some t → [y0.1, y1.1, y2.1, y3.1][j]? = some y → Tryd.prog.underlying t = some (.slice e) → Tryd.prog.bytesOf e = bt → (n = 0 ∨ ∃ el sp, y = .slice el sp ∧ el.length = n) → n * bt ≤ 140737488355328 := fun j t e bt n y h1 h2 h3 h4 h5 => by
    rcases h5 with rfl | ⟨el, sp, rfl, rfl⟩
    · omega
    · have h6 := sized_slice hWI h1 h2 h3
      rw [h4] at h6
      unfold reachBytes at h6
      have h7 : el.length * bt ≤ (el.length + sp.length) * bt := Nat.mul_le_mul_right _ (by omega)
      omega
  exact ⟨a0, a1, a3, n0, c0, n1, c1, n3, c3, mn, rfl, r0, r1, r3, bnd 0 _ _ 16 n0 _ rfl rfl Tryd.underlying22 (by kernel_rfl) b0', bnd 1 _ _ 16 n1 _ rfl rfl Tryd.underlying23 (by kernel_rfl) b1, bnd 3 _ _ 1 n3 _ rfl rfl Tryd.underlying24 (by kernel_rfl) b3⟩
end
end Go.Proofs.YtepnjhbolaebmaaDoor
