/-
  How code lies in memory: wherever it lies.
-/
import Derived.Test.YtepnjhbolaebmaaDoorFMem
import Derived.Deep.AppendSrc
import Derived.Maps.AppendAt
namespace Go.Proofs.YtepnjhbolaebmaaDoor
open Go Go.RowKit

namespace Cd
structure DbgP where
  dep : Int
  var : Int
  kind : Int
  arg : Int
  a : Int
  b : Int
structure InstP where
  op : Int
  dst : Int
  args : List Int
  imm : Int
  site : Int
  dbg : List DbgP
structure BlockP where
  phis : List InstP
  insts : List InstP
  fin : Int
  arg : Int
  to : Int
  els : Int
structure FunP where
  params : Int
  vars : Int
  vals : Int
  blocks : List BlockP
structure SpotP where
  fn : Int
  stmt : Int
structure CodeP where
  funs : List FunP
  stops : List (List SpotP)
  main : Int
end Cd
open Cd

/-- A number of eight bits. -/
abbrev U8 (n : Int) : Value := .int .u8 n
theorem addB_blk (a : Addr) (j : Nat) : (a.add j).block = a.block := by unfold Addr.add; split <;> rfl
theorem cellA_below {w w' : World} (h : Below w.heap.size w w') {a : Addr} (ha : a.block < w.heap.size) {v : Value} (hc : w.cell? a = some v) : w'.cell? a = some v := by
  unfold World.cell? at hc ⊢
  rw [h.block _ ha]
  exact hc
/-- Values one behind the other, from a place on. -/
def FldsA (W : World) (b : Addr) (o : Nat) (vs : List Value) : Prop := ∀ k v, vs[k]? = some v → W.cell? ((b.add o).add k) = some v
theorem FldsA.keep {W W' : World} {b : Addr} {o : Nat} {vs : List Value} (h : FldsA W b o vs) (he : W'.heap[b.block]? = W.heap[b.block]?) : FldsA W' b o vs := fun k v hk => by
  have h1 := h k v hk
  unfold World.cell? at h1 ⊢
  rw [addB_blk, addB_blk, he]
  rw [addB_blk, addB_blk] at h1
  exact h1
theorem FldsA.al {W : World} {b : Addr} {o : Nat} {vs : List Value} (h : FldsA W b o vs) (hl : b.block < W.heap.size) (ob : Obj) : FldsA (W.alloc ob) b o vs := h.keep (heap_alloc_old W ob hl)
theorem FldsA.al2 {W : World} {b : Addr} {o : Nat} {vs : List Value} (h : FldsA W b o vs) (hl : b.block < W.heap.size) (ob ob' : Obj) : FldsA ((W.alloc ob).alloc ob') b o vs := (h.al hl ob).al (by simp; omega) ob'
theorem FldsA.f0 {W : World} {b : Addr} {o : Nat} {v0 : Value} {r : List Value} (h : FldsA W b o (v0 :: r)) : W.cell? (b.add o) = some v0 := h 0 v0 rfl
theorem FldsA.f1 {W : World} {b : Addr} {o : Nat} {v0 v1 : Value} {r : List Value} (h : FldsA W b o (v0 :: v1 :: r)) : W.cell? ⟨(b.add o).block, (b.add o).off + 1, none⟩ = some v1 := h 1 v1 rfl
theorem FldsA.f2 {W : World} {b : Addr} {o : Nat} {v0 v1 v2 : Value} {r : List Value} (h : FldsA W b o (v0 :: v1 :: v2 :: r)) : W.cell? ⟨(b.add o).block, (b.add o).off + 2, none⟩ = some v2 := h 2 v2 rfl
theorem FldsA.f3 {W : World} {b : Addr} {o : Nat} {v0 v1 v2 v3 : Value} {r : List Value} (h : FldsA W b o (v0 :: v1 :: v2 :: v3 :: r)) : W.cell? ⟨(b.add o).block, (b.add o).off + 3, none⟩ = some v3 := h 3 v3 rfl
theorem FldsA.f4 {W : World} {b : Addr} {o : Nat} {v0 v1 v2 v3 v4 : Value} {r : List Value} (h : FldsA W b o (v0 :: v1 :: v2 :: v3 :: v4 :: r)) : W.cell? ⟨(b.add o).block, (b.add o).off + 4, none⟩ = some v4 := h 4 v4 rfl
theorem FldsA.f5 {W : World} {b : Addr} {o : Nat} {v0 v1 v2 v3 v4 v5 : Value} {r : List Value} (h : FldsA W b o (v0 :: v1 :: v2 :: v3 :: v4 :: v5 :: r)) : W.cell? ⟨(b.add o).block, (b.add o).off + 5, none⟩ = some v5 := h 5 v5 rfl
/-- A slice of things of k cells each, all of it in blocks of S. -/
def SlS (S : Nat → Prop) (k : Nat) {α : Type} (V : (Nat → Prop) → World → List Value → α → Prop) (W : World) (v : Value) (l : List α) : Prop :=
  ∃ a c, v = .slice a l.length c ∧ l.length ≤ c ∧ ∀ i (h : i < l.length), ∃ b vs, a = some b ∧ S b.block ∧ FldsA W b (i * k) vs ∧ V S W vs l[i]
/-- What stays where other memory is written. -/
def StaysV {α : Type} (V : (Nat → Prop) → World → List Value → α → Prop) : Prop := ∀ S S' W W' vs x, V S W vs x → (∀ k, S k → W'.heap[k]? = W.heap[k]?) → (∀ k, S k → S' k) → V S' W' vs x
def LtW (W : World) (n : Nat) : Prop := n < W.heap.size
section
variable {k : Nat} {α : Type} {V : (Nat → Prop) → World → List Value → α → Prop} {S S' : Nat → Prop} {W W' : World} {v : Value} {l : List α}
theorem SlS.keep (hV : StaysV V) (h : SlS S k V W v l) (he : ∀ k, S k → W'.heap[k]? = W.heap[k]?) (hS : ∀ k, S k → S' k) : SlS S' k V W' v l := by
  obtain ⟨a, c, e, hc, h⟩ := h
  refine ⟨a, c, e, hc, fun i hi => ?_⟩
  obtain ⟨b, vs, h1, h2, h3, h4⟩ := h i hi
  exact ⟨b, vs, h1, hS _ h2, h3.keep (he _ h2), hV _ _ _ _ _ _ h4 he hS⟩
theorem SlS.below (h : SlS (LtW W) k V W v l) (hV : StaysV V) (hb : Below W.heap.size W W') : SlS (LtW W') k V W' v l :=
  h.keep hV (fun n hn => hb.block n hn) (fun _ hn => Nat.lt_of_lt_of_le hn hb.size)
theorem SlS.size (h : SlS S k V W v l) : ∃ a c, v = .slice a l.length c := by
  obtain ⟨a, c, e, _⟩ := h
  exact ⟨a, c, e⟩
theorem SlS.at {a : Option Addr} {n c : Nat} (h : SlS S k V W (.slice a n c) l) (i : Nat) (hi : i < l.length) : ∃ b vs, a = some b ∧ S b.block ∧ FldsA W b (i * k) vs ∧ V S W vs l[i] := by
  obtain ⟨a', c', e, _, h⟩ := h
  injection e with e1
  subst e1
  exact h i hi
theorem SlS.cap {a : Option Addr} {n c : Nat} (h : SlS S k V W (.slice a n c) l) : n ≤ c := by
  obtain ⟨a', c', e, hc, _⟩ := h
  injection e with _ e2 e3
  omega
theorem SlS.nil (a : Option Addr) (c : Nat) : SlS S k V W (.slice a 0 c) [] := ⟨a, c, rfl, Nat.zero_le _, fun i h => absurd h (by simp)⟩
end

/-- Things without memory of their own, by their cells. -/
def FlatV {α : Type} (enc : α → List Value) (_ : Nat → Prop) (_ : World) (vs : List Value) (x : α) : Prop := vs = enc x
def encI (x : Int) : List Value := [I x]
def encD (d : DbgP) : List Value := [I d.dep, I d.var, U8 d.kind, I d.arg, I d.a, I d.b]
def encS (x : SpotP) : List Value := [I x.fn, I x.stmt]
abbrev IntV := FlatV encI
abbrev DbgV := FlatV encD
def InstV (S : Nat → Prop) (W : World) (vs : List Value) (x : InstP) : Prop := ∃ av dv, vs = [U8 x.op, I x.dst, av, I x.imm, I x.site, dv] ∧ SlS S 1 IntV W av x.args ∧ SlS S 6 DbgV W dv x.dbg
def BlockV (S : Nat → Prop) (W : World) (vs : List Value) (x : BlockP) : Prop := ∃ pv iv, vs = [pv, iv, U8 x.fin, I x.arg, I x.to, I x.els] ∧ SlS S 6 InstV W pv x.phis ∧ SlS S 6 InstV W iv x.insts
def FunV (S : Nat → Prop) (W : World) (vs : List Value) (x : FunP) : Prop := ∃ bv, vs = [I x.params, I x.vars, I x.vals, bv] ∧ SlS S 6 BlockV W bv x.blocks
abbrev SpotV := FlatV encS
def StopV (S : Nat → Prop) (W : World) (vs : List Value) (l : List SpotP) : Prop := ∃ sv, vs = [sv] ∧ SlS S 2 SpotV W sv l
theorem intV_stays : StaysV IntV := fun _ _ _ _ _ _ h _ _ => h
theorem dbgV_stays : StaysV DbgV := fun _ _ _ _ _ _ h _ _ => h
theorem instV_stays : StaysV InstV := fun _ _ _ _ _ _ ⟨av, dv, h1, h2, h3⟩ he hS => ⟨av, dv, h1, h2.keep intV_stays he hS, h3.keep dbgV_stays he hS⟩
theorem blockV_stays : StaysV BlockV := fun _ _ _ _ _ _ ⟨pv, iv, h1, h2, h3⟩ he hS => ⟨pv, iv, h1, h2.keep instV_stays he hS, h3.keep instV_stays he hS⟩
theorem funV_stays : StaysV FunV := fun _ _ _ _ _ _ ⟨bv, h1, h2⟩ he hS => ⟨bv, h1, h2.keep blockV_stays he hS⟩
theorem spotV_stays : StaysV SpotV := fun _ _ _ _ _ _ h _ _ => h
theorem stopV_stays : StaysV StopV := fun _ _ _ _ _ _ ⟨sv, h1, h2⟩ he hS => ⟨sv, h1, h2.keep spotV_stays he hS⟩
abbrev IntsZ (W : World) := SlS (LtW W) 1 IntV W
abbrev DbgsZ (W : World) := SlS (LtW W) 6 DbgV W
abbrev InstsZ (W : World) := SlS (LtW W) 6 InstV W
abbrev BlocksZ (W : World) := SlS (LtW W) 6 BlockV W
abbrev FunsZ (W : World) := SlS (LtW W) 4 FunV W
abbrev StopsZ (W : World) := SlS (LtW W) 1 StopV W
/-- Code, by value. -/
def CodeS (S : Nat → Prop) (W : World) (v : Value) (c : CodeP) : Prop := ∃ fv sv, v = .agg #[fv, sv, I c.main] ∧ SlS S 4 FunV W fv c.funs ∧ SlS S 1 StopV W sv c.stops
abbrev CodeZ (W : World) := CodeS (LtW W) W
theorem CodeS.keep {S S' : Nat → Prop} {W W' : World} {v : Value} {c : CodeP} (h : CodeS S W v c) (he : ∀ k, S k → W'.heap[k]? = W.heap[k]?) (hS : ∀ k, S k → S' k) : CodeS S' W' v c := by
  obtain ⟨fv, sv, e, h1, h2⟩ := h
  exact ⟨fv, sv, e, h1.keep funV_stays he hS, h2.keep stopV_stays he hS⟩
theorem CodeS.below {W W' : World} {v : Value} {c : CodeP} (h : CodeS (LtW W) W v c) (hb : Below W.heap.size W W') : CodeS (LtW W') W' v c :=
  h.keep (fun n hn => hb.block n hn) (fun _ hn => Nat.lt_of_lt_of_le hn hb.size)
theorem below_tr {w wo W : World} (h : Below w.heap.size w wo) (hb : Below wo.heap.size wo W) : Below w.heap.size w W :=
  h.trans (hb.mono h.size)

/-! Rows of things of one's own, that may grow. -/
theorem flat_at {k : Nat} : ∀ (cs : List (List Value)), (∀ c ∈ cs, c.length = k) → ∀ i j, j < k → cs.flatten[i * k + j]? = (cs[i]?.getD [])[j]?
  | [], _, i, j, _ => by simp
  | c :: cs, h, 0, j, hj => by
    have hc := h c (by simp)
    rw [List.flatten_cons, Nat.zero_mul, Nat.zero_add, List.getElem?_append_left (by omega)]
    rfl
  | c :: cs, h, i + 1, j, hj => by
    have hc := h c (by simp)
    rw [List.flatten_cons, List.getElem?_append_right (by rw [hc, Nat.succ_mul]; omega), hc, show (i + 1) * k + j - k = i * k + j by rw [Nat.succ_mul]; omega, flat_at cs (fun c hc => h c (by simp [hc])) i j hj]
    rfl
/-- A block that can be written. -/
def FreeB (W : World) (n : Nat) : Prop := ∃ cs E, W.heap[n]? = some (.cells cs E (0, 0))
theorem FreeB.keep {W W' : World} {n : Nat} (h : FreeB W n) (he : W'.heap[n]? = W.heap[n]?) : FreeB W' n := by
  obtain ⟨cs, E, h⟩ := h
  exact ⟨cs, E, he.trans h⟩
theorem FreeB.thaw {W : World} {a : Addr} (h : FreeB W a.block) : W.frozen? a = false := by
  obtain ⟨cs, E, h⟩ := h
  unfold World.frozen?
  simp [h]
theorem own_free {W : World} {base E k g m c n : Nat} {xs : List Value} (h : W.ownsRow base E k (.slice (some ⟨g, 0, none⟩) m c) n xs) : FreeB W g := by
  obtain ⟨_, h⟩ := h
  rcases h with ⟨h, _⟩ | ⟨b, cap, cs, h, _, h2, _⟩
  · cases h
  · cases h
    exact ⟨cs, E, h2⟩
theorem own_cap {w : World} {base E k g m c n : Nat} {xs : List Value} (h : w.ownsRow base E k (.slice (some ⟨g, 0, none⟩) m c) n xs) : n ≤ c := by
  obtain ⟨_, h⟩ := h
  rcases h with ⟨h, _⟩ | ⟨b, cap, cs, h, _, _, h3, _⟩
  · cases h
  · cases h
    exact h3
def FreeS (S : Nat → Prop) (W : World) (n : Nat) : Prop := S n ∧ FreeB W n
theorem SlS.keepF {k : Nat} {α : Type} {V : (Nat → Prop) → World → List Value → α → Prop} {S S' : Nat → Prop} {W W' : World} {v : Value} {l : List α} (hV : StaysV V) (h : SlS (FreeS S W) k V W v l) (he : ∀ k, S k → W'.heap[k]? = W.heap[k]?) (hS : ∀ k, S k → S' k) : SlS (FreeS S' W') k V W' v l :=
  h.keep hV (fun n hn => he n hn.1) (fun n hn => ⟨hS n hn.1, hn.2.keep (he n hn.1)⟩)
theorem stayF {α : Type} {V : (Nat → Prop) → World → List Value → α → Prop} (hV : StaysV V) {S S' : Nat → Prop} {W W' : World} {vs : List Value} {x : α} (h : V (FreeS S W) W vs x) (he : ∀ k, S k → W'.heap[k]? = W.heap[k]?) (hS : ∀ k, S k → S' k) : V (FreeS S' W') W' vs x :=
  hV _ _ _ _ _ _ h (fun n hn => he n hn.1) (fun n hn => ⟨hS n hn.1, hn.2.keep (he n hn.1)⟩)
def SxB (base : Nat) (v : Value) (W : World) (n : Nat) : Prop := base ≤ n ∧ n < W.heap.size ∧ some n ≠ v.ownBlock
def GeB (base : Nat) (W : World) (n : Nat) : Prop := base ≤ n ∧ n < W.heap.size
/-- What is one's own but the row itself. -/
abbrev SxW (base : Nat) (v : Value) (W : World) : Nat → Prop := FreeS (SxB base v W) W
abbrev GeW (base : Nat) (W : World) : Nat → Prop := FreeS (GeB base W) W
def OwnS (base : Nat) (E : TypeId) (k : Nat) {α : Type} (V : (Nat → Prop) → World → List Value → α → Prop) (W : World) (v : Value) (l : List α) : Prop :=
  ∃ cs : List (List Value), cs.length = l.length ∧ (∀ c ∈ cs, c.length = k) ∧ W.ownsRow base E k v l.length cs.flatten ∧ ∀ i (h : i < l.length) (h' : i < cs.length), V (SxW base v W) W cs[i] l[i]
theorem add_own (g o : Nat) : (⟨g, 0, none⟩ : Addr).add o = ⟨g, o, none⟩ := by
  unfold Addr.add
  by_cases h : o = 0
  · rw [if_pos h, h]
  · rw [if_neg h]; simp
theorem add_own2 (g o n : Nat) : (⟨g, o, none⟩ : Addr).add n = ⟨g, o + n, none⟩ := by
  unfold Addr.add
  by_cases h : n = 0
  · rw [if_pos h, h]; rfl
  · rw [if_neg h]
section
variable {base : Nat} {E : TypeId} {k : Nat} {α : Type} {V : (Nat → Prop) → World → List Value → α → Prop} {W W' : World} {v : Value} {l : List α}
theorem OwnS.start : OwnS base E k V W (.slice none 0 0) [] := ⟨[], rfl, by simp, World.ownsRow_nil _ _ _ _, fun i h => absurd h (by simp)⟩
theorem OwnS.row (h : OwnS base E k V W v l) : ∃ a c, v = .slice a l.length c := by
  obtain ⟨cs, _, _, h3, _⟩ := h
  rcases own_slice h3 with ⟨e, e2⟩ | ⟨g, c, e⟩
  · exact ⟨none, 0, by rw [e, e2]⟩
  · exact ⟨_, c, e⟩
theorem OwnS.sl (hV : StaysV V) (h : OwnS base E k V W v l) : SlS (GeW base W) k V W v l := by
  obtain ⟨cs, h1, h2, h3, h4⟩ := h
  rcases own_slice h3 with ⟨e, e2⟩ | ⟨g, c, e⟩
  · have : l = [] := List.length_eq_zero_iff.1 e2
    subst this
    rw [e]; exact SlS.nil _ _
  · subst e
    have hg := h3.lt g rfl
    refine ⟨_, c, rfl, own_cap h3, fun i hi => ⟨⟨g, 0, none⟩, cs[i]'(by omega), rfl, ⟨hg, own_free h3⟩, fun j u hj => ?_, stayF hV (h4 i hi (by omega)) (fun _ _ => rfl) (fun n hn => ⟨hn.1, hn.2.1⟩)⟩⟩
    have hjk : j < k := by
      have := h2 _ (List.getElem_mem (l := cs) (n := i) (by omega))
      have h5 := (List.getElem?_eq_some_iff.1 hj).1
      omega
    rw [add_own, add_own2, h3.cellAt (i * k + j) (by
      have : i * k + k ≤ l.length * k := by rw [← Nat.succ_mul]; exact Nat.mul_le_mul_right _ hi
      omega), flat_at cs h2 i j hjk, List.getElem?_eq_getElem (by omega : i < cs.length)]
    exact hj
theorem OwnS.z (hV : StaysV V) (h : OwnS base E k V W v l) : SlS (LtW W) k V W v l := (h.sl hV).keep hV (fun _ _ => rfl) (fun _ hn => hn.1.2)
theorem OwnS.below (hV : StaysV V) (h : OwnS base E k V W v l) (hb : Below W.heap.size W W') : OwnS base E k V W' v l := by
  obtain ⟨cs, h1, h2, h3, h4⟩ := h
  exact ⟨cs, h1, h2, own_below h3 hb, fun i hi hi' => stayF hV (h4 i hi hi') (fun n hn => hb.block n hn.2.1) (fun n hn => ⟨hn.1, Nat.lt_of_lt_of_le hn.2.1 hb.size, hn.2.2⟩)⟩
theorem OwnS.lower {base' : Nat} (hV : StaysV V) (hb : base' ≤ base) (h : OwnS base E k V W v l) : OwnS base' E k V W v l := by
  obtain ⟨cs, h1, h2, h3, h4⟩ := h
  exact ⟨cs, h1, h2, own_lower hb h3, fun i hi hi' => stayF hV (h4 i hi hi') (fun _ _ => rfl) (fun n hn => ⟨Nat.le_trans hb hn.1, hn.2⟩)⟩
/-- One more. -/
theorem OwnS.app {o : Obj} {w4 : World} {u : Value} {vs : List Value} {x : α} {cs : List (List Value)} (hV : StaysV V) (h1 : cs.length = l.length) (h2 : ∀ c ∈ cs, c.length = k) (h4 : ∀ i (h : i < l.length) (h' : i < cs.length), V (SxW base v W) W cs[i] l[i]) (hx : V (SxW base v W) W vs x) (hk : vs.length = k)
    (hg : (W.alloc o).grownBy w4 v.ownBlock) (ho : w4.ownsRow base E k u (l.length + 1) (cs.flatten ++ vs)) (hat : u.ownBlock = v.ownBlock ∨ u.ownBlock = some (W.alloc o).heap.size) : OwnS base E k V w4 u (l ++ [x]) := by
  have hst : ∀ n, SxB base v W n → w4.heap[n]? = W.heap[n]? := fun n hn => (hg.block n (by have := hn.2.1; simp; omega) hn.2.2).trans (heap_alloc_old W o hn.2.1)
  have hsub : ∀ n, SxB base v W n → SxB base u w4 n := fun n hn => ⟨hn.1, by have := hg.size; have := hn.2.1; simp at *; omega, fun e => by
    rcases hat with e2 | e2
    · rw [e2] at e; exact hn.2.2 e
    · rw [e2] at e
      have := hn.2.1
      simp at e
      omega⟩
  refine ⟨cs ++ [vs], by simp [h1], fun c hc => ?_, by rw [List.length_append, List.flatten_append]; simpa using ho, fun i hi hi' => ?_⟩
  · rcases List.mem_append.1 hc with h | h
    · exact h2 c h
    · rw [List.mem_singleton.1 h]; exact hk
  · rw [List.length_append, List.length_singleton] at hi
    rcases Nat.lt_or_ge i l.length with h | h
    · rw [List.getElem_append_left h, List.getElem_append_left (by omega)]
      exact stayF hV (h4 i h (by omega)) hst hsub
    · obtain rfl : i = l.length := by omega
      rw [List.getElem_append_right (by omega), List.getElem_append_right (by omega)]
      simp only [Nat.sub_self, h1, List.getElem_cons_zero]
      exact stayF hV hx hst hsub
end
theorem add_add (b : Addr) (m n : Nat) : (b.add m).add n = b.add (m + n) := by
  unfold Addr.add
  by_cases hm : m = 0
  · subst hm; rw [if_pos rfl, Nat.zero_add]
  · by_cases hn : n = 0
    · subst hn; rw [if_pos rfl, Nat.add_zero]
    · rw [if_neg hn, if_neg hm, if_neg (by omega)]
      simp [Nat.add_assoc]
/-- The cells of a slice of things without memory of their own. -/
theorem flat_cells {α : Type} {enc : α → List Value} {S : Nat → Prop} {k : Nat} {W : World} {b : Addr} {n c : Nat} {l : List α} (hk0 : 0 < k) (hk : ∀ x, (enc x).length = k) (h : SlS S k (FlatV enc) W (.slice (some b) n c) l) (j : Nat) (u : Value) (hj : (l.map enc).flatten[j]? = some u) : W.cell? (b.add j) = some u := by
  have e : j = j / k * k + j % k := by have := Nat.div_add_mod j k; rw [Nat.mul_comm] at this; exact this.symm
  have hm := Nat.mod_lt j hk0
  rw [e, flat_at (l.map enc) (fun c hc => by obtain ⟨x, _, rfl⟩ := List.mem_map.1 hc; exact hk x) _ _ hm] at hj
  by_cases hi : j / k < l.length
  · rw [List.getElem?_map, List.getElem?_eq_getElem hi] at hj
    obtain ⟨b', vs, e1, _, h3, h4⟩ := h.at (j / k) hi
    cases e1
    have h5 := h3 (j % k) u (by rw [show vs = enc l[j / k] from h4]; exact hj)
    rw [add_add, ← e] at h5
    exact h5
  · rw [List.getElem?_map, List.getElem?_eq_none (show l.length ≤ j / k by omega)] at hj
    simp at hj
theorem own_zeroK {w : World} {base E k b : Nat} (hb : w.heap[b]? = some (.cells #[] E (0, 0))) (hl : base ≤ b) : w.ownsRow base E k (.slice (some ⟨b, 0, none⟩) 0 0) 0 [] :=
  ⟨by simp, .inr ⟨b, 0, #[], rfl, hl, hb, Nat.le_refl _, Nat.zero_le _, by simp, by simp⟩⟩
theorem flat_len {α : Type} {enc : α → List Value} {k : Nat} (hk : ∀ x, (enc x).length = k) (l : List α) : (l.map enc).flatten.length = l.length * k := by
  induction l with
  | nil => simp
  | cons x l ih => rw [List.map_cons, List.flatten_cons, List.length_append, ih, hk, List.length_cons, Nat.succ_mul, Nat.add_comm]
/-- A list of things without memory of their own is put behind nothing: a copy of one's own. -/
theorem wp_clone {α : Type} {enc : α → List Value} {P : Program} {w : World} {o : Oper} {a : Act} {K : Act → World → Prop} {Q : Exit → Act → World → Prop} (s x : Operand) (t : TypeId)
    (ho : o.op = .call { callee := .builtin .append, args := #[s, x], argTypes := #[t, t] }) (E : TypeId) (i : TypeInfo) (z : Value) (k bytes : Nat) (ht : P.underlying t = some (.slice E)) (hi : P.info? E = some i) (hz : i.zero = some z)
    (hsize : i.size = k) (hby : i.bytes = bytes) (hzs : z.cells.size = k) (hk0 : 0 < k) (hk : ∀ x, (enc x).length = k) (h1 : ∀ x, ∀ u ∈ enc x, u.oneCell' = true) (b1 : Nat) (hs : a.eval s = .slice (some ⟨b1, 0, none⟩) 0 0) (hb1 : w.heap[b1]? = some (.cells #[] E (0, 0)))
    (v : Value) (hx : a.eval x = v) (l : List α) (S : Nat → Prop) (hl : SlS S k (FlatV enc) w v l) (h63 : l.length ≤ 4000000) (hbytes : bytes ≤ 1000)
    (h : ∀ u w', OwnS b1 E k (FlatV enc) w' u l → w.grownBy w' (some b1) → (u.ownBlock = some b1 ∨ u.ownBlock = some w.heap.size) → K (a.put o.dst u) w') : o.wp P a w K Q := by
  obtain ⟨ad, c, e, hcc, hat⟩ := hl
  have hlt : b1 < w.heap.size := (Array.getElem?_eq_some_iff.1 hb1).1
  have hown : w.ownsRow b1 E k (.slice (some ⟨b1, 0, none⟩) 0 0) 0 [] := own_zeroK hb1 (Nat.le_refl _)
  cases ad with
  | none =>
    have hl0 : l = [] := by
      cases l with
      | nil => rfl
      | cons y l' => obtain ⟨b, vs, e1, _⟩ := hat 0 (by simp); cases e1
    subst hl0
    have hr := run_append_room_src (P := P) w t t o.type E i ht hi b1 0 0 0 (.slice none 0 c) 0 [] (Src.ofNil w ht c) (by omega) (by simp) (by simp)
    have e0 : w.setCells b1 (0 + 0 * i.size) [] = w := rfl
    rw [e0] at hr
    unfold Oper.wp execOp
    simp only [ho, resolve, invoke, builtin, Sem.run_bind, Sem.run_pure, Result.andThen_ok, List.map_toArray, List.map_cons, List.map_nil, hs, hx, e, List.length_nil]
    rw [hr]
    exact h _ _ ⟨[], rfl, by simp, hown, fun i hi => absurd hi (by simp)⟩ ⟨rfl, rfl, rfl, Nat.le_refl _, fun _ _ _ => rfl⟩ (Or.inl rfl)
  | some b =>
    obtain ⟨v', w', hr, h2, h3, _, h5⟩ := run_append_own_at (P := P) w b1 t o.type E i z k bytes ht hi hz hsize hby hzs hk0 (.slice (some ⟨b1, 0, none⟩) 0 0) 0 [] hown b l.length c (l.map enc).flatten (flat_len hk l)
      (flat_cells hk0 hk ⟨_, c, rfl, hcc, hat⟩) (fun u hu => by
        obtain ⟨y, hy, hu⟩ := List.mem_flatten.1 hu
        obtain ⟨x, _, rfl⟩ := List.mem_map.1 hy
        exact h1 x u hu) (by unfold maxLen; omega) (by
        have h6 : (0 + l.length) * bytes ≤ 4000000 * 1000 := Nat.mul_le_mul (by omega) hbytes
        omega) (by omega)
    unfold Oper.wp execOp
    simp only [ho, resolve, invoke, builtin, Sem.run_bind, Sem.run_pure, Result.andThen_ok, List.map_toArray, List.map_cons, List.map_nil, hs, hx, e, hr]
    refine h _ _ ⟨l.map enc, by simp, fun c hc => by obtain ⟨x, _, rfl⟩ := List.mem_map.1 hc; exact hk x, by simpa using h2, fun i hi hi' => by
      show (l.map enc)[i] = enc l[i]
      simp⟩ h3 h5
end Go.Proofs.YtepnjhbolaebmaaDoor
