/-
  Joined: CdL, CdG, CSmall.
-/
import Derived.Test.YtjlmkcamefaodaaJ01
import Derived.Test.YtjlmkcamefaodaaJ04
/-! CdL: Rows that are filled one by one. -/

namespace Go.Proofs.Ytjlmkcamefaodaa
open Go Go.RowKit Cd

/-- A row of n things in a block of its own, the first i of them filled. -/
def FillS (base g : Nat) (E : TypeId) (k n : Nat) {α : Type} (V : (Nat → Prop) → World → List Value → α → Prop) (W : World) (l : List α) (i : Nat) : Prop :=
  ∃ (cur : Array Value) (cs : List (List Value)), Blk g cur E W ∧ cur.size = n * k ∧ base ≤ g ∧ cs.length = i ∧ (∀ c ∈ cs, c.length = k) ∧ (∀ x j, x < i → j < k → cur[x * k + j]? = (cs[x]?.getD [])[j]?) ∧ ∀ x (h : x < l.length) (h' : x < cs.length), V (FreeS (fun m => base ≤ m ∧ m < W.heap.size ∧ m ≠ g) W) W cs[x] l[x]
section
variable {base g : Nat} {E : TypeId} {k n : Nat} {α : Type} {V : (Nat → Prop) → World → List Value → α → Prop} {W W' W2 : World} {l : List α} {i : Nat}
theorem fill_start {cur : Array Value} (hb : Blk g cur E W) (hs : cur.size = n * k) (hg : base ≤ g) : FillS base g E k n V W l 0 :=
  ⟨cur, [], hb, hs, hg, rfl, by simp, fun x j hx => absurd hx (by omega), fun x _ h => absurd h (by simp)⟩
theorem FillS.put (hV : StaysV V) {cur cur' : Array Value} {cs : List (List Value)} {vs : List Value} (hi : i < l.length) (hs : cur.size = n * k) (hg : base ≤ g) (h1 : cs.length = i) (h2 : ∀ c ∈ cs, c.length = k) (h3 : ∀ x j, x < i → j < k → cur[x * k + j]? = (cs[x]?.getD [])[j]?)
    (h4 : ∀ x (h : x < l.length) (h' : x < cs.length), V (FreeS (fun m => base ≤ m ∧ m < W.heap.size ∧ m ≠ g) W) W cs[x] l[x]) (hB : Below W.heap.size W W') (hx : V (FreeS (fun m => base ≤ m ∧ m < W'.heap.size ∧ m ≠ g) W') W' vs l[i]) (hk : vs.length = k)
    (hW2 : Blk g cur' E W2) (hc : cur'.size = cur.size) (hc1 : ∀ x, x < i * k → cur'[x]? = cur[x]?) (hc2 : ∀ j, j < k → cur'[i * k + j]? = vs[j]?) (he : ∀ m, m ≠ g → W2.heap[m]? = W'.heap[m]?) (hz : W'.heap.size ≤ W2.heap.size) : FillS base g E k n V W2 l (i + 1) := by
  refine ⟨cur', cs ++ [vs], hW2, by rw [hc, hs], hg, by simp [h1], fun c hc => ?_, fun x j hxi hj => ?_, fun x h h' => ?_⟩
  · rcases List.mem_append.1 hc with h | h
    · exact h2 c h
    · rw [List.mem_singleton.1 h]; exact hk
  · rcases Nat.lt_or_ge x i with h | h
    · have h5 : x * k + k ≤ i * k := by rw [← Nat.succ_mul]; exact Nat.mul_le_mul_right _ h
      rw [hc1 _ (by omega), h3 x j h hj, List.getElem?_append_left (by omega)]
    · obtain rfl : x = i := by omega
      rw [hc2 j hj, List.getElem?_append_right (by omega), h1, Nat.sub_self]
      rfl
  · rcases Nat.lt_or_ge x i with h5 | h5
    · rw [List.getElem_append_left (by omega)]
      exact stayF hV (h4 x h (by omega)) (fun m hm => (he m hm.2.2).trans (hB.block m hm.2.1)) (fun m hm => ⟨hm.1, Nat.lt_of_lt_of_le hm.2.1 (Nat.le_trans hB.size hz), hm.2.2⟩)
    · have h6 : x = i := by simp [h1] at h'; omega
      subst h6
      rw [List.getElem_append_right (by omega)]
      simp only [h1, Nat.sub_self, List.getElem_cons_zero]
      exact stayF hV hx (fun m hm => he m hm.2.2) (fun m hm => ⟨hm.1, Nat.lt_of_lt_of_le hm.2.1 hz, hm.2.2⟩)
theorem FillS.done (hn : n = l.length) (hm : n ≤ maxLen) (hV : StaysV V) (h : FillS base g E k n V W l n) : OwnS base E k V W (.slice (some ⟨g, 0, none⟩) n n) l := by
  obtain ⟨cur, cs, h1, h2, h3, h4, h5, h6, h7⟩ := h
  have hfl : cs.flatten = cur.toList := by
    apply List.ext_getElem?
    intro y
    by_cases hk : k = 0
    · subst hk
      have e1 : cs.flatten = [] := List.flatten_eq_nil_iff.2 fun c hc => List.length_eq_zero_iff.1 (h5 c hc)
      have e2 : cur.toList = [] := List.length_eq_zero_iff.1 (by rw [Array.length_toList, h2, Nat.mul_zero])
      rw [e1, e2]
    · have e : y = y / k * k + y % k := by have := Nat.div_add_mod y k; rw [Nat.mul_comm] at this; exact this.symm
      have hmk := Nat.mod_lt y (Nat.pos_of_ne_zero hk)
      rw [e, flat_at cs h5 _ _ hmk, Array.getElem?_toList (xs := cur)]
      by_cases hy : y / k < n
      · rw [h6 _ _ hy hmk]
      · have h8 : n * k ≤ y / k * k := Nat.mul_le_mul_right _ (by omega)
        rw [Array.getElem?_eq_none (xs := cur) (by omega), List.getElem?_eq_none (show cs.length ≤ y / k by omega)]
        simp
  refine ⟨cs, by omega, h5, ?_, fun x hx hx' => stayF hV (h7 x hx hx') (fun _ _ => rfl) (fun m hm => ⟨hm.1, hm.2.1, fun e => hm.2.2 (by simpa [Value.ownBlock] using e)⟩)⟩
  rw [hfl, ← hn]
  exact h1.owns h3 hm h2
end

theorem madeOne (x : Value) (n : Nat) : madeCells #[x] n = Array.replicate n x := by
  apply Array.ext
  · simp [size_madeCells]
  · intro i h1 h2
    simp [madeCells, Nat.mod_one]
/-- Values one behind the other are stored. -/
def setsW (w : World) (g o : Nat) : List Value → World
  | [] => w
  | v :: r => setsW (w.setCell ⟨g, o, none⟩ v) g (o + 1) r
def setsA (cur : Array Value) (o : Nat) : List Value → Array Value
  | [] => cur
  | v :: r => setsA (cur.setIfInBounds o v) (o + 1) r
theorem setsA_size : ∀ (vs : List Value) (cur : Array Value) (o : Nat), (setsA cur o vs).size = cur.size
  | [], _, _ => rfl
  | v :: r, cur, o => by unfold setsA; rw [setsA_size r]; simp
theorem setsA_lt : ∀ (vs : List Value) (cur : Array Value) (o x : Nat), x < o → (setsA cur o vs)[x]? = cur[x]?
  | [], _, _, _, _ => rfl
  | v :: r, cur, o, x, h => by unfold setsA; rw [setsA_lt r _ _ _ (by omega), Array.getElem?_setIfInBounds_ne (by omega)]
theorem setsA_at : ∀ (vs : List Value) (cur : Array Value) (o j : Nat), j < vs.length → o + vs.length ≤ cur.size → (setsA cur o vs)[o + j]? = vs[j]?
  | [], _, _, _, h, _ => absurd h (by simp)
  | v :: r, cur, o, 0, h, hs => by
    unfold setsA
    rw [setsA_lt r _ _ _ (by omega), Nat.add_zero, Array.getElem?_setIfInBounds_self_of_lt (by simp at hs; omega)]
    rfl
  | v :: r, cur, o, j + 1, h, hs => by
    unfold setsA
    rw [show o + (j + 1) = o + 1 + j by omega, setsA_at r _ _ _ (by simpa using h) (by simp at hs ⊢; omega)]
    rfl
theorem Blk.sets {g : Nat} {E : TypeId} : ∀ (vs : List Value) {cur : Array Value} {w : World} (o : Nat), Blk g cur E w → Blk g (setsA cur o vs) E (setsW w g o vs)
  | [], _, _, _, h => h
  | v :: r, _, _, o, h => Blk.sets r (o + 1) (h.set o v)
theorem setsW_other {g : Nat} : ∀ (vs : List Value) (w : World) (o m : Nat), m ≠ g → (setsW w g o vs).heap[m]? = w.heap[m]?
  | [], _, _, _, _ => rfl
  | v :: r, w, o, m, h => by unfold setsW; rw [setsW_other r _ _ _ h]; exact Below.heap_setCell _ _ _ _ h
theorem setsW_size {g : Nat} : ∀ (vs : List Value) (w : World) (o : Nat), (setsW w g o vs).heap.size = w.heap.size
  | [], _, _ => rfl
  | v :: r, w, o => by unfold setsW; rw [setsW_size r]; simp [World.setCell]
theorem setsW_below {g B : Nat} (hg : B ≤ g) {w0 : World} : ∀ (vs : List Value) (w : World) (o : Nat), Below B w0 w → Below B w0 (setsW w g o vs)
  | [], _, _, h => h
  | v :: r, w, o, h => setsW_below hg r _ _ (h.setCell (p := ⟨g, o, none⟩) hg v)
/-- One more thing is filled in. -/
theorem FillS.sets {base g : Nat} {E : TypeId} {k n : Nat} {α : Type} {V : (Nat → Prop) → World → List Value → α → Prop} {W W' : World} {l : List α} {i : Nat} (hV : StaysV V) {vs : List Value} (h : FillS base g E k n V W l i) (hn : i < n) (hi : i < l.length) (hB : Below W.heap.size W W') (hx : V (FreeS (fun m => base ≤ m ∧ m < W'.heap.size ∧ m ≠ g) W') W' vs l[i]) (hk : vs.length = k) : FillS base g E k n V (setsW W' g (i * k) vs) l (i + 1) := by
  obtain ⟨cur, cs, h1, h2, h3, h4, h5, h6, h7⟩ := h
  have hle : i * k + k ≤ n * k := by rw [← Nat.succ_mul]; exact Nat.mul_le_mul_right _ hn
  exact FillS.put hV (W := W) (W' := W') (vs := vs) hi h2 h3 h4 h5 h6 h7 hB hx hk (Blk.sets vs (i * k) (h1.below hB h1.lt)) (setsA_size _ _ _) (fun y hy => setsA_lt _ _ _ _ hy) (fun j hj => setsA_at _ _ _ _ (by omega) (by omega)) (fun m hm => setsW_other _ _ _ _ hm) (by rw [setsW_size]; exact Nat.le_refl _)
/-- The cells that are filled are there. -/
theorem FillS.cell {base g : Nat} {E : TypeId} {k n : Nat} {α : Type} {V : (Nat → Prop) → World → List Value → α → Prop} {W W' : World} {l : List α} {i : Nat} (h : FillS base g E k n V W l i) (hB : Below W.heap.size W W') (hn : i < n) (j : Nat) (hj : j < k) : ∃ v, W'.cell? ⟨g, i * k + j, none⟩ = some v ∧ W'.frozen? ⟨g, i * k + j, none⟩ = false := by
  obtain ⟨cur, cs, h1, h2, _⟩ := h
  have hle : i * k + k ≤ n * k := by rw [← Nat.succ_mul]; exact Nat.mul_le_mul_right _ hn
  have hk := h1.below hB h1.lt
  exact ⟨_, hk.get _ _ (Array.getElem?_eq_getElem (by omega)), hk.free _⟩


end Go.Proofs.Ytjlmkcamefaodaa

/-! CdG: The ways of a function of code, walked; and the document's own answer. -/

namespace Go.Proofs.Ytjlmkcamefaodaa
open Go Go.RowKit Cd

namespace Cd
/-- Where a block goes on. -/
def waysB (b : BlockP) : List Int := if b.fin = 1 then [b.to] else if b.fin = 2 then [b.to, b.els] else []
end Cd
/-- A row is nil, or begins where its block does. -/
def AtZ (sv : Value) (l : List Int) : Prop := (sv = .slice none 0 0 ∧ l = []) ∨ (l ≠ [] ∧ ∃ g c, sv = .slice (some ⟨g, 0, none⟩) l.length c)
def RowV (S : Nat → Prop) (W : World) (vs : List Value) (l : List Int) : Prop := ∃ sv, vs = [sv] ∧ SlS S 1 IntV W sv l ∧ AtZ sv l
theorem rowV_stays : StaysV RowV := fun _ _ _ _ _ _ ⟨sv, h1, h2, h3⟩ he hS => ⟨sv, h1, h2.keep intV_stays he hS, h3⟩
def GrR (w : World) (g n : Nat) (l : List (List Int)) (iv : Value) (W : World) : Prop := ∃ i : Nat, i ≤ n ∧ iv = I (i : Int) ∧ FillS w.heap.size g 41 1 n RowV W l i ∧ (∀ x, i ≤ x → x < n → W.cell? ⟨g, x, none⟩ = some (.slice none 0 0)) ∧ Below w.heap.size w W
def WaysT (w : World) (f : FunP) (W : World) (e : Ending) : Prop := ∃ u, e = .returned u ∧ SlS (LtW W) 1 RowV W u (f.blocks.map waysB) ∧ Below w.heap.size w W ∧ (f.blocks ≠ [] → ∃ g c, u = .slice (some ⟨g, 0, none⟩) f.blocks.length c)
theorem mkGs (n : Nat) (hn : n ≤ 1000000) (u : World) : (Instr.makeSlice 62 (I (n : Int)) (I (n : Int))).run Try.prog u = .ok (.slice (some ⟨u.heap.size, 0, none⟩) n n) (u.alloc (.cells (Array.replicate n (.slice none 0 0)) 41)) := by
  obtain ⟨i0, hi, hz0, hz1, hz2⟩ := info_parts (show (Try.prog.info? 41).map (fun i => (i.zero, i.size, i.bytes)) = some (some (.slice none 0 0), 1, 24) by kernel_rfl)
  have h := run_makeSlice (P := Try.prog) (w := u) 62 41 i0 _ Try.underlying62 hi hz0 .i64 .i64 (n : Int) (n : Int) (by omega) (Int.le_refl _) (by rw [hz1]; simp; omega) (by rw [hz2]; simp; omega) (by omega)
  rw [hz1, show (Value.slice none 0 0).cells = #[.slice none 0 0] from rfl, madeOne] at h
  simpa using h
/-- A row of a block that is new. -/
theorem row_new {W : World} {g : Nat} (l : List Int) (h : Blk g (l.map I).toArray 3 W) (S : Nat → Prop) (hS : S g) : SlS S 1 IntV W (.slice (some ⟨g, 0, none⟩) l.length l.length) l := by
  refine ⟨_, _, rfl, Nat.le_refl _, fun i hi => ⟨⟨g, 0, none⟩, [I l[i]], rfl, hS, fun j v hj => ?_, rfl⟩⟩
  have hj0 : j = 0 := by
    have := (List.getElem?_eq_some_iff.1 hj).1
    simp at this
    exact this
  subst hj0
  obtain rfl : I l[i] = v := by simpa using hj
  rw [add_own, add_own2, Nat.mul_one, Nat.add_zero]
  exact h.get i _ (by simp [hi])
/-- One more row. -/
theorem GrR.put {w W W' : World} {g n i : Nat} {l : List (List Int)} {sv : Value} (hf : FillS w.heap.size g 41 1 n RowV W l i) (hz : ∀ x, i ≤ x → x < n → W.cell? ⟨g, x, none⟩ = some (.slice none 0 0)) (hn : i < n) (hi : i < l.length) (hb : Below w.heap.size w W) (hB : Below W.heap.size W W') (hx : SlS (GeW W.heap.size W') 1 IntV W' sv l[i]) (hz' : AtZ sv l[i]) : GrR w g n l (I ((i : Int) + 1)) (W'.setCell ⟨g, i, none⟩ sv) := by
  have hgw : g < W.heap.size := by obtain ⟨_, _, h1, _⟩ := hf; exact h1.lt
  have hgb : w.heap.size ≤ g := by obtain ⟨_, _, _, _, h3, _⟩ := hf; exact h3
  have h2 := hf.sets rowV_stays (vs := [sv]) hn hi hB ⟨sv, rfl, hx.keepF intV_stays (fun _ _ => rfl) (fun m hm => ⟨by have := hm.1; omega, hm.2, by have := hm.1; omega⟩), hz'⟩ rfl
  rw [Nat.mul_one] at h2
  refine ⟨i + 1, hn, rfl, h2, fun x h3 h4 => ?_, (below_tr hb hB).setCell (p := ⟨g, i, none⟩) hgb _⟩
  have h5 := cellA_below hB (a := ⟨g, x, none⟩) hgw (hz x (by omega) h4)
  exact (World.cell?_setCell_other (w := W') (a := ⟨g, i, none⟩) (b := ⟨g, x, none⟩) (v := sv) (by intro e; injection e with _ e2; omega)).trans h5
theorem GrR.skip {w W W' : World} {g n i : Nat} {l : List (List Int)} (hf : FillS w.heap.size g 41 1 n RowV W l i) (hz : ∀ x, i ≤ x → x < n → W.cell? ⟨g, x, none⟩ = some (.slice none 0 0)) (hn : i < n) (hi : i < l.length) (hb : Below w.heap.size w W) (hB : Below W.heap.size W W') (hx : l[i] = []) : GrR w g n l (I ((i : Int) + 1)) W' := by
  obtain ⟨cur, cs, h1, h2, h3, h4, h5, h6, h7⟩ := hf
  have hc : cur[i]? = some (.slice none 0 0) := by
    have := hz i (Nat.le_refl _) hn
    unfold Blk at h1
    simpa [World.cell?, h1] using this
  refine ⟨i + 1, hn, rfl, FillS.put rowV_stays (W := W) (W' := W') (vs := [.slice none 0 0]) hi h2 h3 h4 h5 h6 h7 hB (by rw [hx]; exact ⟨_, rfl, SlS.nil _ _, Or.inl ⟨rfl, rfl⟩⟩) rfl (h1.below hB h1.lt) rfl (fun _ _ => rfl) (fun j hj => ?_) (fun _ _ => rfl) (Nat.le_refl _), fun x h8 h9 => cellA_below hB (a := ⟨g, x, none⟩) h1.lt (hz x (by omega) h9), below_tr hb hB⟩
  obtain rfl : j = 0 := by omega
  rw [Nat.mul_one, Nat.add_zero]
  exact hc

/-- Blocks, few. -/
def SmallL (f : FunP) : Prop := f.blocks.length ≤ 1000000
set_option maxRecDepth 100000 in
set_option maxHeartbeats 3200000 in
theorem graph_any (f : FunP) (hs : SmallL f) (ba : Option Addr) (L bc : Nat) (w : World) (h : BlocksZ w (.slice ba L bc) f.blocks) :
    Calls Try.prog 42 #[.agg #[I f.params, I f.vars, I f.vals, .slice ba L bc]] w fun e w' => WaysT w f w' e := by
  obtain ⟨n, hn⟩ : ∃ n, n = f.blocks.length := ⟨_, rfl⟩
  have e2 : L = n := by
    obtain ⟨a', c', e, _⟩ := h
    injection e with _ e2 _
    rw [e2, hn]
  subst e2
  have hnb : L ≤ 1000000 := by unfold SmallL at hs; omega
  have hmk := mkGs L hnb
  obtain ⟨bx, hbx⟩ : ∃ g, g = w.heap.size := ⟨_, rfl⟩
  obtain ⟨g, hg⟩ : ∃ g, g = w.heap.size + 1 := ⟨_, rfl⟩
  obtain ⟨W1, hW1⟩ : ∃ W, W = (w.alloc (.cells #[I f.params, I f.vars, I f.vals, .slice ba L bc] 36)).alloc (.cells (Array.replicate L (.slice none 0 0)) 41) := ⟨_, rfl⟩
  have hB1 : Below w.heap.size w W1 := by rw [hW1]; exact ((Below.refl _ _).alloc (Nat.le_refl _) _).alloc (by simp) _
  have kx : Blk bx #[I f.params, I f.vars, I f.vals, .slice ba L bc] 36 W1 := by rw [hW1, hbx]; exact (Blk.new _ _ _).alloc _
  have kg : Blk g (Array.replicate L (.slice none 0 0)) 41 W1 := by rw [hW1, hg]; exact Blk.new' _ _ _ (by simp)
  have HST := Lib.hid (show GrR w g L (f.blocks.map waysB) (I 0) W1 from ⟨0, Nat.zero_le _, rfl, fill_start kg (by simp) (by omega), fun x _ hx => kg.get x _ (by simp [hx]), hB1⟩)
  have HH := Lib.hid (And.intro h (And.intro hn hnb))
  have HW1 := Lib.hid (And.intro hW1 (And.intro hbx hg))
  have x3 := kx.get 3 (.slice ba L bc) rfl
  clear h hn hs hW1 hbx hg hB1 kx kg
  go_enter Try.func42, Try.ntmps42
  go_upto_region 2 with (fail)
  rw [← HW1.out.2.2, ← HW1.out.2.1]
  change Code.wp _ _ _ _ ((w.alloc (.cells #[I f.params, I f.vars, I f.vals, .slice ba L bc] 36)).alloc (.cells (Array.replicate L (.slice none 0 0)) 41))
  rw [← HW1.out.1]
  go_wp2_with fail
  go_loopw [13] (fun iv W => GrR w g L (f.blocks.map waysB) iv W) (fun iv _ => L - (intOf iv).toNat)
  case atStart => exact HST.out
  case round =>
    obtain ⟨i, hi, rfl, hf, hz, hb⟩ := hrel
    clear x3
    by_cases hin : i < L
    · have il : i < f.blocks.length := by have := HH.out.2.1; omega
      obtain ⟨g1, _, e1, gl, c0, pv, iv, rfl, hpz, hiz⟩ := (HH.out.1.below blockV_stays hb).at i il
      subst e1
      obtain ⟨pa, pc, rfl⟩ := hpz.size
      obtain ⟨ia, ic, rfl⟩ := hiz.size
      obtain ⟨x, hx⟩ : ∃ x, x = f.blocks[i] := ⟨_, rfl⟩
      have hli : i < (f.blocks.map waysB).length := by simpa using il
      have hwi : (f.blocks.map waysB)[i] = waysB x := by rw [hx]; simp
      rw [← hx] at c0
      obtain ⟨P, hP⟩ : ∃ P, P = x.phis.length := ⟨_, rfl⟩
      obtain ⟨J, hJ⟩ : ∃ J, J = x.insts.length := ⟨_, rfl⟩
      rw [← hP, ← hJ] at c0
      have x0 := c0.f0
      have x1 := c0.f1
      have x2 := c0.f2
      have x3 := c0.f3
      have x4 := c0.f4
      have x5 := c0.f5
      have z0 := hz i (Nat.le_refl _) hin
      have hgw : g < wr.heap.size := by obtain ⟨_, _, h1, _⟩ := hf; exact h1.lt
      have hgf : ∀ W', Below wr.heap.size wr W' → W'.cell? ⟨g, i, none⟩ = some (.slice none 0 0) ∧ W'.frozen? ⟨g, i, none⟩ = false := fun W' hB => ⟨cellA_below hB (a := ⟨g, i, none⟩) hgw z0, by obtain ⟨_, _, h1, _⟩ := hf; exact (h1.below hB h1.lt).free i⟩
      have hgf2 := hgf
      obtain ⟨W5, hW5⟩ : ∃ W, W = wr.alloc (.cells #[.slice pa P pc, .slice ia J ic, U8 x.fin, I x.arg, I x.to, I x.els] 40) := ⟨_, rfl⟩
      have hB5 : Below wr.heap.size wr W5 := by rw [hW5]; exact (Below.refl _ _).alloc (Nat.le_refl _) _
      have hz5 : W5.heap.size = wr.heap.size + 1 := by rw [hW5]; simp
      have hN1 : x.fin = 1 → GrR w g L (f.blocks.map waysB) (I ((i : Int) + 1)) ((W5.alloc (.cells #[I x.to] 3)).setCell ⟨g, i, none⟩ (.slice (some ⟨W5.heap.size, 0, none⟩) 1 1)) := fun h1 => GrR.put hf hz hin hli hb (hB5.alloc hB5.size _) (by
        rw [hwi]
        unfold waysB
        rw [if_pos h1]
        exact row_new [x.to] (Blk.new W5 _ _) _ ⟨⟨hB5.size, by simp⟩, ⟨_, _, Blk.new W5 _ _⟩⟩) (by
        rw [hwi]
        unfold waysB
        rw [if_pos h1]
        exact Or.inr ⟨by simp, _, _, rfl⟩)
      have hN2 : x.fin ≠ 1 → x.fin = 2 → GrR w g L (f.blocks.map waysB) (I ((i : Int) + 1)) ((W5.alloc (.cells #[I x.to, I x.els] 3)).setCell ⟨g, i, none⟩ (.slice (some ⟨W5.heap.size, 0, none⟩) 2 2)) := fun h1 h2 => GrR.put hf hz hin hli hb (hB5.alloc hB5.size _) (by
        rw [hwi]
        unfold waysB
        rw [if_neg h1, if_pos h2]
        exact row_new [x.to, x.els] (Blk.new W5 _ _) _ ⟨⟨hB5.size, by simp⟩, ⟨_, _, Blk.new W5 _ _⟩⟩) (by
        rw [hwi]
        unfold waysB
        rw [if_neg h1, if_pos h2]
        exact Or.inr ⟨by simp, _, _, rfl⟩)
      have hN3 : x.fin ≠ 1 → x.fin ≠ 2 → GrR w g L (f.blocks.map waysB) (I ((i : Int) + 1)) W5 := fun h1 h2 => GrR.skip hf hz hin hli hb hB5 (by
        rw [hwi]
        unfold waysB
        rw [if_neg h1, if_neg h2])
      have HN := Lib.hid (And.intro hN1 (And.intro hN2 hN3))
      have HG := Lib.hid hgf
      have HB5 := Lib.hid (And.intro hB5 hz5)
      have HW5 := Lib.hid hW5
      have d0 : decide (i < L) = true := by simpa using hin
      have d1 : (0 : Int) ≤ (i : Int) := by omega
      have d2 : (i : Int) < (L : Int) := by omega
      have HI := Lib.hid hin
      clear hgf hgf2 hN1 hN2 hN3 hB5 hz5 hW5 c0 hx hP hJ hli hwi z0 hgw il hin hi hb hf hz hpz hiz gl HST hmk
      by_cases h1 : x.fin = 1
      · have g1 : (x.fin == 1) = true := by simpa using h1
        have HN1 := Lib.hid (HN.out.1 h1)
        obtain ⟨y0, f0⟩ := HG.out ((wr.alloc (.cells #[.slice pa P pc, .slice ia J ic, U8 x.fin, I x.arg, I x.to, I x.els] 40)).alloc (.cells #[I x.to] 3)) (((Below.refl _ _).alloc (Nat.le_refl _) _).alloc (by simp) _)
        rw [HB5.out.2, HW5.out] at HN1
        clear h1 HN HG
        go_wp2_with fail
        exact ⟨HN1.out, by have := HI.out; simp [intOf]; omega⟩
      · have g1 : (x.fin == 1) = false := by simpa using h1
        by_cases h2 : x.fin = 2
        · have g2 : (x.fin == 2) = true := by simpa using h2
          have HN1 := Lib.hid (HN.out.2.1 h1 h2)
          obtain ⟨y0, f0⟩ := HG.out ((wr.alloc (.cells #[.slice pa P pc, .slice ia J ic, U8 x.fin, I x.arg, I x.to, I x.els] 40)).alloc (.cells #[I x.to, I x.els] 3)) (((Below.refl _ _).alloc (Nat.le_refl _) _).alloc (by simp) _)
          rw [HB5.out.2, HW5.out] at HN1
          clear h1 h2 HN HG
          go_wp2_with fail
          exact ⟨HN1.out, by have := HI.out; simp [intOf]; omega⟩
        · have g2 : (x.fin == 2) = false := by simpa using h2
          have HN1 := Lib.hid (HN.out.2.2 h1 h2)
          rw [HW5.out] at HN1
          clear h1 h2 HN HG
          go_wp2_with fail
          exact ⟨HN1.out, by have := HI.out; simp [intOf]; omega⟩
    · have d0 : decide (i < L) = false := by simpa using hin
      obtain rfl : i = L := by omega
      have FIN := Lib.hid (show WaysT w f wr (.returned (.slice (some ⟨g, 0, none⟩) i i)) from ⟨_, rfl, (hf.done (by rw [List.length_map]; exact HH.out.2.1) (by have := HH.out.2.2; unfold maxLen; omega) rowV_stays).z rowV_stays, hb, fun _ => ⟨g, i, by rw [← HH.out.2.1]⟩⟩)
      clear hf hz hb hin hi HST hmk
      go_wp2_with fail
      go_ret
      exact FIN.out
end Go.Proofs.Ytjlmkcamefaodaa

/-! CSmall: The small functions of the code between: what is told of each Op, by the program and by the document's answer; a number within bounds. -/

namespace Go.Proofs.Ytjlmkcamefaodaa
open Go Go.RowKit

namespace Cd
def trapsB (op : Nat) : Bool := op == 4 || op == 5 || op == 33 || op == 34 || op == 41
def twoB (op : Nat) : Bool := 1 ≤ op && op ≤ 16
def pureB (op : Nat) : Bool := (op != 4 && op != 5) && (op == 19 || op == 20 || op == 21 || op == 30 || op == 31 || twoB op)
end Cd
open Cd

set_option maxRecDepth 100000 in
set_option maxHeartbeats 800000 in
theorem traps_any (op : Nat) (w : World) : Calls Try.prog 68 #[.int .u8 (op : Int)] w fun e w' => e = .returned (.bool (trapsB op)) ∧ w = w' := by
  go_enter Try.func68, Try.ntmps68
  go_wp2_with fail
  all_goals go_ret
  all_goals refine ⟨ret_bool ?_, rfl⟩
  all_goals simp only [beq_iff_eq, beq_eq_false_iff_ne] at *
  all_goals (unfold trapsB; simp; try omega)

set_option maxRecDepth 100000 in
set_option maxHeartbeats 800000 in
theorem two_any (op : Nat) (w : World) : Calls Try.prog 24 #[.int .u8 (op : Int)] w fun e w' => e = .returned (.bool (twoB op)) ∧ w = w' := by
  go_enter Try.func24, Try.ntmps24
  go_wp2_with fail
  all_goals go_ret
  all_goals refine ⟨ret_bool ?_, rfl⟩
  all_goals (unfold twoB; rw [Bool.eq_iff_iff]; simp; omega)

set_option maxRecDepth 100000 in
set_option maxHeartbeats 800000 in
theorem pure_any (op : Nat) (w : World) : Calls Try.prog 18 #[.int .u8 (op : Int)] w fun e w' => e = .returned (.bool (pureB op)) ∧ w = w' := by
  go_enter Try.func18, Try.ntmps18
  go_wp2_with (go_at_call 24; refine (two_any _ _).mono ?_; rintro e w' ⟨rfl, rfl⟩)
  all_goals go_ret
  all_goals refine ⟨ret_bool ?_, rfl⟩
  all_goals simp only [beq_iff_eq, beq_eq_false_iff_ne] at *
  all_goals (unfold pureB; rw [Bool.eq_iff_iff]; simp; try omega)
  constructor
  · exact fun h => ⟨⟨by omega, by omega⟩, Or.inr h⟩
  · rintro ⟨_, h | h⟩
    · omega
    · exact h

/-- What is told of an Op: how many Args, does it make a value, is there such a one. -/
def Cd.shapeF (op : Nat) : Int × Bool × Bool :=
  if op = 30 ∨ op = 32 ∨ op = 36 ∨ op = 37 ∨ op = 41 ∨ op = 43 then (0, true, true)
  else if op = 19 ∨ op = 20 ∨ op = 21 ∨ op = 31 ∨ op = 35 then (1, true, true)
  else if op = 33 then (2, true, true)
  else if op = 39 ∨ op = 45 then (-1, true, true)
  else if op = 42 then (0, false, true)
  else if op = 38 ∨ op = 40 ∨ op = 44 then (1, false, true)
  else if op = 34 then (3, false, true)
  else if 1 ≤ op ∧ op ≤ 16 then (2, true, true) else (0, false, false)
def shapeV (p : Int × Bool × Bool) : Ending := .returned (.tuple #[.int .i64 p.1, .bool p.2.1, .bool p.2.2])
theorem shapeV_of {a : Int} {b c : Bool} {p : Int × Bool × Bool} (h : (a, b, c) = p) : Ending.returned (.tuple #[.int .i64 a, .bool b, .bool c]) = shapeV p := by rw [← h]; rfl

set_option maxRecDepth 100000 in
set_option maxHeartbeats 1600000 in
theorem shape_any (op : Nat) (w : World) : Calls Try.prog 16 #[.int .u8 (op : Int)] w fun e w' => e = shapeV (shapeF op) ∧ w = w' := by
  by_cases h2 : twoB op = true
  · have H2 := Lib.hid h2
    have HC := Lib.hid (two_any op w)
    clear h2
    go_enter Try.func16, Try.ntmps16
    go_wp2_with fail
    all_goals first | (refine HC.out.mono ?_; rintro e w' ⟨rfl, rfl⟩; rw [H2.out]; go_wp2_with fail) | skip
    all_goals go_ret3
    all_goals refine ⟨shapeV_of ?_, rfl⟩
    all_goals simp only [beq_iff_eq, beq_eq_false_iff_ne] at *
    all_goals (have h2 := H2.out; unfold twoB at h2; simp at h2; first | (exfalso; omega) | (unfold shapeF; repeat (first | rw [if_pos (by omega)] | rw [if_neg (by omega)])))
  · have H2 := Lib.hid h2
    have HC := Lib.hid (two_any op w)
    clear h2
    go_enter Try.func16, Try.ntmps16
    go_wp2_with fail
    all_goals first | (refine HC.out.mono ?_; rintro e w' ⟨rfl, rfl⟩; rw [(Bool.not_eq_true _).mp H2.out]; go_wp2_with fail) | skip
    all_goals go_ret3
    all_goals refine ⟨shapeV_of ?_, rfl⟩
    all_goals simp only [beq_iff_eq, beq_eq_false_iff_ne] at *
    all_goals (have h2 := H2.out; unfold twoB at h2; simp at h2; first | (exfalso; omega) | (unfold shapeF; repeat (first | rw [if_pos (by omega)] | rw [if_neg (by omega)])))

set_option maxRecDepth 100000 in
set_option maxHeartbeats 800000 in
theorem refTraps_any (op : Nat) (w : World) : Calls Try.prog 37 #[.int .u8 (op : Int)] w fun e w' => e = .returned (.bool (trapsB op)) ∧ w = w' := by
  go_enter Try.func37, Try.ntmps37
  go_wp2_with fail
  all_goals go_ret
  all_goals refine ⟨ret_bool ?_, rfl⟩
  all_goals try simp only [beq_iff_eq, beq_eq_false_iff_ne] at *
  all_goals (unfold trapsB; rw [Bool.eq_iff_iff]; simp; try omega)

theorem within_any (n a b : Int) (w : World) : Calls Try.prog 40 #[.int .i64 n, .int .i64 a, .int .i64 b] w fun e w' => e = .returned (.bool (decide (a ≤ n ∧ n ≤ b))) ∧ w = w' := by
  go_enter Try.func40, Try.ntmps40
  go_wp2_with fail
  all_goals go_ret
  all_goals refine ⟨ret_bool ?_, rfl⟩
  all_goals (rw [Bool.eq_iff_iff]; simp; try omega)
end Go.Proofs.Ytjlmkcamefaodaa
