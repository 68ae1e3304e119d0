/-
  Joined: FAbv.
-/
import Derived.Test.YtjlmkcamefaodaaJ19
import Derived.Test.YtjlmkcamefaodaaJ13
/-! FAbv: What stands above, of any graph: the rows in memory. -/

namespace Go.Proofs.Ytjlmkcamefaodaa
open Go Go.RowKit Fl

/-- A walk, and the ways into nodes, to be read. -/
structure AbvR (w : World) (bw g m cap bf br N bl : Nat) (G : List (List Nat)) (s : Ws) : Prop where
  c0 : w.cell? ⟨bw, 0, none⟩ = some (.slice (some ⟨g, 0, none⟩) m cap)
  c2 : w.cell? ⟨bw, 2, none⟩ = some (.slice (some ⟨bf, 0, none⟩) N N)
  c3 : w.cell? ⟨bw, 3, none⟩ = some (.slice (some ⟨br, 0, none⟩) N N)
  en : ∀ i, i < m → w.cell? ⟨g, i, none⟩ = some (I ((s.ent.getD i 0 : Nat) : Int))
  fm : ∀ a, a < N → w.cell? ⟨bf, a, none⟩ = some (I (s.frm.getD a 0))
  rc : ∀ a, a < N → w.cell? ⟨br, a, none⟩ = some (.bool (s.rch.getD a false))
  gr : Gr w bl (intoF G)
  lw : bw < w.heap.size
  lf : bf < w.heap.size
  lr : br < w.heap.size
  lg : g < w.heap.size
  em : s.ent.length = m
  nm : G.length = N
theorem AbvR.below {w w' : World} {bw g m cap bf br N bl : Nat} {G : List (List Nat)} {s : Ws} (h : AbvR w bw g m cap bf br N bl G s) (hb : Below w.heap.size w w') : AbvR w' bw g m cap bf br N bl G s :=
  ⟨cell_below hb h.lw h.c0, cell_below hb h.lw h.c2, cell_below hb h.lw h.c3, fun i hi => cell_below hb h.lg (h.en i hi), fun a ha => cell_below hb h.lf (h.fm a ha), fun a ha => cell_below hb h.lr (h.rc a ha), h.gr.below hb,
    Nat.lt_of_lt_of_le h.lw hb.size, Nat.lt_of_lt_of_le h.lf hb.size, Nat.lt_of_lt_of_le h.lr hb.size, Nat.lt_of_lt_of_le h.lg hb.size, h.em, h.nm⟩

/-- Two rows in new memory: what stands above, and the numbers. -/
structure AbG (w : World) (a b N : Nat) (L : List Int) (U : List Nat) (W : World) : Prop where
  ka : Blk a (arrZ L) 3 W
  kb : Blk b (arrN U) 3 W
  la : w.heap.size ≤ a
  lb : w.heap.size ≤ b
  ne : a ≠ b
  bel : Below w.heap.size w W
  ll : L.length = N
  ul : U.length = N
section
variable {w W W' : World} {a b N : Nat} {L : List Int} {U : List Nat}
theorem AbG.setA (h : AbG w a b N L U W) (j : Nat) (x : Int) : AbG w a b N (L.set j x) U (W.setCell ⟨a, j, none⟩ (I x)) :=
  ⟨by have := h.ka.set j (I x); rw [arrZ_set] at this; exact this, h.kb.setOther (Ne.symm h.ne) _ _, h.la, h.lb, h.ne, h.bel.setCell (p := ⟨a, j, none⟩) h.la _, by rw [List.length_set]; exact h.ll, h.ul⟩
theorem AbG.setB (h : AbG w a b N L U W) (j x : Nat) : AbG w a b N L (U.set j x) (W.setCell ⟨b, j, none⟩ (I (x : Int))) :=
  ⟨h.ka.setOther h.ne _ _, by have := h.kb.set j (I (x : Int)); rw [arrN_set] at this; exact this, h.la, h.lb, h.ne, h.bel.setCell (p := ⟨b, j, none⟩) h.lb _, h.ll, by rw [List.length_set]; exact h.ul⟩
theorem AbG.later (h : AbG w a b N L U W) (hb : Below W.heap.size W W') : AbG w a b N L U W' :=
  ⟨h.ka.below hb h.ka.lt, h.kb.below hb h.kb.lt, h.la, h.lb, h.ne, h.bel.trans (hb.mono h.bel.size), h.ll, h.ul⟩
theorem AbG.drew (h : AbG w a b N L U W) : AbG w a b N L U W.drew := ⟨h.ka, h.kb, h.la, h.lb, h.ne, h.bel.drew, h.ll, h.ul⟩
end
theorem abG_start (w : World) (N a b : Nat) (hab : (a = w.heap.size ∧ b = w.heap.size + 1) ∨ (a = w.heap.size + 1 ∧ b = w.heap.size)) :
    AbG w a b N (List.replicate N 0) (List.replicate N 0) (((w.alloc (.cells (arrZ (List.replicate N 0)) 3)).alloc (.cells (arrZ (List.replicate N 0)) 3)).drew) := by
  have h0 : Blk w.heap.size (arrZ (List.replicate N 0)) 3 (((w.alloc (.cells (arrZ (List.replicate N 0)) 3)).alloc (.cells (arrZ (List.replicate N 0)) 3)).drew) := (Blk.new _ _ _).alloc _
  have h1 : Blk (w.heap.size + 1) (arrZ (List.replicate N 0)) 3 (((w.alloc (.cells (arrZ (List.replicate N 0)) 3)).alloc (.cells (arrZ (List.replicate N 0)) 3)).drew) := Blk.new' _ _ _ (by simp)
  have hb : Below w.heap.size w (((w.alloc (.cells (arrZ (List.replicate N 0)) 3)).alloc (.cells (arrZ (List.replicate N 0)) 3)).drew) := (((Below.refl _ _).alloc (Nat.le_refl _) _).alloc (by simp) _).drew
  have e : arrN (List.replicate N 0) = arrZ (List.replicate N 0) := by simp
  rcases hab with ⟨rfl, rfl⟩ | ⟨rfl, rfl⟩
  · exact ⟨h0, by rw [e]; exact h1, by omega, by omega, by omega, hb, by simp, by simp⟩
  · exact ⟨h1, by rw [e]; exact h0, by omega, by omega, by omega, hb, by simp, by simp⟩

namespace Fl
def minusL (N j : Nat) : List Int := (List.range N).map (fun i => if i < j then (-1 : Int) else 0)
theorem minusL_zero (N : Nat) : minusL N 0 = List.replicate N 0 := by
  unfold minusL
  rw [List.map_congr_left (g := fun _ => (0 : Int)) (fun i _ => by simp)]
  simp [List.map_const']
theorem minusL_all (N : Nat) : minusL N N = List.replicate N (-1) := by
  unfold minusL
  rw [List.map_congr_left (g := fun _ => (-1 : Int)) (fun i hi => by rw [if_pos (by simpa using hi)])]
  simp [List.map_const']
theorem minusL_set {N j : Nat} (_hj : j < N) : (minusL N j).set j (-1) = minusL N (j + 1) := by
  apply List.ext_getElem (by simp [minusL])
  intro i h1 h2
  rw [List.getElem_set]
  simp only [minusL, List.getElem_map, List.getElem_range]
  by_cases e : j = i
  · rw [if_pos e, if_pos (by omega)]
  · rw [if_neg e]
    by_cases q : i < j
    · rw [if_pos q, if_pos (by omega)]
    · rw [if_neg q, if_neg (by omega)]
theorem nearF_congr {f g : Nat → Nat} {half : List Nat} {c k : Nat} {near far depth : List Nat} (h : ∀ i, i < k + c → f i = g i) : nearF f half c k near far depth = nearF g half c k near far depth := by
  induction c generalizing k near far depth with
  | zero => rfl
  | succ c ih =>
    unfold nearF
    rw [h k (by omega)]
    exact ih (fun i hi => h i (by omega))
/-- A climb's rows, as half ways are found from the greatest number down. -/
structure CliS (m : Nat) (E : Nat → Nat → Prop) (Pd : Nat → List Nat) (par : Nat → Nat) (Z : List Nat × List Nat × List Nat) (n : Nat) (up ls half : List Nat) : Prop where
  cl : Cl m n par half up ls
  hh : ∀ i, i ≤ n → i < m → half.getD i 0 = i
  hl : half.length = m
  H : ∀ u, n < u → u < m → Half E (half.getD u 0) u
  eq : halfF Pd par n up ls half = Z
theorem CliS.step {m : Nat} {E : Nat → Nat → Prop} {Pd : Nat → List Nat} {par : Nat → Nat} {Z : List Nat × List Nat × List Nat} {n : Nat} {up ls half : List Nat} (D : Nums3 m E par) (hP : ∀ w v, w < m → (v ∈ Pd w ↔ E v w)) (hn : n + 1 < m)
    (h : CliS m E Pd par Z (n + 1) up ls half) {up' ls' : List Nat} {x : Nat} (hz : predsF half (n + 1) (Pd (n + 1)) up ls (par (n + 1)) = (up', ls', x)) : CliS m E Pd par Z n up' ls' (half.set (n + 1) x) := by
  obtain ⟨a, b, c⟩ := half_step D hn (fun v => hP (n + 1) v hn) h.cl h.hh h.hl h.H
  have e := h.eq
  unfold halfF at e
  rw [hz] at a b c e
  exact ⟨a, c, by rw [List.length_set]; exact h.hl, b, e⟩
theorem Cl.upOk {m n0 : Nat} {par : Nat → Nat} {half up ls : List Nat} (h : Cl m n0 par half up ls) : UpOk m up := ⟨h.ul, fun i a b => (h.ua i a b).1, h.u0⟩
theorem Cl.lsOk {m n0 : Nat} {par : Nat → Nat} {half up ls : List Nat} (hp : ∀ i, 0 < i → i < m → par i < i) (h : Cl m n0 par half up ls) : LsOk m ls := ⟨h.ll, fun i hi => by
  rcases Nat.eq_zero_or_pos i with e | e
  · subst e; rw [h.l0]; exact hi
  · have := (h.lc i e hi).2.1.le hp hi; omega⟩
/-- Those of a row that are reached, by their numbers. -/
def restF (rch : List Bool) (nums : List Nat) (l : List Nat) : List Nat := (l.filter (fun x => rch.getD x false)).map (fun x => nums.getD x 0)
theorem restF_yes {rch : List Bool} {nums : List Nat} {l : List Nat} {j : Nat} (hj : j < l.length) (h : rch.getD l[j] false = true) : restF rch nums (l.drop j) = nums.getD l[j] 0 :: restF rch nums (l.drop (j + 1)) := by
  rw [List.drop_eq_getElem_cons hj]
  unfold restF
  rw [List.filter_cons, if_pos h, List.map_cons]
theorem restF_no {rch : List Bool} {nums : List Nat} {l : List Nat} {j : Nat} (hj : j < l.length) (h : rch.getD l[j] false = false) : restF rch nums (l.drop j) = restF rch nums (l.drop (j + 1)) := by
  rw [List.drop_eq_getElem_cons hj]
  unfold restF
  rw [List.filter_cons, if_neg (by rw [h]; exact Bool.false_ne_true)]
theorem restF_end (rch : List Bool) (nums : List Nat) (l : List Nat) : restF rch nums (l.drop l.length) = [] := by simp [restF]
end Fl

section
variable {base bc b0 b1 b2 b3 m : Nat} {fr up hf ls l l0 : List Nat} {pv0 pv : Value} {W0 W : World}
theorem ClimbG.path (h : ClimbG base bc b0 b1 b2 b3 m fr up hf ls (.slice none 0 0) W) : ClimbP base bc b0 b1 b2 b3 m fr up hf ls (.slice none 0 0) (.slice none 0 0) [] W W :=
  ⟨h, World.ownsRow_nil _ _ _ _, ⟨by simp [Value.ownBlock], by simp [Value.ownBlock], by simp [Value.ownBlock], by simp [Value.ownBlock], by simp [Value.ownBlock]⟩, ⟨fun _ _ _ _ _ _ => rfl, Or.inl rfl, Nat.le_refl _, rfl, rfl, rfl⟩⟩
theorem ClimbP.anew (h : ClimbP base bc b0 b1 b2 b3 m fr up hf ls pv0 pv l W0 W) : ClimbP base bc b0 b1 b2 b3 m fr up hf ls pv pv l W W :=
  ⟨h.g, h.o, h.a, ⟨fun _ _ _ _ _ _ => rfl, Or.inl rfl, Nat.le_refl _, rfl, rfl, rfl⟩⟩
theorem ClimbP.heap (h : ClimbP base bc b0 b1 b2 b3 m fr up hf ls pv pv l W W) {W' : World} (e : W'.heap = W.heap) : ClimbP base bc b0 b1 b2 b3 m fr up hf ls pv pv l W' W' :=
  ⟨h.g.heap e, own_heap h.o e, h.a, ⟨fun _ _ _ _ _ _ => rfl, Or.inl rfl, Nat.le_refl _, rfl, rfl, rfl⟩⟩
/-- What a climb leaves alone. -/
theorem ClimbP.kept (h0 : Nums W0 base pv0 l0) (h : ClimbP base bc b0 b1 b2 b3 m fr up hf ls pv0 pv l W0 W) (hb : base ≤ W0.heap.size) : Below base W0 W := by
  refine ⟨h.kp.misc.1, h.kp.misc.2.1, h.kp.misc.2.2, h.kp.size, fun k hk => ?_⟩
  have hne : some k ≠ pv0.ownBlock := by
    rcases own_slice h0 with ⟨e, _⟩ | ⟨g, cap, e⟩
    · rw [e]; simp [Value.ownBlock]
    · have := (h0.lt g (by rw [e]; rfl)).1
      rw [e]; simp [Value.ownBlock]; omega
  exact h.kp.k k (by omega) (by have := h.g.lc; omega) (by have := h.g.l1; omega) (by have := h.g.l3; omega) hne
theorem ClimbP.set2 (h : ClimbP base bc b0 b1 b2 b3 m fr up hf ls pv pv l W W) (j x : Nat) : ClimbP base bc b0 b1 b2 b3 m fr up (hf.set j x) ls pv pv l (W.setCell ⟨b2, j, none⟩ (I (x : Int))) (W.setCell ⟨b2, j, none⟩ (I (x : Int))) :=
  ⟨h.g.set2 j x, own_set h.o h.a.2.2.2.1, h.a, ⟨fun _ _ _ _ _ _ => rfl, Or.inl rfl, Nat.le_refl _, rfl, rfl, rfl⟩⟩
end
theorem nums_row {w : World} {base : Nat} {v : Value} {l : List Nat} (h : Nums w base v l) : RowAt w v l := by
  rcases own_slice h with ⟨e, hn⟩ | ⟨g, cap, e⟩
  · exact ⟨none, 0, by rw [e, hn], fun j hj => by omega⟩
  · refine ⟨_, _, e, fun j hj => ⟨g, rfl, (h.lt g (by rw [e]; rfl)).2, ?_⟩⟩
    rw [← getD_of l j 0 hj]
    exact nums_get (by rw [e] at h; exact h) rfl j hj
theorem into_gr {w : World} {base bl : Nat} {G : List (List Nat)} (h : IntoW base bl G.length (fun t => Fl.rowSt G G.length 0 t) w) : Gr w bl (intoF G) := by
  obtain ⟨h0, vs, h1, h2, h3, h4, h5⟩ := h
  refine ⟨h2.lt, fun i hi => ?_⟩
  have hi' : i < vs.length := by rw [h1]; simpa [intoF] using hi
  refine ⟨vs[i], h2.get i vs[i] (by simp [hi']), ?_⟩
  have e : row (intoF G) i = rowSt G G.length 0 i := by
    have : i < G.length := by omega
    simp [row, intoF, List.getD_eq_getElem?_getD, this]
  rw [e]
  exact nums_row (h3 i hi')
end Go.Proofs.Ytjlmkcamefaodaa
