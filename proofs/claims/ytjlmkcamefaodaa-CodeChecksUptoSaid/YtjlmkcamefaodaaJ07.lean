/-
  Joined: FNew.
-/
import Derived.Test.YtjlmkcamefaodaaJ06
import Derived.Laws.MakeOwn
/-! FNew: A walk through any graph that has a node: what it leaves in memory is what the plain walk leaves. -/

namespace Go.Proofs.Ytjlmkcamefaodaa
open Go Go.RowKit Fl

/-- A row of a graph, in memory. -/
def RowAt (w : World) (v : Value) (l : List Nat) : Prop := ∃ a c, v = .slice a l.length c ∧ ∀ j (h : j < l.length), ∃ g, a = some ⟨g, 0, none⟩ ∧ g < w.heap.size ∧ w.cell? ⟨g, j, none⟩ = some (I (l[j] : Int))
/-- A graph in memory. -/
structure Gr (w : World) (bg : Nat) (G : List (List Nat)) : Prop where
  lt : bg < w.heap.size
  row : ∀ i, i < G.length → ∃ v, w.cell? ⟨bg, i, none⟩ = some v ∧ RowAt w v (row G i)
theorem RowAt.below {w w' : World} {v : Value} {l : List Nat} (h : RowAt w v l) (hb : Below w.heap.size w w') : RowAt w' v l := by
  obtain ⟨a, c, e, h⟩ := h
  refine ⟨a, c, e, fun j hj => ?_⟩
  obtain ⟨g, h1, h2, h3⟩ := h j hj
  exact ⟨g, h1, Nat.lt_of_lt_of_le h2 hb.size, cell_below hb h2 h3⟩
theorem Gr.below {w w' : World} {bg : Nat} {G : List (List Nat)} (h : Gr w bg G) (hb : Below w.heap.size w w') : Gr w' bg G :=
  ⟨Nat.lt_of_lt_of_le h.lt hb.size, fun i hi => by
    obtain ⟨v, h1, h2⟩ := h.row i hi
    exact ⟨v, cell_below hb h.lt h1, h2.below hb⟩⟩

theorem getD_of {α : Type} (l : List α) (j : Nat) (d : α) (h : j < l.length) : l.getD j d = l[j] := by rw [List.getD_eq_getElem?_getD, List.getElem?_eq_getElem h]; rfl
theorem arrZ_getD (l : List Int) (j : Nat) (d : Int) (h : j < l.length) : (arrZ l)[j]? = some (I (l.getD j d)) := by rw [getD_of l j d h]; exact arrZ_get l j h
theorem arrN_getD (l : List Nat) (j d : Nat) (h : j < l.length) : (arrN l)[j]? = some (I ((l.getD j d : Nat) : Int)) := by rw [getD_of l j d h]; exact arrN_get l j h
theorem arrB_getD (l : List Bool) (j : Nat) (d : Bool) (h : j < l.length) : (arrB l)[j]? = some (.bool (l.getD j d)) := by rw [getD_of l j d h]; exact arrB_get l j h
theorem made_one (x : Value) (n : Nat) : madeCells #[x] n = (List.replicate n x).toArray := by
  apply Array.ext
  · simp [size_madeCells]
  · intro i h1 h2
    simp [madeCells, Nat.mod_one]
theorem info_bool : (Try.prog.info? 4).map (fun i => (i.zero, i.size, i.bytes)) = some (some (.bool false), 1, 1) := by kernel_rfl
theorem mkIn (n : Nat) (hn : n ≤ 1000000) (u : World) : (Instr.makeSlice 41 (I (n : Int)) (I (n : Int))).run Try.prog u = .ok (.slice (some ⟨u.heap.size, 0, none⟩) n n) (u.alloc (.cells (arrZ (List.replicate n 0)) 3)) := by
  obtain ⟨i0, hi, hz0, hz1, hz2⟩ := info_parts info_int'
  have h := run_makeSlice (P := Try.prog) (w := u) 41 3 i0 _ Try.underlying41 hi hz0 .i64 .i64 (n : Int) (n : Int) (by omega) (Int.le_refl _) (by rw [hz1]; simp; omega) (by rw [hz2]; simp; omega) (by omega)
  rw [hz1, show (I 0).cells = #[I 0] from rfl, made_one] at h
  simp at h
  rw [show arrZ (List.replicate n 0) = Array.replicate n (I 0) by apply Array.toList_inj.1; simp]
  exact h
theorem mkBn (n : Nat) (hn : n ≤ 1000000) (u : World) : (Instr.makeSlice 69 (I (n : Int)) (I (n : Int))).run Try.prog u = .ok (.slice (some ⟨u.heap.size, 0, none⟩) n n) (u.alloc (.cells (arrB (List.replicate n false)) 4)) := by
  obtain ⟨i0, hi, hz0, hz1, hz2⟩ := info_parts info_bool
  have h := run_makeSlice (P := Try.prog) (w := u) 69 4 i0 _ Try.underlying69 hi hz0 .i64 .i64 (n : Int) (n : Int) (by omega) (Int.le_refl _) (by rw [hz1]; simp; omega) (by rw [hz2]; simp; omega) (by omega)
  rw [hz1, show (Value.bool false).cells = #[.bool false] from rfl, made_one] at h
  simp at h
  rw [show arrB (List.replicate n false) = Array.replicate n (.bool false) by apply Array.toList_inj.1; simp]
  exact h

theorem own_heap {w w' : World} {base E size n : Nat} {v : Value} {xs : List Value} (h : w.ownsRow base E size v n xs) (e : w'.heap = w.heap) : w'.ownsRow base E size v n xs := by
  refine ⟨h.1, ?_⟩
  rcases h.2 with h2 | ⟨g, cap, cur, hv, hg, hh, r⟩
  · exact Or.inl h2
  · exact Or.inr ⟨g, cap, cur, hv, hg, by rw [e]; exact hh, r⟩
/-- A walk's state in memory. -/
structure WalkS (base bw bf br bn : Nat) (G : List (List Nat)) (s : Ws) (v0 v1 : Value) (W : World) : Prop where
  wk : WalkG base bw bf br v0 v1 G.length s.frm s.rch W
  en : Nums W base v0 s.ent
  le : Nums W base v1 s.left
  nx : Blk bn (arrN s.nxt) 3 W
  a0 : Apart3 v0 bw bf br
  a1 : Apart3 v1 bw bf br
  nn : bn ≠ bw ∧ bn ≠ bf ∧ bn ≠ br
  n0 : some bn ≠ v0.ownBlock
  n1 : some bn ≠ v1.ownBlock
  ne : v0.ownBlock = none ∨ v0.ownBlock ≠ v1.ownBlock
  ln : base ≤ bn

section
variable {base bw bf br bn : Nat} {G : List (List Nat)} {s : Ws} {v0 v1 : Value} {W W' : World}
theorem WalkS.heap (h : WalkS base bw bf br bn G s v0 v1 W) (e : W'.heap = W.heap) : WalkS base bw bf br bn G s v0 v1 W' := by
  have e' : ∀ k : Nat, W'.heap[k]? = W.heap[k]? := fun k => by rw [e]
  exact ⟨h.wk.same (e' _) (e' _) (e' _), own_heap h.en e, own_heap h.le e, (e' _).trans h.nx, h.a0, h.a1, h.nn, h.n0, h.n1, h.ne, h.ln⟩
theorem own_apart {w : World} {base E size n : Nat} {v : Value} {xs : List Value} (h : w.ownsRow base E size v n xs) {u : Value} {b : Nat} (hne : some b ≠ v.ownBlock) (hb : b < w.heap.size) {S : Nat} (hS : w.heap.size ≤ S) (hat : u.ownBlock = v.ownBlock ∨ ∃ g, u.ownBlock = some g ∧ S ≤ g) : some b ≠ u.ownBlock := by
  rcases hat with e | ⟨g, e, hg⟩
  · rw [e]; exact hne
  · rw [e]; simp; omega
theorem WalkS.leave (h : WalkS base bw bf br bn G s v0 v1 W) {o : Obj} {w4 : World} {u : Value} {a : Nat} {c : Int} (hg : (W.alloc o).grownBy w4 v1.ownBlock) (ho : Nums w4 base u (s.left ++ [a])) (hat : u.ownBlock = v1.ownBlock ∨ u.ownBlock = some (W.alloc o).heap.size) :
    WalkS base bw bf br bn G { s with left := s.left ++ [a], cur := c } v0 u (w4.setCell ⟨bw, 1, none⟩ u) := by
  have hat' : u.ownBlock = v1.ownBlock ∨ ∃ g, u.ownBlock = some g ∧ W.heap.size ≤ g := by
    rcases hat with e | e
    · exact Or.inl e
    · exact Or.inr ⟨_, e, by simp⟩
  have q1 : some bw ≠ u.ownBlock := own_apart h.le h.a1.1 h.wk.blk.lt (Nat.le_refl _) hat'
  have q2 : some bf ≠ u.ownBlock := own_apart h.le h.a1.2.1 h.wk.frm.lt (Nat.le_refl _) hat'
  have q3 : some br ≠ u.ownBlock := own_apart h.le h.a1.2.2 h.wk.rch.lt (Nat.le_refl _) hat'
  have q4 : some bn ≠ u.ownBlock := own_apart h.le h.n1 h.nx.lt (Nat.le_refl _) hat'
  refine ⟨((h.wk.alloc o).grown hg h.a1.1 h.a1.2.1 h.a1.2.2).set1 u, own_set ((h.en.alloc o).kept hg h.ne) h.a0.1, own_set ho q1, ((h.nx.alloc o).other hg h.n1).setOther h.nn.1 _ _, h.a0, ⟨q1, q2, q3⟩, h.nn, h.n0, q4, ?_, h.ln⟩
  cases hv : v0.ownBlock with
  | none => exact Or.inl rfl
  | some g0 =>
    right
    have hl := (h.en.lt g0 hv).2
    have hne : some g0 ≠ v1.ownBlock := by
      rcases h.ne with e | e
      · rw [hv] at e; cases e
      · rw [hv] at e; exact e
    exact own_apart h.le hne hl (Nat.le_refl _) hat'
theorem WalkS.next (h : WalkS base bw bf br bn G s v0 v1 W) (a x : Nat) : WalkS base bw bf br bn G { s with nxt := s.nxt.set a x } v0 v1 (W.setCell ⟨bn, a, none⟩ (I (x : Int))) :=
  ⟨⟨h.wk.blk.setOther (Ne.symm h.nn.1) _ _, h.wk.frm.setOther (Ne.symm h.nn.2.1) _ _, h.wk.rch.setOther (Ne.symm h.nn.2.2) _ _, h.wk.lw, h.wk.lf, h.wk.lr, h.wk.nf, h.wk.nr, h.wk.fr, h.wk.fl, h.wk.rl⟩,
    own_set h.en h.n0, own_set h.le h.n1, by have := h.nx.set a (I (x : Int)); rw [arrN_set] at this; exact this, h.a0, h.a1, h.nn, h.n0, h.n1, h.ne, h.ln⟩
theorem WalkS.entered (h : WalkS base bw bf br bn G s v0 v1 W) {t : Nat} {f c : Int} {e : Ending} (hp : EnterP base bw bf br v0 v1 G.length s.frm s.rch s.ent t f W W' e) :
    ∃ u, WalkS base bw bf br bn G { ent := s.ent ++ [t], left := s.left, frm := s.frm.set t f, rch := s.rch.set t true, nxt := s.nxt, cur := c } u v1 W' := by
  obtain ⟨_, u, h2, ho2, ha2, hat2, hk2, hs2, hm2⟩ := hp
  have q0 : some bn ≠ u.ownBlock := own_apart h.en h.n0 h.nx.lt (Nat.le_refl _) hat2
  have hle : Nums W' base v1 s.left := by
    rcases h.le.2 with h3 | ⟨g, cap, cur, hv, hg, hh, r⟩
    · exact ⟨h.le.1, Or.inl h3⟩
    · have e1 : v1.ownBlock = some g := by rw [hv]; rfl
      have a1 := h.a1
      have ne := h.ne
      unfold Apart3 at a1
      rw [e1] at a1 ne
      refine ⟨h.le.1, Or.inr ⟨g, cap, cur, hv, hg, (hk2 g (h.le.lt g e1).2 (fun e => a1.1 (by rw [e])) (fun e => a1.2.1 (by rw [e])) (fun e => a1.2.2 (by rw [e])) ?_).trans hh, r⟩⟩
      rcases ne with e | e
      · rw [e]; simp
      · exact Ne.symm e
  refine ⟨u, h2, ho2, hle, (hk2 bn h.nx.lt h.nn.1 h.nn.2.1 h.nn.2.2 h.n0).trans h.nx, ha2, h.a1, h.nn, q0, h.n1, ?_, h.ln⟩
  cases hv : v1.ownBlock with
  | none =>
    cases hu : u.ownBlock with
    | none => exact Or.inl rfl
    | some g => right; simp
  | some g1 =>
    right
    have hl := (h.le.lt g1 hv).2
    have hne : some g1 ≠ v0.ownBlock := by
      rcases h.ne with e | e
      · rw [e]; simp
      · rw [hv] at e; exact Ne.symm e
    exact Ne.symm (own_apart h.en hne hl (Nat.le_refl _) hat2)
theorem WalkS.drewN (h : WalkS base bw bf br bn G s v0 v1 W) (n : Nat) : WalkS base bw bf br bn G s v0 v1 (W.drewN n) := h.heap rfl
end

def WRel (w0 : World) (bw bf br bn : Nat) (G : List (List Nat)) (F : Nat) (gk : Nat) (c : Value) (W : World) : Prop :=
  ∃ s v0 v1, c = I s.cur ∧ WsOk G s ∧ Fl.go G gk s = walkF G F ∧ Fl.go G gk s ≠ none ∧ s.ent.length + gk ≤ F + 1 ∧ s.left.length + gk ≤ F + 1 ∧ WalkS w0.heap.size bw bf br bn G s v0 v1 W ∧ Below w0.heap.size w0 W

/-- What a walk leaves. -/
def WalkT (w : World) (G : List (List Nat)) (F : Nat) (W : World) (e : Ending) : Prop := ∃ bw bf br bn s v0 v1, e = .returned (.pointer (some ⟨bw, 0, none⟩)) ∧ walkF G F = some s ∧ WsOk G s ∧ WalkS w.heap.size bw bf br bn G s v0 v1 W ∧ Below w.heap.size w W

def NewP (w : World) (n : Nat) (p : Value) (W : World) : Prop := ∃ bw bf br, p = .pointer (some ⟨bw, 0, none⟩) ∧ WalkG w.heap.size bw bf br (.slice none 0 0) (.slice none 0 0) n (List.replicate n 0) (List.replicate n false) W ∧ Below w.heap.size w W

set_option maxRecDepth 100000 in
set_option maxHeartbeats 1600000 in
theorem newWalk_any (bg cap F : Nat) (G : List (List Nat)) (hn0 : 0 < G.length) (hn : G.length ≤ 60000) (hG : GOk G) (hF : F ≤ 5000000) (hw : walkF G F ≠ none) (hrow : ∀ i, (row G i).length ≤ 1000000) (w : World) (h : Gr w bg G) :
    Calls Try.prog 53 #[.slice (some ⟨bg, 0, none⟩) G.length cap] w fun e w' => WalkT w G F w' e := by
  obtain ⟨i0, hi, hz0, hz1, hz2⟩ := info_parts info_int'
  have HI := Lib.hid (And.intro hi (And.intro hz0 (And.intro hz1 hz2)))
  obtain ⟨n, hnn⟩ : ∃ n, n = G.length := ⟨_, rfl⟩
  have hmk := mkIn n (by omega)
  have hmb := mkBn n (by omega)
  have HH := Lib.hid (And.intro h (And.intro hG (And.intro hF (And.intro hw (And.intro hn (And.intro hnn hrow))))))
  rw [← hnn] at hn0 hn ⊢
  have hnz : ((n : Int) == 0) = false := by simp; omega
  have HNW := Lib.hid (show ∀ W bw bf br p, p = .pointer (some ⟨bw, 0, none⟩) → WalkG w.heap.size bw bf br (.slice none 0 0) (.slice none 0 0) n (List.replicate n 0) (List.replicate n false) W → Below w.heap.size w W → NewP w n p W from fun W bw bf br p h1 h2 h3 => ⟨bw, bf, br, h1, h2, h3⟩)
  clear h hG hF hw hi hz0 hz1 hz2 hrow hnn
  go_enter Try.func53, Try.ntmps53
  go_upto_region 1 with (fail)
  go_cut [3] from 7 to 14 (fun p W => NewP w n p W)
  case first =>
    have HA := Lib.hid (show NewP w n (.pointer (some ⟨w.heap.size + 1 + 1, 0, none⟩)) ((((w.alloc (.cells (arrZ (List.replicate n 0)) 3)).alloc (.cells (arrB (List.replicate n false)) 4)).alloc (.cells #[.slice none 0 0, .slice none 0 0, .slice (some ⟨w.heap.size, 0, none⟩) n n, .slice (some ⟨w.heap.size + 1, 0, none⟩) n n] 103))).drew from
      ⟨_, w.heap.size, w.heap.size + 1, rfl, ⟨Blk.new' _ _ _ (by simp), ((Blk.new _ _ _).alloc _).alloc _, (Blk.new' _ _ _ (by simp)).alloc _, by omega, by omega, by omega, by omega, by omega, by omega, by simp, by simp⟩, ((((Below.refl _ _).alloc (Nat.le_refl _) _).alloc (by simp) _).alloc (by simp; omega) _).drew⟩)
    have HB := Lib.hid (show NewP w n (.pointer (some ⟨w.heap.size + 1 + 1, 0, none⟩)) ((((w.alloc (.cells (arrB (List.replicate n false)) 4)).alloc (.cells (arrZ (List.replicate n 0)) 3)).alloc (.cells #[.slice none 0 0, .slice none 0 0, .slice (some ⟨w.heap.size + 1, 0, none⟩) n n, .slice (some ⟨w.heap.size, 0, none⟩) n n] 103))).drew from
      ⟨_, w.heap.size + 1, w.heap.size, rfl, ⟨Blk.new' _ _ _ (by simp), (Blk.new' _ _ _ (by simp)).alloc _, ((Blk.new _ _ _).alloc _).alloc _, by omega, by omega, by omega, by omega, by omega, by omega, by simp, by simp⟩, ((((Below.refl _ _).alloc (Nat.le_refl _) _).alloc (by simp) _).alloc (by simp; omega) _).drew⟩)
    go_region
    all_goals (go_wp2_with fail; go_meet; case rel => first | exact HA.out | exact HB.out)
  case rest =>
    obtain ⟨bw, bf, br, rfl, hW, hbl⟩ := hcut
    obtain ⟨W, rfl⟩ : ∃ W, W = wc := ⟨_, rfl⟩
    obtain ⟨bn, hbn⟩ : ∃ bn, bn = W.heap.size := ⟨_, rfl⟩
    obtain ⟨W1, hW1⟩ : ∃ W1, W1 = W.alloc (.cells (arrZ (List.replicate n 0)) 3) := ⟨_, rfl⟩
    have k1 : WalkG w.heap.size bw bf br (.slice none 0 0) (.slice none 0 0) n (List.replicate n 0) (List.replicate n false) W1 := by rw [hW1]; exact hW.alloc _
    have kn1 : Blk bn (arrN (List.replicate n 0)) 3 W1 := by
      rw [hW1, hbn, show arrN (List.replicate n 0) = arrZ (List.replicate n 0) by apply Array.toList_inj.1; simp]
      exact Blk.new _ _ _
    have hb1 : Below w.heap.size w W1 := by rw [hW1]; exact hbl.alloc hbl.size _
    have hnn : bn ≠ bw ∧ bn ≠ bf ∧ bn ≠ br := by have := hW.blk.lt; have := hW.frm.lt; have := hW.rch.lt; omega
    have hln : w.heap.size ≤ bn := by have := hbl.size; omega
    have HE := Lib.hid (enter_any w.heap.size bw bf br (.slice none 0 0) (.slice none 0 0) n (List.replicate n 0) (List.replicate n false) [] 0 (-1) hn0 (by simp) W1 hb1.size k1 (World.ownsRow_nil _ _ _ _) ⟨by simp [Value.ownBlock], by simp [Value.ownBlock], by simp [Value.ownBlock]⟩)
    have H1 := Lib.hid (And.intro k1 (And.intro kn1 (And.intro hb1 (And.intro hnn hln))))
    have HW1 := Lib.hid (And.intro hW1 hbn)
    clear hW hbl hbn hW1 k1 kn1 hb1 hnn hln
    go_upto_region 5 with (fail)
    rw [← HW1.out.2]
    change Code.wp _ _ _ _ (W.alloc (.cells (arrZ (List.replicate n 0)) 3))
    rw [← HW1.out.1]
    go_wp2_with (fail)
    refine HE.out.mono ?_
    rintro e W2 ⟨rfl, v0, h2, ho2, ha2, hat2, hk2, hs2, hm2⟩
    have HREL := Lib.hid (show WRel w bw bf br bn G F F (I 0) W2 by
      have e0 : G.length = n := HH.out.2.2.2.2.2.1.symm
      refine ⟨Fl.start G, v0, .slice none 0 0, rfl, Fl.start_ok (by omega), rfl, HH.out.2.2.2.1, by simp [Fl.start]; omega, by simp [Fl.start], ⟨?_, ho2, World.ownsRow_nil _ _ _ _, ?_, ha2, ⟨by simp [Value.ownBlock], by simp [Value.ownBlock], by simp [Value.ownBlock]⟩, H1.out.2.2.2.1, ?_, by simp [Value.ownBlock], ?_, H1.out.2.2.2.2⟩, ?_⟩
      · unfold Fl.start; rw [e0]; exact h2
      · unfold Fl.start; rw [e0]; exact (hk2 bn H1.out.2.1.lt H1.out.2.2.2.1.1 H1.out.2.2.2.1.2.1 H1.out.2.2.2.1.2.2 (by simp [Value.ownBlock])).trans H1.out.2.1
      · rcases hat2 with h | ⟨g, h, hg⟩
        · rw [h]; simp [Value.ownBlock]
        · rw [h]; have := H1.out.2.1.lt; simp; omega
      · rcases hat2 with h | ⟨g, h, hg⟩
        · left; rw [h]; rfl
        · right; rw [h]; simp [Value.ownBlock]
      · exact ⟨hm2.1.trans H1.out.2.2.1.os, hm2.2.1.trans H1.out.2.2.1.tape, hm2.2.2.trans H1.out.2.2.1.output, Nat.le_trans H1.out.2.2.1.size hs2, fun k hk => (hk2 k (Nat.lt_of_lt_of_le hk H1.out.2.2.1.size) (by have := H1.out.1.lw; omega) (by have := H1.out.1.lf; omega) (by have := H1.out.1.lr; omega) (by simp [Value.ownBlock])).trans (H1.out.2.2.1.block k hk)⟩)
    clear h2 ho2 ha2 hat2 hk2 hs2 hm2
    go_wp2_with (fail)
    go_loopg [5] F (fun gk c W => WRel w bw bf br bn G F gk c W)
    case atStart => exact HREL.out
    case round =>
      obtain ⟨s, u0, u1, rfl, hok, hgo, hne, hel, hll, hS, hbel⟩ := hrel
      obtain ⟨k, rfl⟩ : ∃ k, gk = k + 1 := by
        cases gk with
        | zero => exact absurd rfl hne
        | succ k => exact ⟨k, rfl⟩
      have HS := Lib.hid (And.intro hok (And.intro hgo (And.intro hne (And.intro hel (And.intro hll (And.intro hS hbel))))))
      obtain ⟨c, hc⟩ : ∃ c, c = s.cur := ⟨_, rfl⟩
      rw [← hc]
      clear hok hgo hne hel hll
      by_cases hneg : c < 0
      · have hd : decide ((0 : Int) ≤ c) = false := by simp; exact hneg
        have FIN := Lib.hid (show WalkT w G F wr (.returned (.pointer (some ⟨bw, 0, none⟩))) from
          ⟨bw, bf, br, bn, s, u0, u1, rfl, by rw [← HS.out.2.1]; unfold Fl.go; rw [if_pos (by rw [← hc]; exact hneg)], HS.out.1, HS.out.2.2.2.2.2.1, HS.out.2.2.2.2.2.2⟩)
        clear hc hS hbel
        go_wp2_with (fail)
        go_ret
        exact FIN.out
      · obtain ⟨a, rfl⟩ : ∃ a : Nat, c = (a : Int) := ⟨c.toNat, by omega⟩
        have hcur : s.cur = (a : Int) := hc.symm
        have hn' : n = G.length := HH.out.2.2.2.2.2.1
        have han : a < n := by have := HS.out.1.hi; omega
        have hgs : Fl.go G (k + 1) s = Fl.go G k (Fl.step G s) := Fl.go_step (by omega)
        have hok' : WsOk G (Fl.step G s) := Fl.step_ok HH.out.2.1 HS.out.1 (by omega)
        obtain ⟨x, hx⟩ : ∃ x, x = s.nxt.getD a 0 := ⟨_, rfl⟩
        have x0 := hS.nx.get a (I (x : Int)) (by rw [hx]; exact arrN_getD s.nxt a 0 (by rw [HS.out.1.nl]; omega))
        have hle : x ≤ (row G a).length := by rw [hx]; exact HS.out.1.nx a
        obtain ⟨rv, y0, ra, rc, hrv, hrow⟩ := (HH.out.1.below hbel).row a (by omega)
        subst hrv
        obtain ⟨L, hL⟩ : ∃ L, L = (row G a).length := ⟨_, rfl⟩
        rw [← hL] at y0 hle
        obtain ⟨fa, hfa⟩ : ∃ fa, fa = s.frm.getD a (-1) := ⟨_, rfl⟩
        have z0 := hS.wk.frm.get a (I fa) (by rw [hfa]; exact arrZ_getD s.frm a (-1) (by rw [HS.out.1.fl]; omega))
        have hd : decide ((0 : Int) ≤ (a : Int)) = true := by simp
        have hai : (0 : Int) ≤ (a : Int) := by omega
        have hai2 : (a : Int) < (n : Int) := by omega
        have HX := Lib.hid (And.intro hcur (And.intro hn' (And.intro hgs (And.intro hok' (And.intro hx (And.intro hle (And.intro hL (And.intro hfa hrow))))))))
        clear hc hneg hcur hn' hgs hok' hx hle hL hfa hrow
        by_cases hlast : x = L
        · have hst := Lib.hid (Fl.step_last (G := G) HX.out.1 (by rw [← HX.out.2.2.2.2.1, ← HX.out.2.2.2.2.2.2.1]; exact hlast))
          have hb1 : ((x : Int) == (L : Int)) = true := by rw [hlast]; simp
          have HL := Lib.hid hlast
          clear hlast hS hbel
          go_wp2_with (fail)
          go_quiet (fail)
          go_upto_region 9 with (fail)
          obtain ⟨W3, hW3⟩ : ∃ W3, W3 = wr.drewN nq := ⟨_, rfl⟩
          have hS3 : WalkS w.heap.size bw bf br bn G s u0 u1 W3 := by rw [hW3]; exact HS.out.2.2.2.2.2.1.drewN nq
          have hb3 : Below w.heap.size w W3 := by rw [hW3]; exact below_drewN HS.out.2.2.2.2.2.2 nq
          rw [← hW3]
          obtain ⟨s1, m1, k1, rfl⟩ : ∃ a m c, u1 = .slice a m c := by
            rcases own_slice hS3.le with ⟨h, _⟩ | ⟨g, cap, h⟩
            · exact ⟨_, _, _, h⟩
            · exact ⟨_, _, _, h⟩
          have c1 := hS3.wk.blk.get 1 (.slice s1 m1 k1) rfl
          have hll : s.left.length + 1 ≤ maxLen := by have := HS.out.2.2.2.2.1; have := HH.out.2.2.1; unfold maxLen; omega
          have hlb : (s.left.length + 1) * 8 ≤ 140737488355328 := by have := HS.out.2.2.2.2.1; have := HH.out.2.2.1; omega
          have H3 := Lib.hid (And.intro hS3 (And.intro hb3 (And.intro hll hlb)))
          clear hW3 hS3 hb3 hll hlb x0 y0 z0
          go_wp2_with (at_builtin; refine Hid.out ?_)
          unfold Hid
          refine wpList_append_own_at _ rfl _ _ 41 rfl w.heap.size 3 i0 (I 0) 1 8 Try.underlying41 HI.out.1 HI.out.2.1 HI.out.2.2.1 HI.out.2.2.2 rfl (by decide) (.slice s1 m1 k1) s.left.length (ints s.left) rfl (H3.out.1.le.alloc _) ⟨W3.heap.size, 0, none⟩ 1 1 [I (a : Int)] rfl rfl (cell_one_new _ _ _) (by simp [Value.oneCell']) H3.out.2.2.1 H3.out.2.2.2 (by have := H3.out.2.1.size; simp; omega) ?_
          intro v' w4 ho hg _ hat
          have ho' : Nums w4 w.heap.size v' (s.left ++ [a]) := by
            show World.ownsRow _ _ _ _ _ _ _
            rw [List.length_append]
            simpa using ho
          obtain ⟨g, cap4, rfl⟩ : ∃ g cap, v' = .slice (some ⟨g, 0, none⟩) (s.left.length + 1) cap := by
            rcases own_slice ho with ⟨_, h⟩ | ⟨g, cap, h⟩
            · exact absurd h (by omega)
            · exact ⟨g, cap, h⟩
          have hS4 := H3.out.1.leave (c := s.frm.getD a (-1)) hg ho' hat
          have hW4 := (H3.out.1.wk.alloc (.cells #[I (a : Int)] 3)).grown hg H3.out.1.a1.1 H3.out.1.a1.2.1 H3.out.1.a1.2.2
          have hb4 : Below w.heap.size w (w4.setCell ⟨bw, 1, none⟩ (.slice (some ⟨g, 0, none⟩) (s.left.length + 1) cap4)) := by
            refine Below.setCell (p := ⟨bw, 1, none⟩) ?_ H3.out.1.wk.lw _
            exact (H3.out.2.1.alloc H3.out.2.1.size _).grown hg (by have := H3.out.2.1.size; simp; omega) (fun k hk => (H3.out.1.le.lt k hk).1)
          have c1' := hW4.blk.get 1 (.slice s1 m1 k1) rfl
          have f1' := hW4.blk.free 1
          have c2' := hW4.blk.get 2 (.slice (some ⟨bf, 0, none⟩) n n) (by rw [HX.out.2.1]; rfl)
          have z0' := hW4.frm.get a (I fa) (by rw [HX.out.2.2.2.2.2.2.2.1]; exact arrZ_getD s.frm a (-1) (by rw [HS.out.1.fl, ← HX.out.2.1]; omega))
          have n1 := hW4.nf
          have HN := Lib.hid (show WRel w bw bf br bn G F k (I fa) (w4.setCell ⟨bw, 1, none⟩ (.slice (some ⟨g, 0, none⟩) (s.left.length + 1) cap4)) by
            refine ⟨{ s with left := s.left ++ [a], cur := s.frm.getD a (-1) }, u0, _, by rw [HX.out.2.2.2.2.2.2.2.1], ?_, ?_, ?_, ?_, ?_, hS4, hb4⟩
            · rw [← hst.out]; exact HX.out.2.2.2.1
            · rw [← hst.out, ← HX.out.2.2.1]; exact HS.out.2.1
            · rw [← hst.out, ← HX.out.2.2.1]; exact HS.out.2.2.1
            · show s.ent.length + k ≤ F + 1; have := HS.out.2.2.2.1; omega
            · show (s.left ++ [a]).length + k ≤ F + 1; rw [List.length_append]; have := HS.out.2.2.2.2.1; simp; omega)
          clear ho hg hat ho' hS4 hW4 hb4 c1
          go_wp2_with (fail)
          go_roundg k
          case rel => exact HN.out
          case measure => omega
        · have hlt : x < L := by have := HX.out.2.2.2.2.2.1; omega
          obtain ⟨g, hra, hgl, r0⟩ := HX.out.2.2.2.2.2.2.2.2 x (by rw [← HX.out.2.2.2.2.2.2.1]; exact hlt)
          subst hra
          obtain ⟨t, ht⟩ : ∃ t, t = (row G a)[x]'(by rw [← HX.out.2.2.2.2.2.2.1]; exact hlt) := ⟨_, rfl⟩
          rw [← ht] at r0
          have htg : (row G a).getD (s.nxt.getD a 0) 0 = t := by rw [← HX.out.2.2.2.2.1, getD_of _ _ _ (by rw [← HX.out.2.2.2.2.2.2.1]; exact hlt), ht]
          have htn : t < n := by
            have h1 := HH.out.2.1 a _ (List.getElem_mem (l := row G a) (n := x) (by rw [← HX.out.2.2.2.2.2.2.1]; exact hlt))
            rw [← ht] at h1
            have h2 := HX.out.2.1
            omega
          have hnl : s.nxt.getD a 0 ≠ (row G a).length := by rw [← HX.out.2.2.2.2.1, ← HX.out.2.2.2.2.2.2.1]; exact hlast
          have hb1 : ((x : Int) == (L : Int)) = false := by simp; omega
          have hxi : (0 : Int) ≤ (x : Int) := by omega
          have hxi2 : (x : Int) < (L : Int) := by omega
          have hti : (0 : Int) ≤ (t : Int) := by omega
          have hti2 : (t : Int) < (n : Int) := by omega
          have hxb : (x : Int) ≤ 1000000 := by have := HX.out.2.2.2.2.2.1; have := HH.out.2.2.2.2.2.2 a; have := HX.out.2.2.2.2.2.2.1; omega
          obtain ⟨bt, hbt⟩ : ∃ bt, bt = s.rch.getD t false := ⟨_, rfl⟩
          have HT := Lib.hid (And.intro htg (And.intro hnl (And.intro hbt (And.intro htn hlt))))
          clear ht htg htn hnl hlast hlt hS hbel hbt
          go_wp2_with (fail)
          go_quiet (fail)
          go_upto_region 11 with (fail)
          obtain ⟨W3, hW3⟩ : ∃ W3, W3 = wr.drewN nq := ⟨_, rfl⟩
          have e3 : ∀ b o, W3.cell? ⟨b, o, none⟩ = wr.cell? ⟨b, o, none⟩ := fun b o => by rw [hW3]; rfl
          have x0' : W3.cell? ⟨bn, a, none⟩ = some (I (x : Int)) := (e3 _ _).trans x0
          have y0' : W3.cell? ⟨bg, a, none⟩ = some (.slice (some ⟨g, 0, none⟩) L rc) := (e3 _ _).trans y0
          have r0' : W3.cell? ⟨g, x, none⟩ = some (I (t : Int)) := (e3 _ _).trans r0
          have hS3 : WalkS w.heap.size bw bf br bn G s u0 u1 W3 := by rw [hW3]; exact HS.out.2.2.2.2.2.1.drewN nq
          have hb3 : Below w.heap.size w W3 := by rw [hW3]; exact below_drewN HS.out.2.2.2.2.2.2 nq
          rw [← hW3]
          have H3 := Lib.hid (And.intro hS3 hb3)
          clear hW3 e3 hS3 hb3 x0 y0 z0 r0
          go_quiet (fail)
          go_upto_region 12 with (fail)
          obtain ⟨W4, hW4⟩ : ∃ W4, W4 = W3.drewN nq := ⟨_, rfl⟩
          have hS4 : WalkS w.heap.size bw bf br bn G s u0 u1 W4 := by rw [hW4]; exact H3.out.1.drewN nq
          have hb4 : Below w.heap.size w W4 := by rw [hW4]; exact below_drewN H3.out.2 nq
          rw [← hW4]
          have x0 := hS4.nx.get a (I (x : Int)) (by rw [HX.out.2.2.2.2.1]; exact arrN_getD s.nxt a 0 (by rw [HS.out.1.nl, ← HX.out.2.1]; have := hai2; omega))
          have fx := hS4.nx.free a
          obtain ⟨W5, hW5⟩ : ∃ W5, W5 = W4.setCell ⟨bn, a, none⟩ (I ((x + 1 : Nat) : Int)) := ⟨_, rfl⟩
          have hS5 : WalkS w.heap.size bw bf br bn G { s with nxt := s.nxt.set a (s.nxt.getD a 0 + 1) } u0 u1 W5 := by rw [hW5, ← HX.out.2.2.2.2.1]; exact hS4.next a (x + 1)
          have hb5 : Below w.heap.size w W5 := by rw [hW5]; exact hb4.setCell (p := ⟨bn, a, none⟩) hS4.ln _
          have q3 := hS5.wk.blk.get 3 (.slice (some ⟨br, 0, none⟩) n n) (by rw [HX.out.2.1]; rfl)
          have qt := hS5.wk.rch.get t (.bool bt) (by rw [HT.out.2.2.1]; exact arrB_getD s.rch t false (by rw [HS.out.1.rl, ← HX.out.2.1]; exact HT.out.2.2.2.1))
          have H5 := Lib.hid (And.intro hS5 hb5)
          have HW5 := Lib.hid hW5
          have HX1 := Lib.hid (show (x : Int) + 1 = ((x + 1 : Nat) : Int) by omega)
          clear hW4 hS4 hb4 hW5 hS5 hb5 x0' y0' r0'
          go_upto_region 13 with (fail)
          try rw [HX1.out]
          change Code.wp _ _ _ _ (W4.setCell ⟨bn, a, none⟩ (I ((x + 1 : Nat) : Int)))
          rw [← HW5.out]
          clear x0 fx HW5
          cases bt
          · have hst := Lib.hid (Fl.step_new (G := G) HX.out.1 HT.out.2.1 HT.out.1 HT.out.2.2.1.symm)
            have HE := Lib.hid (enter_any w.heap.size bw bf br u0 u1 n s.frm s.rch s.ent t (a : Int) HT.out.2.2.2.1 (by have := HS.out.2.2.2.1; have := HH.out.2.2.1; omega) W5 H5.out.2.size (by rw [HX.out.2.1]; exact H5.out.1.wk) H5.out.1.en H5.out.1.a0)
            go_wp2_with (fail)
            refine HE.out.mono ?_
            rintro e W6 hp
            have hr := hp.1
            subst hr
            have HP := Lib.hid hp
            clear hp
            have hb6 : Below w.heap.size w W6 := by
              obtain ⟨_, u, h2, ho2, ha2, hat2, hk2, hs2, hm2⟩ := HP.out
              refine ⟨hm2.1.trans H5.out.2.os, hm2.2.1.trans H5.out.2.tape, hm2.2.2.trans H5.out.2.output, Nat.le_trans H5.out.2.size hs2, fun i hi => (hk2 i (Nat.lt_of_lt_of_le hi H5.out.2.size) (by have := H5.out.1.wk.lw; omega) (by have := H5.out.1.wk.lf; omega) (by have := H5.out.1.wk.lr; omega) ?_).trans (H5.out.2.block i hi)⟩
              intro e
              have := (H5.out.1.en.lt i e.symm).1
              omega
            have HN := Lib.hid (show WRel w bw bf br bn G F k (I (t : Int)) W6 by
              have hp := HP.out
              rw [HX.out.2.1] at hp
              obtain ⟨u, hS6⟩ := H5.out.1.entered (c := (t : Int)) hp
              refine ⟨_, u, u1, rfl, ?_, ?_, ?_, ?_, ?_, hS6, hb6⟩
              · have := HX.out.2.2.2.1; rw [hst.out] at this; exact this
              · have := HS.out.2.1; rw [HX.out.2.2.1, hst.out] at this; exact this
              · have := HS.out.2.2.1; rw [HX.out.2.2.1, hst.out] at this; exact this
              · show (s.ent ++ [t]).length + k ≤ F + 1; rw [List.length_append]; have := HS.out.2.2.2.1; simp; omega
              · show s.left.length + k ≤ F + 1; have := HS.out.2.2.2.2.1; omega)
            clear hb6
            go_wp2_with (fail)
            go_roundg k
            case rel => exact HN.out
            case measure => omega
          · have hst := Lib.hid (Fl.step_old (G := G) HX.out.1 HT.out.2.1 HT.out.1 HT.out.2.2.1.symm)
            have HN := Lib.hid (show WRel w bw bf br bn G F k (I (a : Int)) W5 by
              refine ⟨_, u0, u1, by rw [HX.out.1.symm], ?_, ?_, ?_, ?_, ?_, H5.out.1, H5.out.2⟩
              · have := HX.out.2.2.2.1; rw [hst.out] at this; exact this
              · have := HS.out.2.1; rw [HX.out.2.2.1, hst.out] at this; exact this
              · have := HS.out.2.2.1; rw [HX.out.2.2.1, hst.out] at this; exact this
              · show s.ent.length + k ≤ F + 1; have := HS.out.2.2.2.1; omega
              · show s.left.length + k ≤ F + 1; have := HS.out.2.2.2.2.1; omega)
            go_wp2_with (fail)
            go_roundg k
            case rel => exact HN.out
            case measure => omega
end Go.Proofs.Ytjlmkcamefaodaa
