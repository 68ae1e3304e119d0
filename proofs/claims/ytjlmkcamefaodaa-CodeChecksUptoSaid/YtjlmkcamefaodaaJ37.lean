/-
  Joined: RSh, RFq, CdS.
-/
import Derived.Test.YtjlmkcamefaodaaJ05
import Derived.Below
import Derived.Laws.Rows
import Derived.RegionTactic
import Derived.Deep.Cut
import Derived.Test.YtjlmkcamefaodaaJ36
import Derived.Test.YtjlmkcamefaodaaJ04
import Derived.Deep.CutRange
/-! RSh: The document's answer to what is told of an Op. -/

namespace Go.Proofs.Ytjlmkcamefaodaa
open Go Go.RowKit Cd

def refArgs : Obj := .cells #[.int .i64 0, .int .i64 1, .int .i64 0, .int .i64 2, .int .i64 3, .int .i64 1, .int .i64 0, .int .i64 0, .int .i64 1, .int .i64 (-1), .int .i64 1, .int .i64 0, .int .i64 0, .int .i64 0, .int .i64 1, .int .i64 (-1)] 3
def refMakes : Obj := .cells #[.bool true, .bool true, .bool true, .bool true, .bool false, .bool true, .bool true, .bool true, .bool false, .bool true, .bool false, .bool true, .bool false, .bool true, .bool false, .bool true] 4
theorem refArgs_cell (w : World) (j : Nat) (h : j < 16) : ((w.alloc refArgs).alloc refMakes).cell? ⟨w.heap.size, j, none⟩ = some (.int .i64 (shapeF (j + 30)).1) := by
  unfold refArgs
  rw [World.cell?_alloc_past _ _ _ (by show w.heap.size < _; simp), cell_of_row _ _ _ _ _ _ (heap_alloc_new w _)]
  match j, h with
  | 0, _ => rfl
  | 1, _ => rfl
  | 2, _ => rfl
  | 3, _ => rfl
  | 4, _ => rfl
  | 5, _ => rfl
  | 6, _ => rfl
  | 7, _ => rfl
  | 8, _ => rfl
  | 9, _ => rfl
  | 10, _ => rfl
  | 11, _ => rfl
  | 12, _ => rfl
  | 13, _ => rfl
  | 14, _ => rfl
  | 15, _ => rfl
  | n + 16, h => exact absurd h (by omega)
theorem refMakes_cell (w : World) (j : Nat) (h : j < 16) : ((w.alloc refArgs).alloc refMakes).cell? ⟨w.heap.size + 1, j, none⟩ = some (.bool (shapeF (j + 30)).2.1) := by
  unfold refMakes
  rw [cell_of_row _ _ _ _ _ _ (by have := heap_alloc_new (w.alloc refArgs) (.cells #[.bool true, .bool true, .bool true, .bool true, .bool false, .bool true, .bool true, .bool true, .bool false, .bool true, .bool false, .bool true, .bool false, .bool true, .bool false, .bool true] 4); simpa using this)]
  match j, h with
  | 0, _ => rfl
  | 1, _ => rfl
  | 2, _ => rfl
  | 3, _ => rfl
  | 4, _ => rfl
  | 5, _ => rfl
  | 6, _ => rfl
  | 7, _ => rfl
  | 8, _ => rfl
  | 9, _ => rfl
  | 10, _ => rfl
  | 11, _ => rfl
  | 12, _ => rfl
  | 13, _ => rfl
  | 14, _ => rfl
  | 15, _ => rfl
  | n + 16, h => exact absurd h (by omega)
theorem shapeF_in (op : Nat) (h1 : 30 ≤ op) (h2 : op ≤ 45) : (shapeF op).2.2 = true := by
  unfold shapeF
  repeat' split
  all_goals first | rfl | omega

set_option maxRecDepth 100000 in
set_option maxHeartbeats 1600000 in
theorem refShape_any (op : Nat) (ho : op < 256) (w : World) : Calls Try.prog 36 #[.int .u8 (op : Int)] w fun e w' => e = shapeV (shapeF op) ∧ Below w.heap.size w w' := by
  have HB := Lib.hid (((Below.refl w.heap.size w).alloc (Nat.le_refl _) refArgs).alloc (by simp) refMakes)
  have HB0 := Lib.hid (Below.refl w.heap.size w)
  by_cases h1 : 30 ≤ op ∧ op ≤ 45
  · obtain ⟨j, rfl⟩ : ∃ j, op = j + 30 := ⟨op - 30, by omega⟩
    have hj : j < 16 := by omega
    have c1 := refArgs_cell w j hj
    have c2 := refMakes_cell w j hj
    have h3 := shapeF_in (j + 30) (by omega) (by omega)
    obtain ⟨p, hp⟩ : ∃ p, p = shapeF (j + 30) := ⟨_, rfl⟩
    rw [← hp] at c1 c2 h3 ⊢
    obtain ⟨a, b, c⟩ := p
    simp only at c1 c2 h3
    subst h3
    clear hp
    obtain ⟨W, hW⟩ : ∃ W, W = (w.alloc refArgs).alloc refMakes := ⟨_, rfl⟩
    rw [← hW] at c1 c2 HB
    have HW := Lib.hid hW
    clear hW h1
    go_enter Try.func36, Try.ntmps36
    go_upto_region 9 with (fail)
    all_goals first | (exfalso; omega) | skip
    change Code.wp _ _ _ _ ((w.alloc refArgs).alloc refMakes)
    rw [← HW.out]
    have e1 : IntKind.u8.wrap (((j + 30 : Nat) : Int) - 30) = (j : Int) := by
      rw [show ((j + 30 : Nat) : Int) - 30 = (j : Int) by omega]
      exact IntWalk.u8_in _ ⟨by omega, by omega⟩
    have e2 : (0 : Int) ≤ (j : Int) := by omega
    have e3 : (j : Int) < 16 := by omega
    go_quiet (fail)
    go_wp2_with fail
    go_ret3
    exact ⟨shapeV_of rfl, ⟨HB.out.os, HB.out.tape, HB.out.output, HB.out.size, HB.out.block⟩⟩
  · rcases Nat.lt_or_ge op 30 with h | h
    · go_enter Try.func36, Try.ntmps36
      go_wp2_with fail
      all_goals first | (exfalso; omega) | skip
      all_goals go_ret3
      all_goals refine ⟨shapeV_of ?_, by first | exact HB.out | exact HB0.out⟩
      all_goals (unfold shapeF; repeat (first | rw [if_pos (by omega)] | rw [if_neg (by omega)]))
    · have h4 : 45 < op := by omega
      clear h1 h
      go_enter Try.func36, Try.ntmps36
      go_wp2_with fail
      all_goals first | (exfalso; omega) | skip
      all_goals go_ret3
      all_goals refine ⟨shapeV_of ?_, by first | exact HB.out | exact HB0.out⟩
      all_goals (unfold shapeF; repeat (first | rw [if_pos (by omega)] | rw [if_neg (by omega)]))
end Go.Proofs.Ytjlmkcamefaodaa

/-! RFq: The document's own right function is the plain one; and what its walk keeps in memory. -/

namespace Go.Proofs.Ytjlmkcamefaodaa
open Go Go.RowKit Go.Maps Go.Sort Cd Fl

namespace Cd
theorem mks_at {f : FunP} {p : Mk} (hp : p ∈ mks f) : ∃ (i : Nat) (h : i < f.blocks.length), p.2.1 = (i : Int) ∧ p.2.2 < (f.blocks[i].insts.length : Int) := by
  have key : ∀ k, k ≤ f.blocks.length → p ∈ mkBl f k → ∃ (i : Nat) (h : i < f.blocks.length), p.2.1 = (i : Int) ∧ p.2.2 < (f.blocks[i].insts.length : Int) := fun k hk h => by
    induction k with
    | zero => simp [mkBl] at h
    | succ k ih =>
      rw [mkBl_succ f hk] at h
      rcases List.mem_append.1 h with h | h
      · exact ih (by omega) h
      · refine ⟨k, hk, ?_⟩
        unfold mkB at h
        rcases List.mem_append.1 h with h | h
        · obtain ⟨x, hx, rfl⟩ := List.mem_map.1 h
          exact ⟨rfl, by show (-1 : Int) < _; omega⟩
        · have hin : ∀ m, m ≤ f.blocks[k].insts.length → p ∈ mkIn k f.blocks[k].insts m → p.2.1 = (k : Int) ∧ p.2.2 < (f.blocks[k].insts.length : Int) := fun m hm hp => by
            induction m with
            | zero => simp [mkIn] at hp
            | succ m ihm =>
              rw [mkIn_succ _ _ hm] at hp
              rcases List.mem_append.1 hp with h2 | h2
              · exact ihm (by omega) h2
              · unfold mk1 at h2
                split at h2
                · simp at h2
                · have : p = (f.blocks[k].insts[m].dst, (k : Int), (m : Int)) := by simpa using h2
                  rw [this]
                  exact ⟨rfl, by show (m : Int) < _; omega⟩
          exact hin _ (Nat.le_refl _) h
  exact key _ (Nat.le_refl _) hp
theorem come_use {f : FunP} (hr : ∀ i, i < f.blocks.length → Rch (gN f) i) {v : Int} {fr : Nat} (hfr : fr < f.blocks.length) : UseOk f (mks f) v fr (instLen f fr) ↔ ComeOk f (mks f) v fr := by
  constructor
  · rintro ⟨pb, pa, hm, h⟩
    refine ⟨pb, pa, hm, ?_⟩
    rcases h with h | h
    · rw [h.1, Int.toNat_natCast]
      exact dom_refl (hr fr hfr)
    · have := h.2
      rwa [Int.toNat_natCast] at this
  · rintro ⟨pb, pa, hm, h⟩
    refine ⟨pb, pa, hm, ?_⟩
    by_cases e : pb = (fr : Int)
    · left
      refine ⟨e, ?_⟩
      obtain ⟨i, hi, e1, e2⟩ := mks_at hm
      have e1' : pb = (i : Int) := e1
      obtain rfl : i = fr := by omega
      unfold instLen
      rw [List.getElem?_eq_getElem hi]
      exact e2
    · right
      rw [Int.toNat_natCast]
      exact ⟨e, h⟩
theorem instLen_nonneg (f : FunP) (i : Nat) : 0 ≤ instLen f i := by
  unfold instLen
  split
  · omega
  · omega
theorem rfun_iff (c : CodeP) (f : FunP) : RFun c f ↔ FunOk c f := by
  constructor
  · rintro ⟨hs, he, herr, hr, h0, hp0, hb⟩
    have hE := (ends_iff hs).1 ⟨he, herr, h0⟩
    have hins : ∀ i (h : i < f.blocks.length), ∀ x ∈ f.blocks[i].insts, ∃ k : Nat, k < f.blocks[i].insts.length ∧ RInst c f i k x := fun i h x hx => by
      obtain ⟨k, hk, rfl⟩ := List.getElem_of_mem hx
      exact ⟨k, hk, (hb i h).2.1 k hk⟩
    have hphi : ∀ i (h : i < f.blocks.length), ∀ x ∈ f.blocks[i].phis, RPhi f i x := fun i h x hx => by
      obtain ⟨k, hk, rfl⟩ := List.getElem_of_mem hx
      exact (hb i h).1 k hk
    have hi : ∀ i (h : i < f.blocks.length), ∀ x ∈ f.blocks[i].insts, makesB x = true ↔ x.dst ≠ -1 := fun i h x hx => by
      obtain ⟨k, _, h1⟩ := hins i h x hx
      have h2 := h1.2.1
      constructor
      · intro q
        have := h2.2.2 q
        omega
      · intro q
        cases e : makesB x with
        | true => rfl
        | false => exact absurd (h2.2.1 e) q
    have hD : DOk f.vals (mks f) := (dok_iff (c := c) hi).2 fun i h => ⟨fun x hx => (hphi i h x hx).2.1, fun x hx hm => by
      obtain ⟨k, _, h1⟩ := hins i h x hx
      exact ⟨h1.2.1.2.2 hm, h1.2.2.1 hm⟩⟩
    refine ⟨hs, ⟨hE, hr⟩, ⟨fun i h => ⟨fun x hx => ⟨?_, (hphi i h x hx).1⟩, fun x hx => ?_⟩, hD⟩, fun i h => ⟨fun x hx => ?_, fun k hk => ?_, ?_⟩⟩
    · intro e
      subst e
      rw [hp0 h] at hx
      simp at hx
    · obtain ⟨k, _, h1⟩ := hins i h x hx
      exact ⟨⟨h1.1.1.1, h1.1.1.2, h1.1.2, h1.2.2.2.2.1, h1.2.2.2.2.2.1⟩, h1.2.1.1, hi i h x hx⟩
    · intro k hk hk'
      have h1 := (hphi i h x hx).2.2 k hk hk'
      have hlt := intoN_lt (List.getElem_mem hk')
      exact (come_use hr hlt).1 ((rmay_use hD (instLen_nonneg _ _)).1 h1)
    · have h1 := (hb i h).2.1 k hk
      exact ⟨fun v hv => (rmay_use hD (by omega)).1 (h1.2.2.2.1 v hv), fun ht d hd hk2 => (rmay_use hD (by omega)).1 (h1.2.2.2.2.2.2 ht d hd hk2)⟩
    · intro hfin
      exact (rmay_use hD (by omega)).1 ((hb i h).2.2 hfin)
  · rintro ⟨hs, ⟨hE, hr⟩, ⟨hsh, hD⟩, hu⟩
    obtain ⟨he, herr, h0⟩ := (ends_iff hs).2 hE
    have hi : ∀ i (h : i < f.blocks.length), ∀ x ∈ f.blocks[i].insts, makesB x = true ↔ x.dst ≠ -1 := fun i h x hx => ((hsh i h).2 x hx).2.2
    have hdo := (dok_iff (c := c) hi).1 hD
    refine ⟨hs, he, herr, hr, h0, fun h => ?_, fun i h => ⟨fun k hk => ?_, fun k hk => ?_, ?_⟩⟩
    · apply List.eq_nil_iff_forall_not_mem.2
      intro x hx
      exact ((hsh 0 h).1 x hx).1 rfl
    · have hx := List.getElem_mem hk
      have h1 := (hsh i h).1 _ hx
      refine ⟨h1.2, (hdo i h).1 _ hx, fun j hj hj' => ?_⟩
      have hlt := intoN_lt (List.getElem_mem hj')
      exact (rmay_use hD (instLen_nonneg _ _)).2 ((come_use hr hlt).2 ((hu i h).1 _ hx j hj hj'))
    · have hx := List.getElem_mem hk
      have h1 := (hsh i h).2 _ hx
      have h2 := (hu i h).2.1 k hk
      refine ⟨⟨⟨h1.1.1, h1.1.2.1⟩, h1.1.2.2.1⟩, ⟨h1.2.1, fun q => ?_, fun q => ((hdo i h).2 _ hx q).1⟩, fun q => ((hdo i h).2 _ hx q).2, fun v hv => (rmay_use hD (by omega)).2 (h2.1 v hv), h1.1.2.2.2.1, h1.1.2.2.2.2, fun ht d hd hk2 => (rmay_use hD (by omega)).2 (h2.2 ht d hd hk2)⟩
      apply Classical.byContradiction
      intro hne
      rw [h1.2.2.2 hne] at q
      cases q
    · intro hfin
      exact (rmay_use hD (by omega)).2 ((hu i h).2.2 hfin)
end Cd

/-- Who goes on to whom, as the document's answer keeps it. -/
def IntoR (bg : Nat) (f : FunP) (w : World) : Prop := bg < w.heap.size ∧ ∀ i, i < f.blocks.length → ∃ a c, w.cell? ⟨bg, i, none⟩ = some (.slice a (intoN f i).length c) ∧ ∀ j (h : j < (intoN f i).length), ∃ q, a = some ⟨q, 0, none⟩ ∧ q < w.heap.size ∧ w.cell? ⟨q, j, none⟩ = some (I (((intoN f i)[j] : Nat) : Int))
theorem IntoR.below {bg : Nat} {f : FunP} {w w' : World} (h : IntoR bg f w) (hb : Below w.heap.size w w') : IntoR bg f w' :=
  ⟨Nat.lt_of_lt_of_le h.1 hb.size, fun i hi => by
    obtain ⟨a, c, h1, h2⟩ := h.2 i hi
    refine ⟨a, c, cellA_below hb (a := ⟨bg, i, none⟩) h.1 h1, fun j hj => ?_⟩
    obtain ⟨q, e, h3, h4⟩ := h2 j hj
    exact ⟨q, e, Nat.lt_of_lt_of_le h3 hb.size, cellA_below hb (a := ⟨q, j, none⟩) h3 h4⟩⟩
theorem intoR_of {base : Nat} {f : FunP} {u : Value} {W : World} (h : OwnG base (intoZ (gN f) (gN f).length) u W) (h0 : 0 < f.blocks.length) : ∃ bg c, u = .slice (some ⟨bg, 0, none⟩) f.blocks.length c ∧ IntoR bg f W := by
  obtain ⟨vs, h1, h2, h3⟩ := h
  have hl : (intoZ (gN f) (gN f).length).length = f.blocks.length := by simp [intoZ, gN_len]
  rw [hl] at h1 h2
  rcases own_slice h2 with ⟨_, e2⟩ | ⟨g, c, e1⟩
  · omega
  · subst e1
    refine ⟨g, c, rfl, (h2.lt g rfl).2, fun i hi => ?_⟩
    have hi' : i < vs.length := by omega
    have c0 := h2.cellAt i (by omega)
    rw [List.getElem?_eq_getElem hi'] at c0
    have hn := (h3 i (by omega) hi').1
    have e : (intoZ (gN f) (gN f).length)[i]'(by omega) = castL (intoN f i) := by simp [intoZ, intoN]
    rw [e] at hn
    have hn2 : Nums W base vs[i] (intoN f i) := by
      have e1 : (castL (intoN f i)).length = (intoN f i).length := by simp [castL]
      have e2 : (castL (intoN f i)).map (Value.int .i64) = ints (intoN f i) := by simp [castL, List.map_map]
      have h' : W.ownsRow base 3 1 vs[i] (castL (intoN f i)).length ((castL (intoN f i)).map (Value.int .i64)) := hn
      rw [e1, e2] at h'
      exact h'
    generalize intoN f i = l at hn2
    rcases own_slice hn2 with ⟨e1, e2⟩ | ⟨q, c', e1⟩
    · have : l = [] := List.length_eq_zero_iff.1 e2
      subst this
      exact ⟨none, 0, by rw [e1] at c0; exact c0, fun j hj => absurd hj (by simp)⟩
    · rw [e1] at c0 hn2
      have hq := hn2.lt q rfl
      refine ⟨some ⟨q, 0, none⟩, c', c0, fun j hj => ⟨q, rfl, hq.2, ?_⟩⟩
      rw [nums_get hn2 rfl j hj, getD_of l j 0 hj]
theorem domK_of {w W : World} {f : FunP} {bo : Nat} {vs : List Value} (h : DS w (gN f) f.blocks.length bo f.blocks.length vs W) : DomK bo f W :=
  ⟨h.ko.lt, fun a ha => by
    obtain ⟨r, h3, _, bs, h5, h6, h7⟩ := h.rw' a ha ha
    exact ⟨r, bs, h.ko.get a _ (by simp [h3]), h5, h6, h7⟩⟩
theorem reach_all {f : FunP} {bs : List Bool} (hR : ReachB (gN f) 0 (-1) bs) (i : Nat) : bs.getD i false = true ↔ Rch (gN f) i := by
  rw [hR i]
  unfold Rch
  constructor
  · intro h; exact h.mono (fun _ _ => trivial)
  · intro h; exact h.mono (fun x _ => by show okN (-1) x; unfold okN; omega)
theorem graph_gz {W : World} {g c : Nat} {f : FunP} (h : SlS (LtW W) 1 RowV W (.slice (some ⟨g, 0, none⟩) (waysF f).length c) (waysF f)) (h0 : waysF f ≠ []) : GZ W (.slice (some ⟨g, 0, none⟩) (waysF f).length c) (waysF f) := by
  have hz := grZ_of h h0
  refine ⟨some ⟨g, 0, none⟩, c, rfl, fun i hi => ?_⟩
  obtain ⟨v, h1, h2⟩ := hz.row i hi
  exact ⟨g, v, rfl, hz.lt, h1, h2⟩
end Go.Proofs.Ytjlmkcamefaodaa

/-! CdS: Like code is told to be alike: the document's comparison, walked. -/

namespace Go.Proofs.Ytjlmkcamefaodaa
open Go Go.RowKit Cd

set_option maxRecDepth 100000 in
set_option maxHeartbeats 1600000 in
theorem sameI_any (u v : Value) (l : List Int) (hl : l.length ≤ 4000000) (w : World) (h1 : IntsZ w u l) (h2 : IntsZ w v l) :
    Calls Try.prog 39 #[u, v] w fun e w' => e = .returned (.bool true) ∧ Below w.heap.size w w' := by
  obtain ⟨a, c, rfl⟩ := h1.size
  obtain ⟨b, d, rfl⟩ := h2.size
  obtain ⟨n, hn⟩ : ∃ n, n = l.length := ⟨_, rfl⟩
  rw [← hn] at h1 h2 hl ⊢
  have HQ := Lib.hid (And.intro h1 (And.intro h2 hn))
  have hnb : (n : Int) ≤ 4000000 := by omega
  clear h1 h2 hn hl
  go_enter Try.func39, Try.ntmps39
  go_wp2_with fail
  go_loopw [13] (fun iv wr => ∃ i : Nat, i ≤ n ∧ iv = I (i : Int) ∧ Below w.heap.size w wr) (fun iv _ => n - (intOf iv).toNat)
  case atStart => exact ⟨0, Nat.zero_le _, rfl, Below.refl _ _⟩
  case round =>
    obtain ⟨i, hi, rfl, hb⟩ := hrel
    by_cases hlt : i < n
    · have il : i < l.length := by have := HQ.out.2.2; omega
      obtain ⟨g, _, rfl, _, c0, e0⟩ := (HQ.out.1.below intV_stays hb).at i il
      obtain ⟨g', _, rfl, _, c1, e1⟩ := (HQ.out.2.1.below intV_stays hb).at i il
      obtain rfl := e0
      obtain rfl := e1
      obtain ⟨x, hx⟩ : ∃ x, x = l[i] := ⟨_, rfl⟩
      rw [← hx] at c0 c1
      have x0 := c0.f0
      have x1 := c1.f0
      rw [Nat.mul_one] at x0 x1
      have d0 : decide (i < n) = true := by simpa using hlt
      have d1 : (0 : Int) ≤ (i : Int) := by omega
      have d2 : (i : Int) < (n : Int) := by omega
      have HX := Lib.hid (And.intro hlt hb)
      clear c0 c1 hx il hlt hb hi
      go_wp2_with fail
      go_quiet (fail)
      have HB := Lib.hid (below_drewN HX.out.2 nq)
      go_wp2_with fail
      exact ⟨⟨i + 1, HX.out.1, rfl, HB.out⟩, by have := HX.out.1; simp [intOf]; omega⟩
    · have d0 : decide (i < n) = false := by simpa using hlt
      clear hlt hi
      go_wp2_with fail
      go_ret
      exact ⟨rfl, hb⟩

/-- Two boxes. -/
def TwoB (wr : World) (E : TypeId) (vx vy : Array Value) (p q : Value) (W : World) : Prop := ∃ g h, p = .pointer (some ⟨g, 0, none⟩) ∧ q = .pointer (some ⟨h, 0, none⟩) ∧ Blk g vx E W ∧ Blk h vy E W ∧ Below wr.heap.size wr W
theorem twoB_one (wr : World) (E : TypeId) (vx vy : Array Value) : TwoB wr E vx vy (.pointer (some ⟨wr.heap.size, 0, none⟩)) (.pointer (some ⟨wr.heap.size + 1, 0, none⟩)) ((wr.alloc (.cells vx E)).alloc (.cells vy E)).drew :=
  ⟨_, _, rfl, rfl, (Blk.new _ _ _).alloc _, Blk.new' _ _ _ (by simp), (((Below.refl _ _).alloc (Nat.le_refl _) _).alloc (by simp) _).drew⟩
theorem twoB_two (wr : World) (E : TypeId) (vx vy : Array Value) : TwoB wr E vx vy (.pointer (some ⟨wr.heap.size + 1, 0, none⟩)) (.pointer (some ⟨wr.heap.size, 0, none⟩)) ((wr.alloc (.cells vy E)).alloc (.cells vx E)).drew :=
  ⟨_, _, rfl, rfl, Blk.new' _ _ _ (by simp), (Blk.new _ _ _).alloc _, (((Below.refl _ _).alloc (Nat.le_refl _) _).alloc (by simp) _).drew⟩

set_option maxRecDepth 100000 in
set_option maxHeartbeats 3200000 in
theorem sameIn_any (u v : Value) (l : List InstP) (hs : SmallI l) (w : World) (h1 : InstsZ w u l) (h2 : InstsZ w v l) :
    Calls Try.prog 23 #[u, v] w fun e w' => e = .returned (.bool true) ∧ Below w.heap.size w w' := by
  obtain ⟨a, c, rfl⟩ := h1.size
  obtain ⟨b, d, rfl⟩ := h2.size
  obtain ⟨n, hn⟩ : ∃ n, n = l.length := ⟨_, rfl⟩
  rw [← hn] at h1 h2 ⊢
  have hnb : (n : Int) ≤ 4000000 := by have := hs.1; omega
  have HQ := Lib.hid (And.intro h1 (And.intro h2 (And.intro hn hs)))
  clear h1 h2 hn hs
  go_enter Try.func23, Try.ntmps23
  go_wp2_with fail
  go_loopw [16] (fun iv wr => ∃ i : Nat, i ≤ n ∧ iv = I (i : Int) ∧ Below w.heap.size w wr) (fun iv _ => n - (intOf iv).toNat)
  case atStart => exact ⟨0, Nat.zero_le _, rfl, Below.refl _ _⟩
  case round =>
    obtain ⟨i, hi, rfl, hb⟩ := hrel
    by_cases hlt : i < n
    · have il : i < l.length := by have := HQ.out.2.2.1; omega
      obtain ⟨g, _, rfl, gl, c0, av, dv, rfl, haz, hdz⟩ := (HQ.out.1.below instV_stays hb).at i il
      obtain ⟨g', _, rfl, gl', c1, av', dv', rfl, haz', hdz'⟩ := (HQ.out.2.1.below instV_stays hb).at i il
      obtain ⟨aa, ac, rfl⟩ := haz.size
      obtain ⟨da, dc, rfl⟩ := hdz.size
      obtain ⟨aa', ac', rfl⟩ := haz'.size
      obtain ⟨da', dc', rfl⟩ := hdz'.size
      obtain ⟨x, hx⟩ : ∃ x, x = l[i] := ⟨_, rfl⟩
      have hsm := HQ.out.2.2.2.2 i il
      rw [← hx] at c0 c1 haz hdz haz' hdz' hsm
      obtain ⟨A, hA⟩ : ∃ A, A = x.args.length := ⟨_, rfl⟩
      obtain ⟨D, hD⟩ : ∃ D, D = x.dbg.length := ⟨_, rfl⟩
      rw [← hA, ← hD] at c0 c1
      rw [← hA] at haz haz'
      rw [← hD] at hdz hdz'
      have x0 := c0.f0
      have x1 := c0.f1
      have x2 := c0.f2
      have x3 := c0.f3
      have x4 := c0.f4
      have x5 := c0.f5
      have y0 := c1.f0
      have y1 := c1.f1
      have y2 := c1.f2
      have y3 := c1.f3
      have y4 := c1.f4
      have y5 := c1.f5
      have x0a := fun ob => (c0.al gl ob).f0
      have x0b := fun ob ob' => (c0.al2 gl ob ob').f0
      have x1a := fun ob => (c0.al gl ob).f1
      have x1b := fun ob ob' => (c0.al2 gl ob ob').f1
      have x2a := fun ob => (c0.al gl ob).f2
      have x2b := fun ob ob' => (c0.al2 gl ob ob').f2
      have x3a := fun ob => (c0.al gl ob).f3
      have x3b := fun ob ob' => (c0.al2 gl ob ob').f3
      have x4a := fun ob => (c0.al gl ob).f4
      have x4b := fun ob ob' => (c0.al2 gl ob ob').f4
      have x5a := fun ob => (c0.al gl ob).f5
      have x5b := fun ob ob' => (c0.al2 gl ob ob').f5
      have y0a := fun ob => (c1.al gl' ob).f0
      have y0b := fun ob ob' => (c1.al2 gl' ob ob').f0
      have y1a := fun ob => (c1.al gl' ob).f1
      have y1b := fun ob ob' => (c1.al2 gl' ob ob').f1
      have y2a := fun ob => (c1.al gl' ob).f2
      have y2b := fun ob ob' => (c1.al2 gl' ob ob').f2
      have y3a := fun ob => (c1.al gl' ob).f3
      have y3b := fun ob ob' => (c1.al2 gl' ob ob').f3
      have y4a := fun ob => (c1.al gl' ob).f4
      have y4b := fun ob ob' => (c1.al2 gl' ob ob').f4
      have y5a := fun ob => (c1.al gl' ob).f5
      have y5b := fun ob ob' => (c1.al2 gl' ob ob').f5
      have d0 : decide (i < n) = true := by simpa using hlt
      have d1 : (0 : Int) ≤ (i : Int) := by omega
      have d2 : (i : Int) < (n : Int) := by omega
      have HX := Lib.hid (And.intro hlt (And.intro hb (And.intro haz (And.intro hdz (And.intro haz' (And.intro hdz' (And.intro hsm (And.intro hA hD))))))))
      clear c0 c1 gl gl' hx il hlt hb hi haz hdz haz' hdz' hsm hA hD
      go_upto_region 6 with (fail)
      go_cut [6, 7] from 19 to 88 (fun p q W => TwoB wr 44 #[U8 x.op, I x.dst, .slice aa A ac, I x.imm, I x.site, .slice da D dc] #[U8 x.op, I x.dst, .slice aa' A ac', I x.imm, I x.site, .slice da' D dc'] p q W)
      case first =>
        go_region
        all_goals (go_wp2_with fail; go_meet; case rel => first | exact twoB_one _ _ _ _ | exact twoB_two _ _ _ _)
      case rest =>
        clear x0 x1 x2 x3 x4 x5 y0 y1 y2 y3 y4 y5 x0a x0b x1a x1b x2a x2b x3a x3b x4a x4b x5a x5b y0a y0b y1a y1b y2a y2b y3a y3b y4a y4b y5a y5b
        obtain ⟨p, q, rfl, rfl, kx, ky, hbb⟩ := hcut
        have x0 := kx.get 0 (U8 x.op) rfl
        have x1 := kx.get 1 (I x.dst) rfl
        have x2 := kx.get 2 (.slice aa A ac) rfl
        have x3 := kx.get 3 (I x.imm) rfl
        have x4 := kx.get 4 (I x.site) rfl
        have y0 := ky.get 0 (U8 x.op) rfl
        have y1 := ky.get 1 (I x.dst) rfl
        have y2 := ky.get 2 (.slice aa' A ac') rfl
        have y3 := ky.get 3 (I x.imm) rfl
        have y4 := ky.get 4 (I x.site) rfl
        have HC := Lib.hid (sameI_any (.slice aa A ac) (.slice aa' A ac') x.args HX.out.2.2.2.2.2.2.1.1 wc (HX.out.2.2.1.below intV_stays hbb) (HX.out.2.2.2.2.1.below intV_stays hbb))
        have H1 := Lib.hid (And.intro kx (And.intro ky hbb))
        clear kx ky hbb
        go_wp2_with fail
        refine HC.out.mono ?_
        rintro e w8 ⟨rfl, hb8⟩
        have kx := H1.out.1.below hb8 H1.out.1.lt
        have ky := H1.out.2.1.below hb8 H1.out.2.1.lt
        have hbw := below_tr H1.out.2.2 hb8
        have x5 := kx.get 5 (.slice da D dc) rfl
        have y5 := ky.get 5 (.slice da' D dc') rfl
        have hDb : (D : Int) ≤ 4000000 := by have := HX.out.2.2.2.2.2.2.1.2; have := HX.out.2.2.2.2.2.2.2.2; omega
        have H2 := Lib.hid (And.intro kx (And.intro ky (And.intro hbw (And.intro (HX.out.2.2.2.1.below dbgV_stays hbw) (HX.out.2.2.2.2.2.1.below dbgV_stays hbw)))))
        clear kx ky hb8 hbw HC x0 x1 x2 x3 x4 y0 y1 y2 y3 y4 H1
        go_wp2_with fail
        go_loopw [73] (fun kv W => ∃ k : Nat, k ≤ D ∧ kv = I (k : Int) ∧ Below w8.heap.size w8 W) (fun kv _ => D - (intOf kv).toNat)
        case atStart => exact ⟨0, Nat.zero_le _, rfl, Below.refl _ _⟩
        case round =>
          obtain ⟨k, hk, rfl, hbk⟩ := hrel
          clear x5 y5
          by_cases hkD : k < D
          · have kl : k < x.dbg.length := by rw [← HX.out.2.2.2.2.2.2.2.2]; exact hkD
            obtain ⟨g1, _, rfl, _, c0, e0⟩ := (H2.out.2.2.2.1.below dbgV_stays hbk).at k kl
            obtain ⟨g2, _, rfl, _, c1, e1⟩ := (H2.out.2.2.2.2.below dbgV_stays hbk).at k kl
            obtain rfl := e0
            obtain rfl := e1
            obtain ⟨z, hz⟩ : ∃ z, z = x.dbg[k] := ⟨_, rfl⟩
            rw [← hz] at c0 c1
            unfold encD at c0 c1
            have kx := H2.out.1.below hbk H2.out.1.lt
            have ky := H2.out.2.1.below hbk H2.out.2.1.lt
            have x5 := kx.get 5 (.slice (some g1) D dc) rfl
            have y5 := ky.get 5 (.slice (some g2) D dc') rfl
            have z0 := c0.f0
            have z1 := c0.f1
            have z2 := c0.f2
            have z3 := c0.f3
            have z4 := c0.f4
            have z5 := c0.f5
            have v0 := c1.f0
            have v1 := c1.f1
            have v2 := c1.f2
            have v3 := c1.f3
            have v4 := c1.f4
            have v5 := c1.f5
            have e0 : decide (k < D) = true := by simpa using hkD
            have e1 : (0 : Int) ≤ (k : Int) := by omega
            have e2 : (k : Int) < (D : Int) := by omega
            have HK := Lib.hid (And.intro hkD hbk)
            clear c0 c1 hz kx ky kl hkD hbk hk
            go_wp2_with fail
            go_quiet (fail)
            have HB := Lib.hid (below_drewN HK.out.2 nq)
            go_wp2_with fail
            exact ⟨⟨k + 1, HK.out.1, rfl, HB.out⟩, by have := HK.out.1; simp [intOf]; omega⟩
          · have e0 : decide (k < D) = false := by simpa using hkD
            have FIN := Lib.hid (below_tr HX.out.2.1 (below_tr H2.out.2.2.1 hbk))
            clear hkD hk hbk
            go_wp2_with fail
            exact ⟨⟨i + 1, HX.out.1, rfl, FIN.out⟩, by have := HX.out.1; simp [intOf]; omega⟩
    · have d0 : decide (i < n) = false := by simpa using hlt
      clear hlt hi
      go_wp2_with fail
      go_ret
      exact ⟨rfl, hb⟩
end Go.Proofs.Ytjlmkcamefaodaa
