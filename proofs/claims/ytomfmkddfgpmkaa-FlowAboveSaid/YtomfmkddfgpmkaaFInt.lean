/-
  Joined: FInto, FInto2.
-/
import Derived.Test.YtomfmkddfgpmkaaFFault
/-! Who goes on to whom, of any graph. -/

namespace Go.Proofs.Ytomfmkddfgpmkaa
open Go Go.RowKit Fl

namespace Fl
/-- What stands at t when the nodes ahead of p are done, and j ways of p. -/
def rowSt (G : List (List Nat)) (p j t : Nat) : List Nat := (List.range p).filter (fun q => (row G q).contains t) ++ (if ((row G p).take j).contains t then [p] else [])
def intoF (G : List (List Nat)) : List (List Nat) := (List.range G.length).map (fun t => rowSt G G.length 0 t)
theorem rowSt_zero (G : List (List Nat)) (t : Nat) : rowSt G 0 0 t = [] := by simp [rowSt]
theorem rowSt_next (G : List (List Nat)) (p t : Nat) : rowSt G (p + 1) 0 t = rowSt G p (row G p).length t := by
  unfold rowSt
  rw [List.range_succ, List.filter_append, List.take_length]
  by_cases h : t ∈ row G p <;> simp [h]
theorem rowSt_len (G : List (List Nat)) (p j t : Nat) : (rowSt G p j t).length ≤ p + 1 := by
  unfold rowSt
  rw [List.length_append]
  have h1 := List.length_filter_le (fun q => (row G q).contains t) (List.range p)
  rw [List.length_range] at h1
  split
  · rw [List.length_singleton]; omega
  · rw [List.length_nil]; omega
theorem take_succ_has (l : List Nat) (j t : Nat) (h : j < l.length) : (l.take (j + 1)).contains t = ((l.take j).contains t || t == l[j]) := by
  rw [List.take_succ_eq_append_getElem h]
  rw [List.contains_append, Bool.eq_iff_iff]
  simp
theorem rowSt_other {G : List (List Nat)} {p j t : Nat} (h : j < (row G p).length) (ht : t ≠ (row G p)[j]) : rowSt G p (j + 1) t = rowSt G p j t := by
  unfold rowSt
  rw [take_succ_has _ _ _ h, show (t == (row G p)[j]) = false by simpa using ht, Bool.or_false]
theorem rowSt_had {G : List (List Nat)} {p j t : Nat} (h : j < (row G p).length) (ht : t = (row G p)[j]) (hc : ((row G p).take j).contains t = true) : rowSt G p (j + 1) t = rowSt G p j t := by
  unfold rowSt
  rw [take_succ_has _ _ _ h, hc, Bool.true_or]
theorem rowSt_new {G : List (List Nat)} {p j t : Nat} (h : j < (row G p).length) (ht : t = (row G p)[j]) (hc : ((row G p).take j).contains t = false) : rowSt G p (j + 1) t = rowSt G p j t ++ [p] := by
  unfold rowSt
  rw [take_succ_has _ _ _ h, hc, Bool.false_or, show (t == (row G p)[j]) = true by simpa using ht]
  simp
/-- The last one is p just if p stands there. -/
theorem rowSt_last {G : List (List Nat)} {p j t : Nat} (hne : rowSt G p j t ≠ []) : (((rowSt G p j t).getD ((rowSt G p j t).length - 1) 0) = p ↔ ((row G p).take j).contains t = true) := by
  by_cases hc : ((row G p).take j).contains t = true
  · simp only [hc, iff_true]
    unfold rowSt
    rw [if_pos hc, List.getD_eq_getElem?_getD, List.getElem?_append_right (by simp)]
    simp
  · have hf : ((row G p).take j).contains t = false := by simpa using hc
    have e : rowSt G p j t = (List.range p).filter (fun q => (row G q).contains t) := by unfold rowSt; rw [if_neg hc, List.append_nil]
    rw [e] at hne ⊢
    have hlen : 0 < ((List.range p).filter (fun q => (row G q).contains t)).length := List.length_pos_iff.2 hne
    rw [getD_of _ _ _ (by omega)]
    have hm := List.getElem_mem (l := (List.range p).filter (fun q => (row G q).contains t)) (n := ((List.range p).filter (fun q => (row G q).contains t)).length - 1) (by omega)
    have hlt := Nat.ne_of_lt (List.mem_range.1 (List.mem_filter.1 hm).1)
    exact ⟨fun h => absurd h hlt, fun h => absurd h hc⟩
end Fl

/-- Rows of rows, being written. -/
def IntoW (base bl n : Nat) (T : Nat → List Nat) (W : World) : Prop := base ≤ bl ∧ ∃ vs : List Value, vs.length = n ∧ Blk bl vs.toArray 25 W ∧ (∀ t (h : t < vs.length), Nums W base vs[t] (T t)) ∧ (∀ t (h : t < vs.length), some bl ≠ vs[t].ownBlock) ∧
  (∀ t u (ht : t < vs.length) (hu : u < vs.length), t ≠ u → vs[t].ownBlock = none ∨ vs[t].ownBlock ≠ vs[u].ownBlock)

theorem IntoW.ext {base bl n : Nat} {T T' : Nat → List Nat} {W : World} (h : IntoW base bl n T W) (e : ∀ t, t < n → T' t = T t) : IntoW base bl n T' W := by
  obtain ⟨h0, vs, h1, h2, h3, h4, h5⟩ := h
  exact ⟨h0, vs, h1, h2, fun t ht => by rw [e t (by omega)]; exact h3 t ht, h4, h5⟩
theorem IntoW.heap {base bl n : Nat} {T : Nat → List Nat} {W W' : World} (h : IntoW base bl n T W) (e : W'.heap = W.heap) : IntoW base bl n T W' := by
  obtain ⟨h0, vs, h1, h2, h3, h4, h5⟩ := h
  exact ⟨h0, vs, h1, by unfold Blk; rw [e]; exact h2, fun t ht => own_heap (h3 t ht) e, h4, h5⟩

theorem IntoW.app {base bl n : Nat} {T : Nat → List Nat} {W w4 : World} {o : Obj} {u : Value} {vs : List Value} {t0 p : Nat} (h0 : base ≤ bl) (h1 : vs.length = n) (h2 : Blk bl vs.toArray 25 W) (h3 : ∀ t (h : t < vs.length), Nums W base vs[t] (T t)) (h4 : ∀ t (h : t < vs.length), some bl ≠ vs[t].ownBlock)
    (h5 : ∀ t u (ht : t < vs.length) (hu : u < vs.length), t ≠ u → vs[t].ownBlock = none ∨ vs[t].ownBlock ≠ vs[u].ownBlock) (ht0 : t0 < vs.length) (hg : (W.alloc o).grownBy w4 vs[t0].ownBlock) (ho : Nums w4 base u (T t0 ++ [p])) (hat : u.ownBlock = vs[t0].ownBlock ∨ u.ownBlock = some (W.alloc o).heap.size) :
    IntoW base bl n (fun t => if t = t0 then T t ++ [p] else T t) (w4.setCell ⟨bl, t0, none⟩ u) := by
  have hat' : u.ownBlock = vs[t0].ownBlock ∨ ∃ g, u.ownBlock = some g ∧ W.heap.size ≤ g := by
    rcases hat with e | e
    · exact Or.inl e
    · exact Or.inr ⟨_, e, by simp⟩
  have qb : some bl ≠ u.ownBlock := own_apart (h3 t0 ht0) (h4 t0 ht0) h2.lt (Nat.le_refl _) hat'
  have hap : ∀ t (h : t < vs.length), t ≠ t0 → vs[t].ownBlock = none ∨ vs[t].ownBlock ≠ u.ownBlock := by
    intro t ht hne
    cases hv : vs[t].ownBlock with
    | none => exact Or.inl rfl
    | some g0 =>
      right
      have hl := ((h3 t ht).lt g0 hv).2
      have hn2 : some g0 ≠ vs[t0].ownBlock := by
        rcases h5 t t0 ht ht0 hne with e | e
        · rw [hv] at e; cases e
        · rw [hv] at e; exact e
      exact own_apart (h3 t0 ht0) hn2 hl (Nat.le_refl _) hat'
  refine ⟨h0, vs.set t0 u, by simpa using h1, ?_, fun t ht => ?_, fun t ht => ?_, fun t v ht hv hne => ?_⟩
  · have h := ((h2.alloc o).other hg (h4 t0 ht0)).set t0 u
    have e : vs.toArray.setIfInBounds t0 u = (vs.set t0 u).toArray := by apply Array.toList_inj.1; simp
    rw [e] at h
    exact h
  · have ht' : t < vs.length := by simpa using ht
    rw [List.getElem_set]
    show Nums _ _ _ (if t = t0 then T t ++ [p] else T t)
    by_cases e : t = t0
    · subst e
      rw [if_pos rfl, if_pos rfl]
      exact own_set ho qb
    · rw [if_neg (fun e' => e e'.symm), if_neg e]
      refine own_set (((h3 t ht').alloc o).kept hg ?_) (h4 t ht')
      exact h5 t t0 ht' ht0 e
  · have ht' : t < vs.length := by simpa using ht
    rw [List.getElem_set]
    split
    · exact qb
    · exact h4 t ht'
  · have ht' : t < vs.length := by simpa using ht
    have hv' : v < vs.length := by simpa using hv
    rw [List.getElem_set, List.getElem_set]
    by_cases e1 : t0 = t
    · rw [if_pos e1, if_neg (by omega)]
      rcases hap v hv' (by omega) with e | e
      · right; rw [e]
        intro e2
        have := ho.lt
        cases hu : u.ownBlock with
        | none =>
          rcases own_slice ho with ⟨_, h⟩ | ⟨g, c, h⟩
          · simp at h
          · rw [h] at hu; cases hu
        | some g => rw [hu] at e2; cases e2
      · right; exact Ne.symm e
    · rw [if_neg e1]
      by_cases e2 : t0 = v
      · rw [if_pos e2]; exact hap t ht' (by omega)
      · rw [if_neg e2]; exact h5 t v ht' hv' hne
end Go.Proofs.Ytomfmkddfgpmkaa

/-! Who goes on to whom, of any graph: the walk. -/

namespace Go.Proofs.Ytomfmkddfgpmkaa
open Go Go.RowKit Fl

theorem info_sl : (Try.prog.info? 25).map (fun i => (i.zero, i.size, i.bytes)) = some (some (.slice none 0 0), 1, 24) := by kernel_rfl
abbrev arrS (vs : List Value) : Array Value := vs.toArray
theorem mkSn (n : Nat) (hn : n ≤ 1000000) (u : World) : (Instr.makeSlice 22 (I (n : Int)) (I (n : Int))).run Try.prog u = .ok (.slice (some ⟨u.heap.size, 0, none⟩) n n) (u.alloc (.cells (arrS (List.replicate n (.slice none 0 0))) 25)) := by
  obtain ⟨i0, hi, hz0, hz1, hz2⟩ := info_parts info_sl
  have h := run_makeSlice (P := Try.prog) (w := u) 22 25 i0 _ Try.underlying22 hi hz0 .i64 .i64 (n : Int) (n : Int) (by omega) (Int.le_refl _) (by rw [hz1]; simp; omega) (by rw [hz2]; simp; omega) (by omega)
  rw [hz1, show (Value.slice none 0 0).cells = #[.slice none 0 0] from rfl, made_one] at h
  simp at h
  rw [show arrS (List.replicate n (.slice none 0 0)) = Array.replicate n (.slice none 0 0) by apply Array.toList_inj.1; simp]
  exact h

/-- What is answered of who goes on to whom. -/
def IntoT (w : World) (G : List (List Nat)) (W : World) (e : Ending) : Prop := ∃ bl, e = .returned (.slice (some ⟨bl, 0, none⟩) G.length G.length) ∧ IntoW w.heap.size bl G.length (fun t => Fl.rowSt G G.length 0 t) W ∧ Below w.heap.size w W
def IRel (w0 : World) (bl : Nat) (G : List (List Nat)) (iv : Value) (W : World) : Prop := ∃ p : Nat, p ≤ G.length ∧ iv = I (p : Int) ∧ IntoW w0.heap.size bl G.length (fun t => Fl.rowSt G p 0 t) W ∧ Below w0.heap.size w0 W
def JRel (w0 : World) (bl : Nat) (G : List (List Nat)) (p : Nat) (jv : Value) (W : World) : Prop := ∃ j : Nat, j ≤ (row G p).length ∧ jv = I (j : Int) ∧ IntoW w0.heap.size bl G.length (fun t => Fl.rowSt G p j t) W ∧ Below w0.heap.size w0 W

theorem Fl.rowSt_nil {G : List (List Nat)} {p j t : Nat} (h : Fl.rowSt G p j t = []) : ((row G p).take j).contains t = false := by
  cases hc : ((row G p).take j).contains t with
  | false => rfl
  | true =>
    unfold Fl.rowSt at h
    rw [if_pos hc] at h
    simp at h
/-- One more stands at t. -/
theorem JRel.app {w0 : World} {bl : Nat} {G : List (List Nat)} {p j t : Nat} {vs : List Value} {W w4 : World} {o : Obj} {u : Value} (h0 : w0.heap.size ≤ bl) (v1 : vs.length = G.length) (v2 : Blk bl vs.toArray 25 W) (v3 : ∀ t (h : t < vs.length), Nums W w0.heap.size vs[t] (Fl.rowSt G p j t)) (v4 : ∀ t (h : t < vs.length), some bl ≠ vs[t].ownBlock)
    (v5 : ∀ t u (ht : t < vs.length) (hu : u < vs.length), t ≠ u → vs[t].ownBlock = none ∨ vs[t].ownBlock ≠ vs[u].ownBlock) (hbe : Below w0.heap.size w0 W) (hjr : j < (row G p).length) (ht : t = (row G p)[j]) (htn : t < vs.length) (hc : ((row G p).take j).contains t = false)
    (hg : (W.alloc o).grownBy w4 vs[t].ownBlock) (ho : Nums w4 w0.heap.size u (Fl.rowSt G p j t ++ [p])) (hat : u.ownBlock = vs[t].ownBlock ∨ u.ownBlock = some (W.alloc o).heap.size) :
    JRel w0 bl G p (I ((j : Int) + 1)) (w4.setCell ⟨bl, t, none⟩ u) := by
  refine ⟨j + 1, hjr, rfl, (IntoW.app (T := fun t => Fl.rowSt G p j t) h0 v1 v2 v3 v4 v5 htn hg ho hat).ext (fun q _ => ?_), ?_⟩
  · by_cases e : q = t
    · subst e
      show Fl.rowSt G p (j + 1) q = (if q = q then Fl.rowSt G p j q ++ [p] else Fl.rowSt G p j q)
      rw [if_pos rfl]
      exact Fl.rowSt_new hjr ht hc
    · show Fl.rowSt G p (j + 1) q = (if q = t then Fl.rowSt G p j q ++ [p] else Fl.rowSt G p j q)
      rw [if_neg e]
      exact Fl.rowSt_other hjr (by rw [← ht]; exact e)
  · exact (((hbe.alloc hbe.size _).grown hg (by have := hbe.size; simp; omega) (fun k hk => ((v3 t htn).lt k hk).1))).setCell (p := ⟨bl, t, none⟩) h0 _

set_option maxRecDepth 100000 in
set_option maxHeartbeats 3200000 in
theorem into_any (bg cap : Nat) (G : List (List Nat)) (hn : G.length ≤ 60000) (hG : GOk G) (hrow : ∀ i, (row G i).length ≤ 1000000) (w : World) (h : Gr w bg G) :
    Calls Try.prog 30 #[.slice (some ⟨bg, 0, none⟩) G.length cap] w fun e w' => IntoT w G w' e := by
  obtain ⟨i0, hi, hz0, hz1, hz2⟩ := info_parts info_int'
  have HI := Lib.hid (And.intro hi (And.intro hz0 (And.intro hz1 hz2)))
  obtain ⟨n, hnn⟩ : ∃ n, n = G.length := ⟨_, rfl⟩
  have hmk := mkSn n (by omega)
  have HH := Lib.hid (And.intro h (And.intro hG (And.intro hrow hnn)))
  rw [← hnn] at hn ⊢
  obtain ⟨W, hW⟩ : ∃ W, W = w.alloc (.cells (arrS (List.replicate n (.slice none 0 0))) 25) := ⟨_, rfl⟩
  obtain ⟨bl, hbl⟩ : ∃ b, b = w.heap.size := ⟨_, rfl⟩
  have hb : Below w.heap.size w W := by rw [hW]; exact (Below.refl _ _).alloc (Nat.le_refl _) _
  have hIW : IntoW w.heap.size bl n (fun t => Fl.rowSt G 0 0 t) W := by
    refine ⟨by omega, List.replicate n (.slice none 0 0), by simp, by rw [hW, hbl]; exact Blk.new _ _ _, fun t ht => ?_, fun t ht => ?_, fun t u ht hu _ => ?_⟩
    · rw [List.getElem_replicate]
      show Nums _ _ _ (Fl.rowSt G 0 0 t)
      rw [Fl.rowSt_zero]
      exact World.ownsRow_nil _ _ _ _
    · rw [List.getElem_replicate]; simp [Value.ownBlock]
    · left; rw [List.getElem_replicate]; rfl
  have HST := Lib.hid (show IRel w bl G (I 0) W from ⟨0, Nat.zero_le _, rfl, by rw [← hnn]; exact hIW, hb⟩)
  have HW := Lib.hid (And.intro hW hbl)
  clear h hG hrow hi hz0 hz1 hz2 hnn hW hbl hb hIW
  go_enter Try.func30, Try.ntmps30
  go_upto_region 2 with (fail)
  rw [← HW.out.2]
  change Code.wp _ _ _ _ (w.alloc (.cells (arrS (List.replicate n (.slice none 0 0))) 25))
  rw [← HW.out.1]
  go_wp2_with fail
  go_loopw [13] (fun iv wr => IRel w bl G iv wr) (fun iv _ => n - (intOf iv).toNat)
  case atStart => exact HST.out
  case round =>
    obtain ⟨p, hp, rfl, hI, hbe⟩ := hrel
    obtain ⟨wo, rfl⟩ : ∃ wo : World, wo = wr := ⟨_, rfl⟩
    have H1 := Lib.hid (And.intro hI hbe)
    clear hI
    by_cases hlt : p < n
    · obtain ⟨rv, c0w, ra, rc, hrv, hrw⟩ := HH.out.1.row p (by have := HH.out.2.2.2; omega)
      subst hrv
      obtain ⟨L, hL⟩ : ∃ L, L = (row G p).length := ⟨_, rfl⟩
      rw [← hL] at c0w
      have c0 := cell_below hbe HH.out.1.lt c0w
      have hLb : (L : Int) ≤ 1000000 := by have := HH.out.2.2.1 p; omega
      have HR := Lib.hid (And.intro hrw (And.intro hL (And.intro hlt hp)))
      have d1 : decide (p < n) = true := by simpa using hlt
      have pi : (p : Int) < (n : Int) := by omega
      have HJ := Lib.hid (show JRel w bl G p (I 0) wo from ⟨0, Nat.zero_le _, rfl, H1.out.1, H1.out.2⟩)
      clear hrw hL hlt hp hbe c0w
      go_wp2_with fail
      go_loopw [21] (fun jv wr => JRel w bl G p jv wr) (fun jv _ => L - (intOf jv).toNat)
      case atStart => exact HJ.out
      case round =>
        obtain ⟨j, hj, rfl, hI, hbe⟩ := hrel
        by_cases hjl : j < L
        · obtain ⟨h0, vs, v1, v2, v3, v4, v5⟩ := hI
          have hjr : j < (row G p).length := by rw [← HR.out.2.1]; exact hjl
          obtain ⟨g, hra, hgl, c1w⟩ := HR.out.1 j hjr
          subst hra
          obtain ⟨t, ht⟩ : ∃ t, t = (row G p)[j] := ⟨_, rfl⟩
          have c1 : wr.cell? ⟨g, j, none⟩ = some (I (t : Int)) := by rw [ht]; exact cell_below hbe hgl c1w
          have htn : t < vs.length := by
            have h1 := HH.out.2.1 p _ (List.getElem_mem (l := row G p) (n := j) hjr)
            rw [← ht] at h1
            omega
          have ti : (0 : Int) ≤ (t : Int) := by omega
          have ti2 : (t : Int) < (n : Int) := by have := HH.out.2.2.2; omega
          obtain ⟨T, hT⟩ : ∃ T, T = Fl.rowSt G p j t := ⟨_, rfl⟩
          have ho : Nums wr w.heap.size vs[t] T := by rw [hT]; exact v3 t htn
          have x0 := v2.get t vs[t] (by simp [htn])
          have fx := v2.free t
          have hTl : T.length ≤ n := by
            rw [hT]
            have h1 := Fl.rowSt_len G p j t
            have h2 := HR.out.2.2.1
            omega
          have d2 : decide (j < L) = true := by simpa using hjl
          have ji : (j : Int) < (L : Int) := by omega
          have HV := Lib.hid (And.intro h0 (And.intro v1 (And.intro v2 (And.intro v3 (And.intro v4 v5)))))
          have HX := Lib.hid (And.intro hjl (And.intro hjr (And.intro ht (And.intro htn (And.intro hT (And.intro hTl hbe))))))
          clear h0 v1 v2 v3 v4 v5 hjl hbe c1w hgl
          by_cases hT0 : T = []
          · subst hT0
            obtain ⟨sa, sc, hvs⟩ : ∃ a c, vs[t] = .slice a 0 c := by
              rcases own_slice ho with ⟨h, _⟩ | ⟨g, cap, h⟩
              · exact ⟨_, _, h⟩
              · exact ⟨_, _, h⟩
            have ho' : wr.ownsRow w.heap.size 3 1 (.slice sa 0 sc) 0 (ints []) := by rw [← hvs]; exact ho
            obtain ⟨T, hTT⟩ : ∃ T : List Nat, T = [] := ⟨_, rfl⟩
            have HO := Lib.hid (And.intro (show wr.ownsRow w.heap.size 3 1 (.slice sa 0 sc) 0 (ints T) by rw [hTT]; exact ho') (And.intro hvs (And.intro (show 0 + 1 ≤ maxLen by unfold maxLen; omega) (show (0 + 1) * 8 ≤ 140737488355328 by omega))))
            rw [hvs] at x0
            have HC := Lib.hid (Fl.rowSt_nil hT.symm)
            have HTT := Lib.hid hTT
            clear ho ho' hvs ht hT hTl hTT
            go_upto_region 10 with (fail)
            go_wp2_with (at_builtin; refine Hid.out ?_)
            unfold Hid
            refine wpList_append_own_at _ rfl _ _ 25 rfl w.heap.size 3 i0 (I 0) 1 8 Try.underlying25 HI.out.1 HI.out.2.1 HI.out.2.2.1 HI.out.2.2.2 rfl (by decide) (.slice sa 0 sc) 0 (ints T) rfl (HO.out.1.alloc _) ⟨wr.heap.size, 0, none⟩ 1 1 [I (p : Int)] rfl rfl (cell_one_new _ _ _) (by simp [Value.oneCell']) HO.out.2.2.1 HO.out.2.2.2 (by have := HX.out.2.2.2.2.2.2.size; simp; omega) ?_
            intro v' w4 ho4 hg4 _ hat
            obtain ⟨g4, cap4, rfl⟩ : ∃ g cap, v' = .slice (some ⟨g, 0, none⟩) (0 + 1) cap := by
              rcases own_slice ho4 with ⟨_, h⟩ | ⟨g, cap, h⟩
              · exact absurd h (by omega)
              · exact ⟨g, cap, h⟩
            have hg4' : (wr.alloc (.cells #[I (p : Int)] 3)).grownBy w4 vs[t].ownBlock := by rw [HO.out.2.1]; exact hg4
            have hat' : (Value.slice (some ⟨g4, 0, none⟩) (0 + 1) cap4).ownBlock = vs[t].ownBlock ∨ (Value.slice (some ⟨g4, 0, none⟩) (0 + 1) cap4).ownBlock = some (wr.alloc (.cells #[I (p : Int)] 3)).heap.size := by rw [HO.out.2.1]; exact hat
            have ho4' : Nums w4 w.heap.size (.slice (some ⟨g4, 0, none⟩) (0 + 1) cap4) (Fl.rowSt G p j t ++ [p]) := by
              rw [← HX.out.2.2.2.2.1]
              show World.ownsRow _ _ _ _ _ _ _
              rw [List.length_append, List.length_nil, Nat.zero_add, List.length_singleton]
              rw [HTT.out] at ho4; simpa using ho4
            have HJ2 := Lib.hid (JRel.app HV.out.1 HV.out.2.1 HV.out.2.2.1 HV.out.2.2.2.1 HV.out.2.2.2.2.1 HV.out.2.2.2.2.2 HX.out.2.2.2.2.2.2 HX.out.2.1 HX.out.2.2.1 HX.out.2.2.2.1 HC.out hg4' ho4' hat')
            have kb := ((HV.out.2.2.1.alloc (.cells #[I (p : Int)] 3)).other hg4' (HV.out.2.2.2.2.1 t HX.out.2.2.2.1))
            have y0 := kb.get t (.slice sa 0 sc) (by rw [← HO.out.2.1]; simp [HX.out.2.2.2.1])
            have fy := kb.free t
            clear ho4 hg4 hat hg4' hat' ho4' kb x0 fx
            go_wp2_with fail
            exact ⟨HJ2.out, by have := HX.out.1; simp [intOf]; omega⟩
          · obtain ⟨M, hM⟩ : ∃ M, T.length = M + 1 := ⟨T.length - 1, by have := List.length_pos_iff.2 hT0; omega⟩
            obtain ⟨gg, sc, hvs⟩ : ∃ g c, vs[t] = .slice (some ⟨g, 0, none⟩) (M + 1) c := by
              rcases own_slice ho with ⟨_, h⟩ | ⟨g, cap, h⟩
              · omega
              · exact ⟨g, cap, by rw [h, hM]⟩
            have ho' : wr.ownsRow w.heap.size 3 1 (.slice (some ⟨gg, 0, none⟩) (M + 1) sc) (M + 1) (ints T) := by rw [← hvs, ← hM]; exact ho
            obtain ⟨lst, hlst⟩ : ∃ x, x = T.getD M 0 := ⟨_, rfl⟩
            have cl : wr.cell? ⟨gg, M, none⟩ = some (I (lst : Int)) := by rw [hlst]; exact nums_get ho' hM M (by omega)
            have hMn : M + 1 ≤ n := by omega
            obtain ⟨sa, hsa⟩ : ∃ sa : Option Addr, sa = some ⟨gg, 0, none⟩ := ⟨_, rfl⟩
            have hiff : lst = p ↔ ((row G p).take j).contains t = true := by
              have h1 := Fl.rowSt_last (G := G) (p := p) (j := j) (t := t) (by rw [← hT]; exact hT0)
              rw [← hT, hM, Nat.add_sub_cancel, ← hlst] at h1
              exact h1
            have HO := Lib.hid (And.intro (show wr.ownsRow w.heap.size 3 1 (.slice (some ⟨gg, 0, none⟩) (M + 1) sc) (M + 1) (ints T) from ho') (And.intro hvs (And.intro (show M + 1 + 1 ≤ maxLen by unfold maxLen; omega) (show (M + 1 + 1) * 8 ≤ 140737488355328 by omega))))
            rw [hvs] at x0
            have HM := Lib.hid hM
            have e1 : (((M : Int) + 1) == 0) = false := by simp; omega
            have e2 : (0 : Int) ≤ (M : Int) := by omega
            have e3 : (M : Int) + 1 ≤ 60000 := by omega
            by_cases hl : lst = p
            · have HC := Lib.hid (hiff.1 hl)
              have e4 : ((lst : Int) != (p : Int)) = false := by rw [hl]; simp
              have HN := Lib.hid (show JRel w bl G p (I ((j : Int) + 1)) wr from ⟨j + 1, HX.out.2.1, rfl, ⟨HV.out.1, vs, HV.out.2.1, HV.out.2.2.1, fun q hq => by
                show Nums _ _ _ (Fl.rowSt G p (j + 1) q)
                by_cases e : q = t
                · subst e
                  rw [Fl.rowSt_had HX.out.2.1 HX.out.2.2.1 HC.out]
                  exact HV.out.2.2.2.1 q hq
                · rw [Fl.rowSt_other HX.out.2.1 (by rw [← HX.out.2.2.1]; exact e)]
                  exact HV.out.2.2.2.1 q hq, HV.out.2.2.2.2.1, HV.out.2.2.2.2.2⟩, HX.out.2.2.2.2.2.2⟩)
              clear ho ho' hvs ht hT hT0 hTl hM hlst hsa hiff hl hMn fx
              go_wp2_with fail
              exact ⟨HN.out, by have := HX.out.1; simp [intOf]; omega⟩
            · have HC := Lib.hid (show ((row G p).take j).contains t = false by
                cases hc : ((row G p).take j).contains t with
                | false => rfl
                | true => exact absurd (hiff.2 hc) hl)
              have e4 : ((lst : Int) != (p : Int)) = true := by simp; omega
              clear ho ho' hvs ht hT hT0 hTl hM hlst hsa hiff hl hMn
              go_upto_region 10 with (fail)
              go_wp2_with (at_builtin; refine Hid.out ?_)
              unfold Hid
              refine wpList_append_own_at _ rfl _ _ 25 rfl w.heap.size 3 i0 (I 0) 1 8 Try.underlying25 HI.out.1 HI.out.2.1 HI.out.2.2.1 HI.out.2.2.2 rfl (by decide) (.slice (some ⟨gg, 0, none⟩) (M + 1) sc) (M + 1) (ints T) rfl (HO.out.1.alloc _) ⟨wr.heap.size, 0, none⟩ 1 1 [I (p : Int)] rfl rfl (cell_one_new _ _ _) (by simp [Value.oneCell']) HO.out.2.2.1 HO.out.2.2.2 (by have := HX.out.2.2.2.2.2.2.size; simp; omega) ?_
              intro v' w4 ho4 hg4 _ hat
              obtain ⟨g4, cap4, rfl⟩ : ∃ g cap, v' = .slice (some ⟨g, 0, none⟩) (M + 1 + 1) cap := by
                rcases own_slice ho4 with ⟨_, h⟩ | ⟨g, cap, h⟩
                · exact absurd h (by omega)
                · exact ⟨g, cap, h⟩
              have hg4' : (wr.alloc (.cells #[I (p : Int)] 3)).grownBy w4 vs[t].ownBlock := by rw [HO.out.2.1]; exact hg4
              have hat' : (Value.slice (some ⟨g4, 0, none⟩) (M + 1 + 1) cap4).ownBlock = vs[t].ownBlock ∨ (Value.slice (some ⟨g4, 0, none⟩) (M + 1 + 1) cap4).ownBlock = some (wr.alloc (.cells #[I (p : Int)] 3)).heap.size := by rw [HO.out.2.1]; exact hat
              have ho4' : Nums w4 w.heap.size (.slice (some ⟨g4, 0, none⟩) (M + 1 + 1) cap4) (Fl.rowSt G p j t ++ [p]) := by
                rw [← HX.out.2.2.2.2.1]
                show World.ownsRow _ _ _ _ _ _ _
                rw [List.length_append, HM.out, List.length_singleton]
                simpa using ho4
              have HJ2 := Lib.hid (JRel.app HV.out.1 HV.out.2.1 HV.out.2.2.1 HV.out.2.2.2.1 HV.out.2.2.2.2.1 HV.out.2.2.2.2.2 HX.out.2.2.2.2.2.2 HX.out.2.1 HX.out.2.2.1 HX.out.2.2.2.1 HC.out hg4' ho4' hat')
              have kb := ((HV.out.2.2.1.alloc (.cells #[I (p : Int)] 3)).other hg4' (HV.out.2.2.2.2.1 t HX.out.2.2.2.1))
              have y0 := kb.get t (.slice (some ⟨gg, 0, none⟩) (M + 1) sc) (by rw [← HO.out.2.1]; simp [HX.out.2.2.2.1])
              have fy := kb.free t
              clear ho4 hg4 hat hg4' hat' ho4' kb x0 fx
              go_wp2_with fail
              exact ⟨HJ2.out, by have := HX.out.1; simp [intOf]; omega⟩
        · have d2 : decide (j < L) = false := by simpa using hjl
          have HD := Lib.hid (show IRel w bl G (I ((p : Int) + 1)) wr from ⟨p + 1, by have := HR.out.2.2.1; have := HH.out.2.2.2; omega, rfl, hI.ext (fun q _ => by
            show Fl.rowSt G (p + 1) 0 q = Fl.rowSt G p j q
            rw [Fl.rowSt_next, show j = (row G p).length by have := HR.out.2.1; omega]), hbe⟩)
          clear hI hjl hbe
          go_wp2_with fail
          exact ⟨HD.out, by have := HR.out.2.2.1; simp [intOf]; omega⟩
    · have d1 : decide (p < n) = false := by simpa using hlt
      have hpe : p = n := by have := HH.out.2.2.2; omega
      have FIN := Lib.hid (show IntoT w G wo (.returned (.slice (some ⟨bl, 0, none⟩) n n)) from ⟨bl, by rw [HH.out.2.2.2], by
        have h1 := H1.out.1
        rw [show p = G.length by rw [hpe]; exact HH.out.2.2.2] at h1
        exact h1, H1.out.2⟩)
      clear hlt hpe
      go_wp2_with fail
      go_ret
      exact FIN.out
end Go.Proofs.Ytomfmkddfgpmkaa
