/-
  Joined: FFault, FInt.
-/
import Derived.Test.YtjlmkcamefaodaaJ08
/-! FFault: What is wrong with a graph; the order of any graph. -/

namespace Go.Proofs.Ytjlmkcamefaodaa
open Go Go.RowKit Fl

/-- A graph in memory, of any numbers. -/
def RowZ (w : World) (v : Value) (l : List Int) : Prop := ∃ a c, v = .slice a l.length c ∧ ∀ j (h : j < l.length), ∃ g, a = some ⟨g, 0, none⟩ ∧ g < w.heap.size ∧ w.cell? ⟨g, j, none⟩ = some (I l[j])
structure GrZ (w : World) (bg : Nat) (Z : List (List Int)) : Prop where
  lt : bg < w.heap.size
  row : ∀ i (h : i < Z.length), ∃ v, w.cell? ⟨bg, i, none⟩ = some v ∧ RowZ w v Z[i]
namespace Fl
def inB (n : Nat) (x : Int) : Bool := decide (0 ≤ x ∧ x < (n : Int))
def errF (Z : List (List Int)) : Int := if 60000 < Z.length then 2 else if Z.all (fun l => l.all (inB Z.length)) then 0 else 3
def natG (Z : List (List Int)) : List (List Nat) := Z.map (fun l => l.map Int.toNat)
theorem errF_bad {Z : List (List Int)} (hn : ¬ 60000 < Z.length) {i j : Nat} (hi : i < Z.length) (hj : j < Z[i].length) (h : inB Z.length Z[i][j] = false) : errF Z = 3 := by
  unfold errF
  rw [if_neg hn, if_neg]
  intro ha
  have h1 := List.all_eq_true.1 ha _ (List.getElem_mem hi)
  have h2 := List.all_eq_true.1 h1 _ (List.getElem_mem hj)
  rw [h] at h2
  cases h2
theorem errF_ok {Z : List (List Int)} (hn : ¬ 60000 < Z.length) (h : ∀ i (hi : i < Z.length) j (hj : j < Z[i].length), inB Z.length Z[i][j] = true) : errF Z = 0 := by
  unfold errF
  rw [if_neg hn, if_pos]
  rw [List.all_eq_true]
  intro l hl
  obtain ⟨i, hi, rfl⟩ := List.getElem_of_mem hl
  rw [List.all_eq_true]
  intro x hx
  obtain ⟨j, hj, rfl⟩ := List.getElem_of_mem hx
  exact h i hi j hj
end Fl

theorem bad_in {Z : List (List Int)} {n i j : Nat} {x : Int} {hi : i < Z.length} {hj : j < Z[i].length} (hx : x = Z[i][j]) (hn : n = Z.length) (h : ¬ Fl.inB n x = true) : Fl.inB Z.length Z[i][j] = false := by
  have h9 : Fl.inB n x = false := by simpa using h
  rw [hx, hn] at h9
  exact h9

set_option maxRecDepth 100000 in
set_option maxHeartbeats 1600000 in
theorem fault_any (bg cap : Nat) (Z : List (List Int)) (hz : Z.length ≤ 9223372036854775807) (hrow : ∀ i (h : i < Z.length), Z[i].length ≤ 9223372036854775806) (w : World) (h : GrZ w bg Z) :
    Calls Try.prog 52 #[.slice (some ⟨bg, 0, none⟩) Z.length cap] w fun e w' => e = .returned (I (Fl.errF Z)) ∧ w = w' := by
  have H := Lib.hid h
  obtain ⟨n, hn⟩ : ∃ n, n = Z.length := ⟨_, rfl⟩
  rw [← hn] at hz ⊢
  by_cases hbig : 60000 < n
  · have hd : decide ((60000 : Int) < (n : Int)) = true := by simp; omega
    have HE := Lib.hid (show Fl.errF Z = 2 by unfold Fl.errF; rw [if_pos (by omega)])
    clear h hn hrow
    go_enter Try.func52, Try.ntmps52
    go_wp2_with fail
    go_ret
    exact ⟨by rw [HE.out]; rfl, rfl⟩
  · have hd : decide ((60000 : Int) < (n : Int)) = false := by simp; omega
    have HN := Lib.hid (And.intro hn (And.intro hbig hrow))
    clear h hn hrow hbig
    go_enter Try.func52, Try.ntmps52
    go_wp2_with fail
    go_loop [12] (fun iv => ∃ i : Nat, i ≤ n ∧ iv = I (i : Int) ∧ ∀ q, q < i → ∀ (hq : q < Z.length) j (hj : j < Z[q].length), Fl.inB Z.length Z[q][j] = true) (fun iv => n - (intOf iv).toNat)
    case atStart => exact ⟨0, Nat.zero_le _, rfl, fun q hq => absurd hq (by omega)⟩
    case round =>
      obtain ⟨i, hi, rfl, hq⟩ := hrel
      have HQ := Lib.hid hq
      clear hq
      by_cases hlt : i < n
      · have hiZ : i < Z.length := by have := HN.out.1; omega
        obtain ⟨rv, c0, ra, rc, hrv, hrw⟩ := H.out.row i hiZ
        subst hrv
        obtain ⟨L, hL⟩ : ∃ L, L = Z[i].length := ⟨_, rfl⟩
        rw [← hL] at c0
        have HR := Lib.hid (And.intro hrw hL)
        have hLb : (L : Int) ≤ 9223372036854775806 := by have := HN.out.2.2 i hiZ; omega
        have d1 : decide (i < n) = true := by simpa using hlt
        have HI := Lib.hid hlt
        have HZ := Lib.hid hiZ
        clear hrw hL hlt
        go_wp2_with fail
        go_loop [18] (fun jv => ∃ j : Nat, j ≤ L ∧ jv = I (j : Int) ∧ ∀ q, q < j → ∀ (hq : q < Z[i].length), Fl.inB Z.length Z[i][q] = true) (fun jv => L - (intOf jv).toNat)
        case atStart => exact ⟨0, Nat.zero_le _, rfl, fun q hq => absurd hq (by omega)⟩
        case round =>
          obtain ⟨j, hj, rfl, hjq⟩ := hrel
          have HJ := Lib.hid hjq
          clear hjq
          by_cases hjl : j < L
          · have hjZ : j < Z[i].length := by have := HR.out.2; omega
            obtain ⟨g, hra, hgl, c1⟩ := HR.out.1 j hjZ
            subst hra
            obtain ⟨x, hx⟩ : ∃ x, x = Z[i][j] := ⟨_, rfl⟩
            replace c1 : w.cell? ⟨g, j, none⟩ = some (I x) := by rw [hx]; exact c1
            have HX := Lib.hid (And.intro hx (And.intro hjl hjZ))
            have d2 : decide (j < L) = true := by simpa using hjl
            have hjI : (j : Int) < (L : Int) := by omega
            clear hx hgl
            by_cases hin : Fl.inB n x = true
            · have hb : 0 ≤ x ∧ x < (n : Int) := by unfold Fl.inB at hin; simpa using hin
              obtain ⟨hb1, hb2⟩ := hb
              have e1 : decide (x < 0) = false := by simp; omega
              have e2 : decide ((n : Int) ≤ x) = false := by simp; omega
              have HIN := Lib.hid hin
              clear hin
              go_wp2_with fail
              go_round
              case rel => exact ⟨j + 1, by have := HX.out.2.1; omega, by go_num, fun q hq hq2 => by
                rcases Nat.lt_or_ge q j with h | h
                · exact HJ.out q h hq2
                · obtain rfl : q = j := by omega
                  have h9 := HIN.out; rw [HX.out.1, HN.out.1] at h9; exact h9⟩
              case measure => have := HX.out.2.1; simp [intOf]; omega
            · have HIN := Lib.hid (show Fl.errF Z = 3 from Fl.errF_bad (by rw [← HN.out.1]; exact HN.out.2.1) HZ.out HX.out.2.2 (bad_in HX.out.1 HN.out.1 hin))
              by_cases hneg : x < 0
              · have e1 : decide (x < 0) = true := by simpa using hneg
                clear hin
                go_wp2_with fail
                go_ret
                exact ⟨by rw [HIN.out]; rfl, rfl⟩
              · have e1 : decide (x < 0) = false := by simpa using hneg
                have hge : (n : Int) ≤ x := by unfold Fl.inB at hin; simp at hin; omega
                have e2 : decide ((n : Int) ≤ x) = true := by simpa using hge
                clear hin
                go_wp2_with fail
                go_ret
                exact ⟨by rw [HIN.out]; rfl, rfl⟩
          · have d2 : decide (j < L) = false := by simpa using hjl
            have HD := Lib.hid (show ∀ q, q < i + 1 → ∀ (hq : q < Z.length) j (hj : j < Z[q].length), Fl.inB Z.length Z[q][j] = true from fun q hq hq2 j' hj' => by
              rcases Nat.lt_or_ge q i with h | h
              · exact HQ.out q h hq2 j' hj'
              · obtain rfl : q = i := by omega
                exact HJ.out j' (by have := HR.out.2; omega) hj')
            clear hjl
            go_wp2_with fail
            go_round
            case rel => exact ⟨i + 1, by have := HI.out; omega, by go_num, HD.out⟩
            case measure => have := HI.out; simp [intOf]; omega
      · have d1 : decide (i < n) = false := by simpa using hlt
        have HE := Lib.hid (show Fl.errF Z = 0 from Fl.errF_ok (by rw [← HN.out.1]; exact HN.out.2.1) (fun q hq j hj => HQ.out q (by have := HN.out.1; omega) hq j hj))
        clear hlt
        go_wp2_with fail
        go_ret
        exact ⟨by rw [HE.out]; rfl, rfl⟩
end Go.Proofs.Ytjlmkcamefaodaa

/-! FInt: Joined: FInto, FInto2. -/

namespace Go.Proofs.Ytjlmkcamefaodaa
open Go Go.RowKit Fl

namespace Fl
/-- What stands at t when the nodes ahead of p are done, and j ways of p. -/
def rowSt (G : List (List Nat)) (p j t : Nat) : List Nat := (List.range p).filter (fun q => (row G q).contains t) ++ (if ((row G p).take j).contains t then [p] else [])
def intoF (G : List (List Nat)) : List (List Nat) := (List.range G.length).map (fun t => rowSt G G.length 0 t)
theorem rowSt_zero (G : List (List Nat)) (t : Nat) : rowSt G 0 0 t = [] := by simp [rowSt]
theorem rowSt_next (G : List (List Nat)) (p t : Nat) : rowSt G (p + 1) 0 t = rowSt G p (row G p).length t := by
  unfold rowSt
  rw [List.range_succ, List.filter_append, List.take_length]
  by_cases h : t ∈ row G p <;> simp [h]
theorem rowSt_len (G : List (List Nat)) (p j t : Nat) : (rowSt G p j t).length ≤ p + 1 := by
  unfold rowSt
  rw [List.length_append]
  have h1 := List.length_filter_le (fun q => (row G q).contains t) (List.range p)
  rw [List.length_range] at h1
  split
  · rw [List.length_singleton]; omega
  · rw [List.length_nil]; omega
theorem take_succ_has (l : List Nat) (j t : Nat) (h : j < l.length) : (l.take (j + 1)).contains t = ((l.take j).contains t || t == l[j]) := by
  rw [List.take_succ_eq_append_getElem h]
  rw [List.contains_append, Bool.eq_iff_iff]
  simp
theorem rowSt_other {G : List (List Nat)} {p j t : Nat} (h : j < (row G p).length) (ht : t ≠ (row G p)[j]) : rowSt G p (j + 1) t = rowSt G p j t := by
  unfold rowSt
  rw [take_succ_has _ _ _ h, show (t == (row G p)[j]) = false by simpa using ht, Bool.or_false]
theorem rowSt_had {G : List (List Nat)} {p j t : Nat} (h : j < (row G p).length) (ht : t = (row G p)[j]) (hc : ((row G p).take j).contains t = true) : rowSt G p (j + 1) t = rowSt G p j t := by
  unfold rowSt
  rw [take_succ_has _ _ _ h, hc, Bool.true_or]
theorem rowSt_new {G : List (List Nat)} {p j t : Nat} (h : j < (row G p).length) (ht : t = (row G p)[j]) (hc : ((row G p).take j).contains t = false) : rowSt G p (j + 1) t = rowSt G p j t ++ [p] := by
  unfold rowSt
  rw [take_succ_has _ _ _ h, hc, Bool.false_or, show (t == (row G p)[j]) = true by simpa using ht]
  simp
/-- The last one is p just if p stands there. -/
theorem rowSt_last {G : List (List Nat)} {p j t : Nat} (hne : rowSt G p j t ≠ []) : (((rowSt G p j t).getD ((rowSt G p j t).length - 1) 0) = p ↔ ((row G p).take j).contains t = true) := by
  by_cases hc : ((row G p).take j).contains t = true
  · simp only [hc, iff_true]
    unfold rowSt
    rw [if_pos hc, List.getD_eq_getElem?_getD, List.getElem?_append_right (by simp)]
    simp
  · have hf : ((row G p).take j).contains t = false := by simpa using hc
    have e : rowSt G p j t = (List.range p).filter (fun q => (row G q).contains t) := by unfold rowSt; rw [if_neg hc, List.append_nil]
    rw [e] at hne ⊢
    have hlen : 0 < ((List.range p).filter (fun q => (row G q).contains t)).length := List.length_pos_iff.2 hne
    rw [getD_of _ _ _ (by omega)]
    have hm := List.getElem_mem (l := (List.range p).filter (fun q => (row G q).contains t)) (n := ((List.range p).filter (fun q => (row G q).contains t)).length - 1) (by omega)
    have hlt := Nat.ne_of_lt (List.mem_range.1 (List.mem_filter.1 hm).1)
    exact ⟨fun h => absurd h hlt, fun h => absurd h hc⟩
end Fl

/-- Rows of rows, being written. -/
def IntoW (base bl n : Nat) (T : Nat → List Nat) (W : World) : Prop := base ≤ bl ∧ ∃ vs : List Value, vs.length = n ∧ Blk bl vs.toArray 41 W ∧ (∀ t (h : t < vs.length), Nums W base vs[t] (T t)) ∧ (∀ t (h : t < vs.length), some bl ≠ vs[t].ownBlock) ∧
  (∀ t u (ht : t < vs.length) (hu : u < vs.length), t ≠ u → vs[t].ownBlock = none ∨ vs[t].ownBlock ≠ vs[u].ownBlock)

theorem IntoW.ext {base bl n : Nat} {T T' : Nat → List Nat} {W : World} (h : IntoW base bl n T W) (e : ∀ t, t < n → T' t = T t) : IntoW base bl n T' W := by
  obtain ⟨h0, vs, h1, h2, h3, h4, h5⟩ := h
  exact ⟨h0, vs, h1, h2, fun t ht => by rw [e t (by omega)]; exact h3 t ht, h4, h5⟩
theorem IntoW.heap {base bl n : Nat} {T : Nat → List Nat} {W W' : World} (h : IntoW base bl n T W) (e : W'.heap = W.heap) : IntoW base bl n T W' := by
  obtain ⟨h0, vs, h1, h2, h3, h4, h5⟩ := h
  exact ⟨h0, vs, h1, by unfold Blk; rw [e]; exact h2, fun t ht => own_heap (h3 t ht) e, h4, h5⟩

theorem IntoW.app {base bl n : Nat} {T : Nat → List Nat} {W w4 : World} {o : Obj} {u : Value} {vs : List Value} {t0 p : Nat} (h0 : base ≤ bl) (h1 : vs.length = n) (h2 : Blk bl vs.toArray 41 W) (h3 : ∀ t (h : t < vs.length), Nums W base vs[t] (T t)) (h4 : ∀ t (h : t < vs.length), some bl ≠ vs[t].ownBlock)
    (h5 : ∀ t u (ht : t < vs.length) (hu : u < vs.length), t ≠ u → vs[t].ownBlock = none ∨ vs[t].ownBlock ≠ vs[u].ownBlock) (ht0 : t0 < vs.length) (hg : (W.alloc o).grownBy w4 vs[t0].ownBlock) (ho : Nums w4 base u (T t0 ++ [p])) (hat : u.ownBlock = vs[t0].ownBlock ∨ u.ownBlock = some (W.alloc o).heap.size) :
    IntoW base bl n (fun t => if t = t0 then T t ++ [p] else T t) (w4.setCell ⟨bl, t0, none⟩ u) := by
  have hat' : u.ownBlock = vs[t0].ownBlock ∨ ∃ g, u.ownBlock = some g ∧ W.heap.size ≤ g := by
    rcases hat with e | e
    · exact Or.inl e
    · exact Or.inr ⟨_, e, by simp⟩
  have qb : some bl ≠ u.ownBlock := own_apart (h3 t0 ht0) (h4 t0 ht0) h2.lt (Nat.le_refl _) hat'
  have hap : ∀ t (h : t < vs.length), t ≠ t0 → vs[t].ownBlock = none ∨ vs[t].ownBlock ≠ u.ownBlock := by
    intro t ht hne
    cases hv : vs[t].ownBlock with
    | none => exact Or.inl rfl
    | some g0 =>
      right
      have hl := ((h3 t ht).lt g0 hv).2
      have hn2 : some g0 ≠ vs[t0].ownBlock := by
        rcases h5 t t0 ht ht0 hne with e | e
        · rw [hv] at e; cases e
        · rw [hv] at e; exact e
      exact own_apart (h3 t0 ht0) hn2 hl (Nat.le_refl _) hat'
  refine ⟨h0, vs.set t0 u, by simpa using h1, ?_, fun t ht => ?_, fun t ht => ?_, fun t v ht hv hne => ?_⟩
  · have h := ((h2.alloc o).other hg (h4 t0 ht0)).set t0 u
    have e : vs.toArray.setIfInBounds t0 u = (vs.set t0 u).toArray := by apply Array.toList_inj.1; simp
    rw [e] at h
    exact h
  · have ht' : t < vs.length := by simpa using ht
    rw [List.getElem_set]
    show Nums _ _ _ (if t = t0 then T t ++ [p] else T t)
    by_cases e : t = t0
    · subst e
      rw [if_pos rfl, if_pos rfl]
      exact own_set ho qb
    · rw [if_neg (fun e' => e e'.symm), if_neg e]
      refine own_set (((h3 t ht').alloc o).kept hg ?_) (h4 t ht')
      exact h5 t t0 ht' ht0 e
  · have ht' : t < vs.length := by simpa using ht
    rw [List.getElem_set]
    split
    · exact qb
    · exact h4 t ht'
  · have ht' : t < vs.length := by simpa using ht
    have hv' : v < vs.length := by simpa using hv
    rw [List.getElem_set, List.getElem_set]
    by_cases e1 : t0 = t
    · rw [if_pos e1, if_neg (by omega)]
      rcases hap v hv' (by omega) with e | e
      · right; rw [e]
        intro e2
        have := ho.lt
        cases hu : u.ownBlock with
        | none =>
          rcases own_slice ho with ⟨_, h⟩ | ⟨g, c, h⟩
          · simp at h
          · rw [h] at hu; cases hu
        | some g => rw [hu] at e2; cases e2
      · right; exact Ne.symm e
    · rw [if_neg e1]
      by_cases e2 : t0 = v
      · rw [if_pos e2]; exact hap t ht' (by omega)
      · rw [if_neg e2]; exact h5 t v ht' hv' hne
end Go.Proofs.Ytjlmkcamefaodaa

/-! Who goes on to whom, of any graph: the walk. -/

namespace Go.Proofs.Ytjlmkcamefaodaa
open Go Go.RowKit Fl

theorem info_sl : (Try.prog.info? 41).map (fun i => (i.zero, i.size, i.bytes)) = some (some (.slice none 0 0), 1, 24) := by kernel_rfl
abbrev arrS (vs : List Value) : Array Value := vs.toArray
theorem mkSn (n : Nat) (hn : n ≤ 1000000) (u : World) : (Instr.makeSlice 62 (I (n : Int)) (I (n : Int))).run Try.prog u = .ok (.slice (some ⟨u.heap.size, 0, none⟩) n n) (u.alloc (.cells (arrS (List.replicate n (.slice none 0 0))) 41)) := by
  obtain ⟨i0, hi, hz0, hz1, hz2⟩ := info_parts info_sl
  have h := run_makeSlice (P := Try.prog) (w := u) 62 41 i0 _ Try.underlying62 hi hz0 .i64 .i64 (n : Int) (n : Int) (by omega) (Int.le_refl _) (by rw [hz1]; simp; omega) (by rw [hz2]; simp; omega) (by omega)
  rw [hz1, show (Value.slice none 0 0).cells = #[.slice none 0 0] from rfl, made_one] at h
  simp at h
  rw [show arrS (List.replicate n (.slice none 0 0)) = Array.replicate n (.slice none 0 0) by apply Array.toList_inj.1; simp]
  exact h

/-- What is answered of who goes on to whom. -/
def IntoT (w : World) (G : List (List Nat)) (W : World) (e : Ending) : Prop := ∃ bl, e = .returned (.slice (some ⟨bl, 0, none⟩) G.length G.length) ∧ IntoW w.heap.size bl G.length (fun t => Fl.rowSt G G.length 0 t) W ∧ Below w.heap.size w W
def IRel (w0 : World) (bl : Nat) (G : List (List Nat)) (iv : Value) (W : World) : Prop := ∃ p : Nat, p ≤ G.length ∧ iv = I (p : Int) ∧ IntoW w0.heap.size bl G.length (fun t => Fl.rowSt G p 0 t) W ∧ Below w0.heap.size w0 W
def JRel (w0 : World) (bl : Nat) (G : List (List Nat)) (p : Nat) (jv : Value) (W : World) : Prop := ∃ j : Nat, j ≤ (row G p).length ∧ jv = I (j : Int) ∧ IntoW w0.heap.size bl G.length (fun t => Fl.rowSt G p j t) W ∧ Below w0.heap.size w0 W

theorem Fl.rowSt_nil {G : List (List Nat)} {p j t : Nat} (h : Fl.rowSt G p j t = []) : ((row G p).take j).contains t = false := by
  cases hc : ((row G p).take j).contains t with
  | false => rfl
  | true =>
    unfold Fl.rowSt at h
    rw [if_pos hc] at h
    simp at h
/-- One more stands at t. -/
theorem JRel.app {w0 : World} {bl : Nat} {G : List (List Nat)} {p j t : Nat} {vs : List Value} {W w4 : World} {o : Obj} {u : Value} (h0 : w0.heap.size ≤ bl) (v1 : vs.length = G.length) (v2 : Blk bl vs.toArray 41 W) (v3 : ∀ t (h : t < vs.length), Nums W w0.heap.size vs[t] (Fl.rowSt G p j t)) (v4 : ∀ t (h : t < vs.length), some bl ≠ vs[t].ownBlock)
    (v5 : ∀ t u (ht : t < vs.length) (hu : u < vs.length), t ≠ u → vs[t].ownBlock = none ∨ vs[t].ownBlock ≠ vs[u].ownBlock) (hbe : Below w0.heap.size w0 W) (hjr : j < (row G p).length) (ht : t = (row G p)[j]) (htn : t < vs.length) (hc : ((row G p).take j).contains t = false)
    (hg : (W.alloc o).grownBy w4 vs[t].ownBlock) (ho : Nums w4 w0.heap.size u (Fl.rowSt G p j t ++ [p])) (hat : u.ownBlock = vs[t].ownBlock ∨ u.ownBlock = some (W.alloc o).heap.size) :
    JRel w0 bl G p (I ((j : Int) + 1)) (w4.setCell ⟨bl, t, none⟩ u) := by
  refine ⟨j + 1, hjr, rfl, (IntoW.app (T := fun t => Fl.rowSt G p j t) h0 v1 v2 v3 v4 v5 htn hg ho hat).ext (fun q _ => ?_), ?_⟩
  · by_cases e : q = t
    · subst e
      show Fl.rowSt G p (j + 1) q = (if q = q then Fl.rowSt G p j q ++ [p] else Fl.rowSt G p j q)
      rw [if_pos rfl]
      exact Fl.rowSt_new hjr ht hc
    · show Fl.rowSt G p (j + 1) q = (if q = t then Fl.rowSt G p j q ++ [p] else Fl.rowSt G p j q)
      rw [if_neg e]
      exact Fl.rowSt_other hjr (by rw [← ht]; exact e)
  · exact (((hbe.alloc hbe.size _).grown hg (by have := hbe.size; simp; omega) (fun k hk => ((v3 t htn).lt k hk).1))).setCell (p := ⟨bl, t, none⟩) h0 _

set_option maxRecDepth 100000 in
set_option maxHeartbeats 3200000 in
theorem into_any (bg cap : Nat) (G : List (List Nat)) (hn : G.length ≤ 60000) (hG : GOk G) (hrow : ∀ i, (row G i).length ≤ 1000000) (w : World) (h : Gr w bg G) :
    Calls Try.prog 56 #[.slice (some ⟨bg, 0, none⟩) G.length cap] w fun e w' => IntoT w G w' e := by
  obtain ⟨i0, hi, hz0, hz1, hz2⟩ := info_parts info_int'
  have HI := Lib.hid (And.intro hi (And.intro hz0 (And.intro hz1 hz2)))
  obtain ⟨n, hnn⟩ : ∃ n, n = G.length := ⟨_, rfl⟩
  have hmk := mkSn n (by omega)
  have HH := Lib.hid (And.intro h (And.intro hG (And.intro hrow hnn)))
  rw [← hnn] at hn ⊢
  obtain ⟨W, hW⟩ : ∃ W, W = w.alloc (.cells (arrS (List.replicate n (.slice none 0 0))) 41) := ⟨_, rfl⟩
  obtain ⟨bl, hbl⟩ : ∃ b, b = w.heap.size := ⟨_, rfl⟩
  have hb : Below w.heap.size w W := by rw [hW]; exact (Below.refl _ _).alloc (Nat.le_refl _) _
  have hIW : IntoW w.heap.size bl n (fun t => Fl.rowSt G 0 0 t) W := by
    refine ⟨by omega, List.replicate n (.slice none 0 0), by simp, by rw [hW, hbl]; exact Blk.new _ _ _, fun t ht => ?_, fun t ht => ?_, fun t u ht hu _ => ?_⟩
    · rw [List.getElem_replicate]
      show Nums _ _ _ (Fl.rowSt G 0 0 t)
      rw [Fl.rowSt_zero]
      exact World.ownsRow_nil _ _ _ _
    · rw [List.getElem_replicate]; simp [Value.ownBlock]
    · left; rw [List.getElem_replicate]; rfl
  have HST := Lib.hid (show IRel w bl G (I 0) W from ⟨0, Nat.zero_le _, rfl, by rw [← hnn]; exact hIW, hb⟩)
  have HW := Lib.hid (And.intro hW hbl)
  clear h hG hrow hi hz0 hz1 hz2 hnn hW hbl hb hIW
  go_enter Try.func56, Try.ntmps56
  go_upto_region 2 with (fail)
  rw [← HW.out.2]
  change Code.wp _ _ _ _ (w.alloc (.cells (arrS (List.replicate n (.slice none 0 0))) 41))
  rw [← HW.out.1]
  go_wp2_with fail
  go_loopw [13] (fun iv wr => IRel w bl G iv wr) (fun iv _ => n - (intOf iv).toNat)
  case atStart => exact HST.out
  case round =>
    obtain ⟨p, hp, rfl, hI, hbe⟩ := hrel
    obtain ⟨wo, rfl⟩ : ∃ wo : World, wo = wr := ⟨_, rfl⟩
    have H1 := Lib.hid (And.intro hI hbe)
    clear hI
    by_cases hlt : p < n
    · obtain ⟨rv, c0w, ra, rc, hrv, hrw⟩ := HH.out.1.row p (by have := HH.out.2.2.2; omega)
      subst hrv
      obtain ⟨L, hL⟩ : ∃ L, L = (row G p).length := ⟨_, rfl⟩
      rw [← hL] at c0w
      have c0 := cell_below hbe HH.out.1.lt c0w
      have hLb : (L : Int) ≤ 1000000 := by have := HH.out.2.2.1 p; omega
      have HR := Lib.hid (And.intro hrw (And.intro hL (And.intro hlt hp)))
      have d1 : decide (p < n) = true := by simpa using hlt
      have pi : (p : Int) < (n : Int) := by omega
      have HJ := Lib.hid (show JRel w bl G p (I 0) wo from ⟨0, Nat.zero_le _, rfl, H1.out.1, H1.out.2⟩)
      clear hrw hL hlt hp hbe c0w
      go_wp2_with fail
      go_loopw [21] (fun jv wr => JRel w bl G p jv wr) (fun jv _ => L - (intOf jv).toNat)
      case atStart => exact HJ.out
      case round =>
        obtain ⟨j, hj, rfl, hI, hbe⟩ := hrel
        by_cases hjl : j < L
        · obtain ⟨h0, vs, v1, v2, v3, v4, v5⟩ := hI
          have hjr : j < (row G p).length := by rw [← HR.out.2.1]; exact hjl
          obtain ⟨g, hra, hgl, c1w⟩ := HR.out.1 j hjr
          subst hra
          obtain ⟨t, ht⟩ : ∃ t, t = (row G p)[j] := ⟨_, rfl⟩
          have c1 : wr.cell? ⟨g, j, none⟩ = some (I (t : Int)) := by rw [ht]; exact cell_below hbe hgl c1w
          have htn : t < vs.length := by
            have h1 := HH.out.2.1 p _ (List.getElem_mem (l := row G p) (n := j) hjr)
            rw [← ht] at h1
            omega
          have ti : (0 : Int) ≤ (t : Int) := by omega
          have ti2 : (t : Int) < (n : Int) := by have := HH.out.2.2.2; omega
          obtain ⟨T, hT⟩ : ∃ T, T = Fl.rowSt G p j t := ⟨_, rfl⟩
          have ho : Nums wr w.heap.size vs[t] T := by rw [hT]; exact v3 t htn
          have x0 := v2.get t vs[t] (by simp [htn])
          have fx := v2.free t
          have hTl : T.length ≤ n := by
            rw [hT]
            have h1 := Fl.rowSt_len G p j t
            have h2 := HR.out.2.2.1
            omega
          have d2 : decide (j < L) = true := by simpa using hjl
          have ji : (j : Int) < (L : Int) := by omega
          have HV := Lib.hid (And.intro h0 (And.intro v1 (And.intro v2 (And.intro v3 (And.intro v4 v5)))))
          have HX := Lib.hid (And.intro hjl (And.intro hjr (And.intro ht (And.intro htn (And.intro hT (And.intro hTl hbe))))))
          clear h0 v1 v2 v3 v4 v5 hjl hbe c1w hgl
          by_cases hT0 : T = []
          · subst hT0
            obtain ⟨sa, sc, hvs⟩ : ∃ a c, vs[t] = .slice a 0 c := by
              rcases own_slice ho with ⟨h, _⟩ | ⟨g, cap, h⟩
              · exact ⟨_, _, h⟩
              · exact ⟨_, _, h⟩
            have ho' : wr.ownsRow w.heap.size 3 1 (.slice sa 0 sc) 0 (ints []) := by rw [← hvs]; exact ho
            obtain ⟨T, hTT⟩ : ∃ T : List Nat, T = [] := ⟨_, rfl⟩
            have HO := Lib.hid (And.intro (show wr.ownsRow w.heap.size 3 1 (.slice sa 0 sc) 0 (ints T) by rw [hTT]; exact ho') (And.intro hvs (And.intro (show 0 + 1 ≤ maxLen by unfold maxLen; omega) (show (0 + 1) * 8 ≤ 140737488355328 by omega))))
            rw [hvs] at x0
            have HC := Lib.hid (Fl.rowSt_nil hT.symm)
            have HTT := Lib.hid hTT
            clear ho ho' hvs ht hT hTl hTT
            go_upto_region 10 with (fail)
            go_wp2_with (at_builtin; refine Hid.out ?_)
            unfold Hid
            refine wpList_append_own_at _ rfl _ _ 41 rfl w.heap.size 3 i0 (I 0) 1 8 Try.underlying41 HI.out.1 HI.out.2.1 HI.out.2.2.1 HI.out.2.2.2 rfl (by decide) (.slice sa 0 sc) 0 (ints T) rfl (HO.out.1.alloc _) ⟨wr.heap.size, 0, none⟩ 1 1 [I (p : Int)] rfl rfl (cell_one_new _ _ _) (by simp [Value.oneCell']) HO.out.2.2.1 HO.out.2.2.2 (by have := HX.out.2.2.2.2.2.2.size; simp; omega) ?_
            intro v' w4 ho4 hg4 _ hat
            obtain ⟨g4, cap4, rfl⟩ : ∃ g cap, v' = .slice (some ⟨g, 0, none⟩) (0 + 1) cap := by
              rcases own_slice ho4 with ⟨_, h⟩ | ⟨g, cap, h⟩
              · exact absurd h (by omega)
              · exact ⟨g, cap, h⟩
            have hg4' : (wr.alloc (.cells #[I (p : Int)] 3)).grownBy w4 vs[t].ownBlock := by rw [HO.out.2.1]; exact hg4
            have hat' : (Value.slice (some ⟨g4, 0, none⟩) (0 + 1) cap4).ownBlock = vs[t].ownBlock ∨ (Value.slice (some ⟨g4, 0, none⟩) (0 + 1) cap4).ownBlock = some (wr.alloc (.cells #[I (p : Int)] 3)).heap.size := by rw [HO.out.2.1]; exact hat
            have ho4' : Nums w4 w.heap.size (.slice (some ⟨g4, 0, none⟩) (0 + 1) cap4) (Fl.rowSt G p j t ++ [p]) := by
              rw [← HX.out.2.2.2.2.1]
              show World.ownsRow _ _ _ _ _ _ _
              rw [List.length_append, List.length_nil, Nat.zero_add, List.length_singleton]
              rw [HTT.out] at ho4; simpa using ho4
            have HJ2 := Lib.hid (JRel.app HV.out.1 HV.out.2.1 HV.out.2.2.1 HV.out.2.2.2.1 HV.out.2.2.2.2.1 HV.out.2.2.2.2.2 HX.out.2.2.2.2.2.2 HX.out.2.1 HX.out.2.2.1 HX.out.2.2.2.1 HC.out hg4' ho4' hat')
            have kb := ((HV.out.2.2.1.alloc (.cells #[I (p : Int)] 3)).other hg4' (HV.out.2.2.2.2.1 t HX.out.2.2.2.1))
            have y0 := kb.get t (.slice sa 0 sc) (by rw [← HO.out.2.1]; simp [HX.out.2.2.2.1])
            have fy := kb.free t
            clear ho4 hg4 hat hg4' hat' ho4' kb x0 fx
            go_wp2_with fail
            exact ⟨HJ2.out, by have := HX.out.1; simp [intOf]; omega⟩
          · obtain ⟨M, hM⟩ : ∃ M, T.length = M + 1 := ⟨T.length - 1, by have := List.length_pos_iff.2 hT0; omega⟩
            obtain ⟨gg, sc, hvs⟩ : ∃ g c, vs[t] = .slice (some ⟨g, 0, none⟩) (M + 1) c := by
              rcases own_slice ho with ⟨_, h⟩ | ⟨g, cap, h⟩
              · omega
              · exact ⟨g, cap, by rw [h, hM]⟩
            have ho' : wr.ownsRow w.heap.size 3 1 (.slice (some ⟨gg, 0, none⟩) (M + 1) sc) (M + 1) (ints T) := by rw [← hvs, ← hM]; exact ho
            obtain ⟨lst, hlst⟩ : ∃ x, x = T.getD M 0 := ⟨_, rfl⟩
            have cl : wr.cell? ⟨gg, M, none⟩ = some (I (lst : Int)) := by rw [hlst]; exact nums_get ho' hM M (by omega)
            have hMn : M + 1 ≤ n := by omega
            obtain ⟨sa, hsa⟩ : ∃ sa : Option Addr, sa = some ⟨gg, 0, none⟩ := ⟨_, rfl⟩
            have hiff : lst = p ↔ ((row G p).take j).contains t = true := by
              have h1 := Fl.rowSt_last (G := G) (p := p) (j := j) (t := t) (by rw [← hT]; exact hT0)
              rw [← hT, hM, Nat.add_sub_cancel, ← hlst] at h1
              exact h1
            have HO := Lib.hid (And.intro (show wr.ownsRow w.heap.size 3 1 (.slice (some ⟨gg, 0, none⟩) (M + 1) sc) (M + 1) (ints T) from ho') (And.intro hvs (And.intro (show M + 1 + 1 ≤ maxLen by unfold maxLen; omega) (show (M + 1 + 1) * 8 ≤ 140737488355328 by omega))))
            rw [hvs] at x0
            have HM := Lib.hid hM
            have e1 : (((M : Int) + 1) == 0) = false := by simp; omega
            have e2 : (0 : Int) ≤ (M : Int) := by omega
            have e3 : (M : Int) + 1 ≤ 60000 := by omega
            by_cases hl : lst = p
            · have HC := Lib.hid (hiff.1 hl)
              have e4 : ((lst : Int) != (p : Int)) = false := by rw [hl]; simp
              have HN := Lib.hid (show JRel w bl G p (I ((j : Int) + 1)) wr from ⟨j + 1, HX.out.2.1, rfl, ⟨HV.out.1, vs, HV.out.2.1, HV.out.2.2.1, fun q hq => by
                show Nums _ _ _ (Fl.rowSt G p (j + 1) q)
                by_cases e : q = t
                · subst e
                  rw [Fl.rowSt_had HX.out.2.1 HX.out.2.2.1 HC.out]
                  exact HV.out.2.2.2.1 q hq
                · rw [Fl.rowSt_other HX.out.2.1 (by rw [← HX.out.2.2.1]; exact e)]
                  exact HV.out.2.2.2.1 q hq, HV.out.2.2.2.2.1, HV.out.2.2.2.2.2⟩, HX.out.2.2.2.2.2.2⟩)
              clear ho ho' hvs ht hT hT0 hTl hM hlst hsa hiff hl hMn fx
              go_wp2_with fail
              exact ⟨HN.out, by have := HX.out.1; simp [intOf]; omega⟩
            · have HC := Lib.hid (show ((row G p).take j).contains t = false by
                cases hc : ((row G p).take j).contains t with
                | false => rfl
                | true => exact absurd (hiff.2 hc) hl)
              have e4 : ((lst : Int) != (p : Int)) = true := by simp; omega
              clear ho ho' hvs ht hT hT0 hTl hM hlst hsa hiff hl hMn
              go_upto_region 10 with (fail)
              go_wp2_with (at_builtin; refine Hid.out ?_)
              unfold Hid
              refine wpList_append_own_at _ rfl _ _ 41 rfl w.heap.size 3 i0 (I 0) 1 8 Try.underlying41 HI.out.1 HI.out.2.1 HI.out.2.2.1 HI.out.2.2.2 rfl (by decide) (.slice (some ⟨gg, 0, none⟩) (M + 1) sc) (M + 1) (ints T) rfl (HO.out.1.alloc _) ⟨wr.heap.size, 0, none⟩ 1 1 [I (p : Int)] rfl rfl (cell_one_new _ _ _) (by simp [Value.oneCell']) HO.out.2.2.1 HO.out.2.2.2 (by have := HX.out.2.2.2.2.2.2.size; simp; omega) ?_
              intro v' w4 ho4 hg4 _ hat
              obtain ⟨g4, cap4, rfl⟩ : ∃ g cap, v' = .slice (some ⟨g, 0, none⟩) (M + 1 + 1) cap := by
                rcases own_slice ho4 with ⟨_, h⟩ | ⟨g, cap, h⟩
                · exact absurd h (by omega)
                · exact ⟨g, cap, h⟩
              have hg4' : (wr.alloc (.cells #[I (p : Int)] 3)).grownBy w4 vs[t].ownBlock := by rw [HO.out.2.1]; exact hg4
              have hat' : (Value.slice (some ⟨g4, 0, none⟩) (M + 1 + 1) cap4).ownBlock = vs[t].ownBlock ∨ (Value.slice (some ⟨g4, 0, none⟩) (M + 1 + 1) cap4).ownBlock = some (wr.alloc (.cells #[I (p : Int)] 3)).heap.size := by rw [HO.out.2.1]; exact hat
              have ho4' : Nums w4 w.heap.size (.slice (some ⟨g4, 0, none⟩) (M + 1 + 1) cap4) (Fl.rowSt G p j t ++ [p]) := by
                rw [← HX.out.2.2.2.2.1]
                show World.ownsRow _ _ _ _ _ _ _
                rw [List.length_append, HM.out, List.length_singleton]
                simpa using ho4
              have HJ2 := Lib.hid (JRel.app HV.out.1 HV.out.2.1 HV.out.2.2.1 HV.out.2.2.2.1 HV.out.2.2.2.2.1 HV.out.2.2.2.2.2 HX.out.2.2.2.2.2.2 HX.out.2.1 HX.out.2.2.1 HX.out.2.2.2.1 HC.out hg4' ho4' hat')
              have kb := ((HV.out.2.2.1.alloc (.cells #[I (p : Int)] 3)).other hg4' (HV.out.2.2.2.2.1 t HX.out.2.2.2.1))
              have y0 := kb.get t (.slice (some ⟨gg, 0, none⟩) (M + 1) sc) (by rw [← HO.out.2.1]; simp [HX.out.2.2.2.1])
              have fy := kb.free t
              clear ho4 hg4 hat hg4' hat' ho4' kb x0 fx
              go_wp2_with fail
              exact ⟨HJ2.out, by have := HX.out.1; simp [intOf]; omega⟩
        · have d2 : decide (j < L) = false := by simpa using hjl
          have HD := Lib.hid (show IRel w bl G (I ((p : Int) + 1)) wr from ⟨p + 1, by have := HR.out.2.2.1; have := HH.out.2.2.2; omega, rfl, hI.ext (fun q _ => by
            show Fl.rowSt G (p + 1) 0 q = Fl.rowSt G p j q
            rw [Fl.rowSt_next, show j = (row G p).length by have := HR.out.2.1; omega]), hbe⟩)
          clear hI hjl hbe
          go_wp2_with fail
          exact ⟨HD.out, by have := HR.out.2.2.1; simp [intOf]; omega⟩
    · have d1 : decide (p < n) = false := by simpa using hlt
      have hpe : p = n := by have := HH.out.2.2.2; omega
      have FIN := Lib.hid (show IntoT w G wo (.returned (.slice (some ⟨bl, 0, none⟩) n n)) from ⟨bl, by rw [HH.out.2.2.2], by
        have h1 := H1.out.1
        rw [show p = G.length by rw [hpe]; exact HH.out.2.2.2] at h1
        exact h1, H1.out.2⟩)
      clear hlt hpe
      go_wp2_with fail
      go_ret
      exact FIN.out
end Go.Proofs.Ytjlmkcamefaodaa
