/-
  Joined: FOwn, FReach.
-/
import Derived.Test.YtjlmkcamefaodaaJ28
import Derived.Laws.AppendOwnNone
import Derived.Maps.AppendAt
import Derived.Deep.AppendSrc
import Derived.Deep.RegionHeld3
/-! FOwn: Graphs of one's own; graphs wherever they lie; the document's check of a graph. -/

namespace Go.Proofs.Ytjlmkcamefaodaa
open Go Go.RowKit Fl

theorem RowZ.below {w w' : World} {v : Value} {l : List Int} (h : RowZ w v l) (hb : Below w.heap.size w w') : RowZ w' v l := by
  obtain ⟨a, c, e, h⟩ := h
  refine ⟨a, c, e, fun j hj => ?_⟩
  obtain ⟨g, h1, h2, h3⟩ := h j hj
  exact ⟨g, h1, Nat.lt_of_lt_of_le h2 hb.size, cell_below hb h2 h3⟩
/-- A graph in memory, of no nodes or of some. -/
def GZ (w : World) (v : Value) (Z : List (List Int)) : Prop := ∃ a c, v = .slice a Z.length c ∧ ∀ i (h : i < Z.length), ∃ bg rv, a = some ⟨bg, 0, none⟩ ∧ bg < w.heap.size ∧ w.cell? ⟨bg, i, none⟩ = some rv ∧ RowZ w rv Z[i]
theorem GZ.below {w w' : World} {v : Value} {Z : List (List Int)} (h : GZ w v Z) (hb : Below w.heap.size w w') : GZ w' v Z := by
  obtain ⟨a, c, e, h⟩ := h
  refine ⟨a, c, e, fun j hj => ?_⟩
  obtain ⟨g, rv, h1, h2, h3, h4⟩ := h j hj
  exact ⟨g, rv, h1, Nat.lt_of_lt_of_le h2 hb.size, cell_below hb h2 h3, h4.below hb⟩
theorem GZ.grZ {w : World} {v : Value} {Z : List (List Int)} (h : GZ w v Z) (hz : Z ≠ []) : ∃ bg c, v = .slice (some ⟨bg, 0, none⟩) Z.length c ∧ GrZ w bg Z := by
  obtain ⟨a, c, e, h⟩ := h
  obtain ⟨bg, rv, h1, h2, h3, h4⟩ := h 0 (List.length_pos_iff.2 hz)
  subst h1
  refine ⟨bg, c, e, h2, fun i hi => ?_⟩
  obtain ⟨bg', rv, q1, q2, q3, q4⟩ := h i hi
  cases q1
  exact ⟨rv, q3, q4⟩
theorem nums_rowZ {w : World} {base : Nat} {v : Value} {l : List Nat} (h : Nums w base v l) : RowZ w v (l.map fun n : Nat => (n : Int)) := by
  rcases own_slice h with ⟨e, e2⟩ | ⟨g, c, e⟩
  · have : l = [] := List.length_eq_zero_iff.1 e2
    subst this
    exact ⟨none, 0, e, fun j hj => absurd hj (by simp)⟩
  · refine ⟨some ⟨g, 0, none⟩, c, by rw [e, List.length_map], fun j hj => ?_⟩
    rw [List.length_map] at hj
    rw [e] at h
    refine ⟨g, rfl, (h.lt g rfl).2, ?_⟩
    rw [nums_get h rfl j hj, getD_of l j 0 hj, List.getElem_map]

abbrev NumZ (w : World) (base : Nat) (v : Value) (l : List Int) : Prop := w.ownsRow base 3 1 v l.length (l.map (Value.int .i64))
/-- A graph of one's own, in memory. -/
def OwnG (base : Nat) (Z : List (List Int)) (v : Value) (W : World) : Prop :=
  ∃ vs : List Value, vs.length = Z.length ∧ W.ownsRow base 41 1 v Z.length vs ∧ ∀ i (h : i < Z.length) (h' : i < vs.length), NumZ W base vs[i] Z[i] ∧ (vs[i].ownBlock = none ∨ vs[i].ownBlock ≠ v.ownBlock)
theorem OwnG.below {base : Nat} {Z : List (List Int)} {v : Value} {W W' : World} (h : OwnG base Z v W) (hb : Below W.heap.size W W') : OwnG base Z v W' := by
  obtain ⟨vs, h1, h2, h3⟩ := h
  exact ⟨vs, h1, own_below h2 hb, fun i hi hi' => ⟨own_below (h3 i hi hi').1 hb, (h3 i hi hi').2⟩⟩
theorem OwnG.lower {base base' : Nat} {Z : List (List Int)} {v : Value} {W : World} (h : OwnG base Z v W) (hb : base' ≤ base) : OwnG base' Z v W := by
  obtain ⟨vs, h1, h2, h3⟩ := h
  exact ⟨vs, h1, own_lower hb h2, fun i hi hi' => ⟨own_lower hb (h3 i hi hi').1, (h3 i hi hi').2⟩⟩
theorem OwnG.start (base : Nat) (W : World) : OwnG base [] (.slice none 0 0) W := ⟨[], rfl, World.ownsRow_nil _ _ _ _, fun i hi => absurd hi (by simp)⟩
theorem numZ_row {w : World} {base : Nat} {v : Value} {l : List Int} (h : NumZ w base v l) : RowZ w v l := by
  rcases own_slice h with ⟨e, e2⟩ | ⟨g, c, e⟩
  · have : l = [] := List.length_eq_zero_iff.1 e2
    subst this
    exact ⟨none, 0, e, fun j hj => absurd hj (by simp)⟩
  · refine ⟨some ⟨g, 0, none⟩, c, e, fun j hj => ?_⟩
    rw [e] at h
    refine ⟨g, rfl, (h.lt g rfl).2, ?_⟩
    rw [h.cellAt j (by omega), List.getElem?_map, List.getElem?_eq_getElem hj]
    rfl
theorem OwnG.gz {base : Nat} {Z : List (List Int)} {v : Value} {W : World} (h : OwnG base Z v W) : GZ W v Z := by
  obtain ⟨vs, h1, h2, h3⟩ := h
  rcases own_slice h2 with ⟨e, e2⟩ | ⟨g, c, e⟩
  · have : Z = [] := List.length_eq_zero_iff.1 e2
    subst this
    exact ⟨none, 0, e, fun j hj => absurd hj (by simp)⟩
  · refine ⟨some ⟨g, 0, none⟩, c, e, fun j hj => ?_⟩
    rw [e] at h2
    have hj' : j < vs.length := by omega
    refine ⟨g, vs[j], rfl, (h2.lt g rfl).2, ?_, numZ_row (h3 j hj hj').1⟩
    rw [h2.cellAt j (by omega), List.getElem?_eq_getElem hj']
/-- One row more. -/
theorem OwnG.app {base : Nat} {Z : List (List Int)} {v u nv : Value} {W W4 : World} {o : Obj} {l : List Int} (h : OwnG base Z v W) (hn : NumZ W base nv l) (hne : nv.ownBlock = none ∨ nv.ownBlock ≠ v.ownBlock) (hg : (W.alloc o).grownBy W4 v.ownBlock)
    (ho : ∀ vs : List Value, vs.length = Z.length → W.ownsRow base 41 1 v Z.length vs → W4.ownsRow base 41 1 u (Z.length + 1) (vs ++ [nv])) (hat : u.ownBlock = v.ownBlock ∨ u.ownBlock = some (W.alloc o).heap.size) : OwnG base (Z ++ [l]) u W4 := by
  obtain ⟨vs, h1, h2, h3⟩ := h
  have hap : ∀ {x : Value} {l : List Int}, NumZ W base x l → (x.ownBlock = none ∨ x.ownBlock ≠ v.ownBlock) → NumZ W4 base x l ∧ (x.ownBlock = none ∨ x.ownBlock ≠ u.ownBlock) := fun {x l} hx hxn => by
    refine ⟨World.ownsRow.kept (hx.alloc o) hg hxn, ?_⟩
    rcases hat with e | e
    · rw [e]; exact hxn
    · cases hxb : x.ownBlock with
      | none => exact Or.inl rfl
      | some g =>
        right
        rw [e]
        have := (hx.lt g hxb).2
        simp
        omega
  refine ⟨vs ++ [nv], by simp [h1], ?_, fun i hi hi' => ?_⟩
  · rw [List.length_append]
    exact ho vs h1 h2
  · by_cases hl : i < Z.length
    · rw [List.getElem_append_left (by omega), List.getElem_append_left hl]
      exact hap (h3 i hl (by omega)).1 (h3 i hl (by omega)).2
    · have e : i = Z.length := by simp at hi; omega
      subst e
      rw [List.getElem_append_right (by omega), List.getElem_append_right (by omega)]
      simp only [h1, Nat.sub_self, List.getElem_singleton]
      exact hap hn hne

/-- Nothing more. -/
theorem wpList_append_nil0 {P : Program} {w : World} {ops : Array Oper} {rest : List Oper} {o : Oper} {a : Act} {Q : Exit → Act → World → Prop} (hgd : o.guard = none) (s x : Operand) (t : TypeId)
    (ho : o.op = .call { callee := .builtin .append, args := #[s, x], argTypes := #[t, t] }) (e : TypeId) (i : TypeInfo) (ht : P.underlying t = some (.slice e)) (hi : P.info? e = some i) (b n cap c : Nat) (hc : n ≤ cap)
    (hs : a.eval s = .slice (some ⟨b, 0, none⟩) n cap) (hx : a.eval x = .slice none 0 c) (h : wpList P ops Q rest (a.put o.dst (.slice (some ⟨b, 0, none⟩) n cap)) w) : wpList P ops Q (o :: rest) a w := by
  refine wpList_plain hgd fun K hK => ?_
  have hrun := run_append_room_src (P := P) w t t o.type e i ht hi b 0 n cap (.slice none 0 c) 0 [] (Src.ofNil w ht c) (by omega) (by simp) (by simp)
  have e0 : w.setCells b (0 + n * i.size) [] = w := rfl
  rw [e0] at hrun
  unfold Oper.wp
  simp [execOp, ho, resolve, invoke, builtin, hs, hx, hrun, Result.andThen]
  exact hK _ _ h
theorem own_zero {w : World} {base E b : Nat} (hb : w.heap[b]? = some (.cells #[] E (0, 0))) (hl : base ≤ b) : w.ownsRow base E 1 (.slice (some ⟨b, 0, none⟩) 0 0) 0 [] :=
  ⟨rfl, .inr ⟨b, 0, #[], rfl, hl, hb, Nat.le_refl _, Nat.zero_le _, rfl, rfl⟩⟩
theorem own_block_some {w : World} {base E size n b : Nat} {v : Value} {xs : List Value} (h : w.ownsRow base E size v n xs) (hv : v.ownBlock = some b) : ∃ c, v = .slice (some ⟨b, 0, none⟩) n c := by
  rcases own_slice h with ⟨e, _⟩ | ⟨g, c, e⟩
  · rw [e] at hv; cases hv
  · rw [e] at hv; cases hv; exact ⟨c, e⟩
theorem info_sl' : (Try.prog.info? 41).map (fun i => (i.zero, i.size, i.bytes)) = some (some (.slice none 0 0), 1, 24) := by kernel_rfl
theorem take_all {Z : List (List Int)} {k : Nat} (h : ∀ i (h : i < Z.length), Z[i].length ≤ k) : Z.map (fun l => l.take k) = Z := by
  apply List.ext_getElem
  · simp
  · intro i h1 h2
    rw [List.getElem_map, List.take_of_length_le (h i h2)]
theorem own_same' {w : World} {base E size n : Nat} {v : Value} {xs ys : List Value} (h : w.ownsRow base E size v n xs) (h' : w.ownsRow base E size v n ys) : xs = ys := by
  rcases h.2 with ⟨h1, h2⟩ | ⟨g, cap, cur, hv, _, hb, _, _, _, ht⟩
  · have e1 := h.1
    have e2 := h'.1
    rw [h2, Nat.zero_mul] at e1 e2
    rw [List.length_eq_zero_iff.1 e1, List.length_eq_zero_iff.1 e2]
  · rcases h'.2 with ⟨h1, _⟩ | ⟨g', cap', cur', hv', _, hb', _, _, _, ht'⟩
    · rw [hv] at h1; cases h1
    · rw [hv] at hv'
      cases hv'
      rw [hb] at hb'
      cases hb'
      rw [← ht, ← ht']
theorem belowB {w wo W : World} (h : Below w.heap.size w wo) (hb : Below wo.heap.size wo W) : Below w.heap.size w W :=
  ⟨hb.os.trans h.os, hb.tape.trans h.tape, hb.output.trans h.output, Nat.le_trans h.size hb.size, fun k hk => (hb.block k (Nat.lt_of_lt_of_le hk h.size)).trans (h.block k hk)⟩
theorem add_block (a : Addr) (j : Nat) : (a.add j).block = a.block := by unfold Addr.add; split <;> rfl
theorem grB_own {base : Nat} {Z : List (List Int)} {v : Value} {W : World} (h : OwnG base Z v W) (he : errF Z = 0) (hz : Z ≠ []) : ∃ bg c, v = .slice (some ⟨bg, 0, none⟩) Z.length c ∧ GrB W.heap.size W bg (natG Z) := by
  obtain ⟨vs, h1, h2, h3⟩ := h
  rcases own_slice h2 with ⟨_, e2⟩ | ⟨g, c, e⟩
  · exact absurd (List.length_eq_zero_iff.1 e2) hz
  · rw [e] at h2
    refine ⟨g, c, e, (h2.lt g rfl).2, Nat.le_refl _, fun i hi => ?_⟩
    rw [natG_len] at hi
    have hi' : i < vs.length := by omega
    refine ⟨vs[i], by rw [h2.cellAt i (by omega), List.getElem?_eq_getElem hi'], ?_⟩
    have hn := (h3 i hi hi').1
    rw [natG_row Z hi]
    rcases own_slice hn with ⟨e, e2⟩ | ⟨g', c', e⟩
    · exact Or.inl ⟨e, by rw [List.length_eq_zero_iff.1 e2]; rfl⟩
    · right
      rw [e] at hn
      refine ⟨g', c', by rw [e, List.length_map], (hn.lt g' rfl).2, fun j hj => ?_⟩
      rw [List.length_map] at hj
      have h0 := errF_in he hi hj
      rw [hn.cellAt j (by omega), List.getElem?_map, List.getElem?_eq_getElem hj, List.getElem_map]
      show some (I Z[i][j]) = some (I ((Z[i][j].toNat : Nat) : Int))
      rw [Int.toNat_of_nonneg h0.1]

set_option maxRecDepth 100000 in
set_option maxHeartbeats 1600000 in
theorem check_gz (v : Value) (Z : List (List Int)) (hz : Z.length ≤ 9223372036854775807) (hrow : ∀ i (h : i < Z.length), Z[i].length ≤ 9223372036854775806) (w : World) (h : GZ w v Z) :
    Calls Try.prog 30 #[v] w fun e w' => e = .returned (I (Fl.errF Z)) ∧ w = w' := by
  obtain ⟨ga, cap, hv, h⟩ := h
  subst hv
  have H := Lib.hid h
  obtain ⟨n, hn⟩ : ∃ n, n = Z.length := ⟨_, rfl⟩
  rw [← hn] at hz ⊢
  by_cases hbig : 60000 < n
  · have hd : decide ((60000 : Int) < (n : Int)) = true := by simp; omega
    have HE := Lib.hid (show Fl.errF Z = 2 by unfold Fl.errF; rw [if_pos (by omega)])
    clear h hn hrow
    go_enter Try.func30, Try.ntmps30
    go_wp2_with fail
    go_ret
    exact ⟨by rw [HE.out]; rfl, rfl⟩
  · have hd : decide ((60000 : Int) < (n : Int)) = false := by simp; omega
    have HN := Lib.hid (And.intro hn (And.intro hbig hrow))
    clear h hn hrow hbig
    go_enter Try.func30, Try.ntmps30
    go_wp2_with fail
    go_loop [12] (fun iv => ∃ i : Nat, i ≤ n ∧ iv = I (i : Int) ∧ ∀ q, q < i → ∀ (hq : q < Z.length) j (hj : j < Z[q].length), Fl.inB Z.length Z[q][j] = true) (fun iv => n - (intOf iv).toNat)
    case atStart => exact ⟨0, Nat.zero_le _, rfl, fun q hq => absurd hq (by omega)⟩
    case round =>
      obtain ⟨i, hi, rfl, hq⟩ := hrel
      have HQ := Lib.hid hq
      clear hq
      by_cases hlt : i < n
      · have hiZ : i < Z.length := by have := HN.out.1; omega
        obtain ⟨bg, rv, hga, _, c0, ra, rc, hrv, hrw⟩ := H.out i hiZ
        subst hga hrv
        obtain ⟨L, hL⟩ : ∃ L, L = Z[i].length := ⟨_, rfl⟩
        rw [← hL] at c0
        have HR := Lib.hid (And.intro hrw hL)
        have hLb : (L : Int) ≤ 9223372036854775806 := by have := HN.out.2.2 i hiZ; omega
        have d1 : decide (i < n) = true := by simpa using hlt
        have HI := Lib.hid hlt
        have HZ := Lib.hid hiZ
        clear hrw hL hlt
        go_wp2_with fail
        go_loop [18] (fun jv => ∃ j : Nat, j ≤ L ∧ jv = I (j : Int) ∧ ∀ q, q < j → ∀ (hq : q < Z[i].length), Fl.inB Z.length Z[i][q] = true) (fun jv => L - (intOf jv).toNat)
        case atStart => exact ⟨0, Nat.zero_le _, rfl, fun q hq => absurd hq (by omega)⟩
        case round =>
          obtain ⟨j, hj, rfl, hjq⟩ := hrel
          have HJ := Lib.hid hjq
          clear hjq
          by_cases hjl : j < L
          · have hjZ : j < Z[i].length := by have := HR.out.2; omega
            obtain ⟨g, hra, hgl, c1⟩ := HR.out.1 j hjZ
            subst hra
            obtain ⟨x, hx⟩ : ∃ x, x = Z[i][j] := ⟨_, rfl⟩
            replace c1 : w.cell? ⟨g, j, none⟩ = some (I x) := by rw [hx]; exact c1
            have HX := Lib.hid (And.intro hx (And.intro hjl hjZ))
            have d2 : decide (j < L) = true := by simpa using hjl
            have hjI : (j : Int) < (L : Int) := by omega
            clear hx hgl
            by_cases hin : Fl.inB n x = true
            · have hb : 0 ≤ x ∧ x < (n : Int) := by unfold Fl.inB at hin; simpa using hin
              obtain ⟨hb1, hb2⟩ := hb
              have e1 : decide (x < 0) = false := by simp; omega
              have e2 : decide ((n : Int) ≤ x) = false := by simp; omega
              have HIN := Lib.hid hin
              clear hin
              go_wp2_with fail
              go_round
              case rel => exact ⟨j + 1, by have := HX.out.2.1; omega, by go_num, fun q hq hq2 => by
                rcases Nat.lt_or_ge q j with h | h
                · exact HJ.out q h hq2
                · obtain rfl : q = j := by omega
                  have h9 := HIN.out; rw [HX.out.1, HN.out.1] at h9; exact h9⟩
              case measure => have := HX.out.2.1; simp [intOf]; omega
            · have HIN := Lib.hid (show Fl.errF Z = 3 from Fl.errF_bad (by rw [← HN.out.1]; exact HN.out.2.1) HZ.out HX.out.2.2 (bad_in HX.out.1 HN.out.1 hin))
              by_cases hneg : x < 0
              · have e1 : decide (x < 0) = true := by simpa using hneg
                clear hin
                go_wp2_with fail
                go_ret
                exact ⟨by rw [HIN.out]; rfl, rfl⟩
              · have e1 : decide (x < 0) = false := by simpa using hneg
                have hge : (n : Int) ≤ x := by unfold Fl.inB at hin; simp at hin; omega
                have e2 : decide ((n : Int) ≤ x) = true := by simpa using hge
                clear hin
                go_wp2_with fail
                go_ret
                exact ⟨by rw [HIN.out]; rfl, rfl⟩
          · have d2 : decide (j < L) = false := by simpa using hjl
            have HD := Lib.hid (show ∀ q, q < i + 1 → ∀ (hq : q < Z.length) j (hj : j < Z[q].length), Fl.inB Z.length Z[q][j] = true from fun q hq hq2 j' hj' => by
              rcases Nat.lt_or_ge q i with h | h
              · exact HQ.out q h hq2 j' hj'
              · obtain rfl : q = i := by omega
                exact HJ.out j' (by have := HR.out.2; omega) hj')
            clear hjl
            go_wp2_with fail
            go_round
            case rel => exact ⟨i + 1, by have := HI.out; omega, by go_num, HD.out⟩
            case measure => have := HI.out; simp [intOf]; omega
      · have d1 : decide (i < n) = false := by simpa using hlt
        have HE := Lib.hid (show Fl.errF Z = 0 from Fl.errF_ok (by rw [← HN.out.1]; exact HN.out.2.1) (fun q hq j hj => HQ.out q (by have := HN.out.1; omega) hq j hj))
        clear hlt
        go_wp2_with fail
        go_ret
        exact ⟨by rw [HE.out]; rfl, rfl⟩
end Go.Proofs.Ytjlmkcamefaodaa

/-! FReach: What is reached from a node, never through another one: the document's own answer, walked. -/

namespace Go.Proofs.Ytjlmkcamefaodaa
open Go Go.RowKit Fl

namespace Fl
/-- How many are not. -/
def cf (bs : List Bool) : Nat := bs.countP (fun b => !b)
theorem cf_set : ∀ (bs : List Bool) (x : Nat), x < bs.length → bs.getD x false = false → cf (bs.set x true) < cf bs
  | [], _, h, _ => absurd h (by simp)
  | b :: bs, 0, _, h => by
    have hb : b = false := by simpa using h
    subst hb
    show cf (true :: bs) < cf (false :: bs)
    unfold cf
    rw [List.countP_cons, List.countP_cons]
    simp
  | b :: bs, x + 1, h, h2 => by
    have ih := cf_set bs x (by simpa using h) (by simpa using h2)
    show cf (b :: bs.set x true) < cf (b :: bs)
    unfold cf at ih ⊢
    rw [List.countP_cons, List.countP_cons]
    omega
theorem cf_le (bs : List Bool) : cf bs ≤ bs.length := List.countP_le_length
theorem getB_set (bs : List Bool) (x y : Nat) (hx : x < bs.length) : (bs.set x true).getD y false = if x = y then true else bs.getD y false := by
  rw [List.getD_eq_getElem?_getD, List.getElem?_set]
  by_cases e : x = y
  · rw [if_pos e, if_pos e, if_pos hx]
    rfl
  · rw [if_neg e, if_neg e, ← List.getD_eq_getElem?_getD]
def okN (but : Int) (y : Nat) : Prop := (y : Int) ≠ but
/-- Just what is reached. -/
def ReachB (G : List (List Nat)) (fr : Nat) (but : Int) (bs : List Bool) : Prop := ∀ x, bs.getD x false = true ↔ Av (EG G) (okN but) fr x
theorem reach_done {G : List (List Nat)} {fr : Nat} {but : Int} {bs : List Bool} (hs : ∀ x, bs.getD x false = true → Av (EG G) (okN but) fr x) (hf : bs.getD fr false = true) (hc : ∀ a, bs.getD a false = true → ∀ b ∈ row G a, okN but b → bs.getD b false = true) : ReachB G fr but bs := by
  intro x
  refine ⟨hs x, fun h => ?_⟩
  induction h with
  | refl _ => exact hf
  | step _ he ho ih => exact hc _ ih _ he ho
end Fl

structure RS (b0 N fr : Nat) (G : List (List Nat)) (but : Int) (w : World) (bs : List Bool) (W : World) : Prop where
  kb : Blk b0 (arrB bs) 4 W
  ln : bs.length = N
  so : ∀ x, bs.getD x false = true → Av (EG G) (okN but) fr x
  ff : bs.getD fr false = true
  be : Below w.heap.size w W
  lo : w.heap.size ≤ b0
def RO (b0 N fr : Nat) (G : List (List Nat)) (but : Int) (w : World) (gk : Nat) (mv : Value) (W : World) : Prop :=
  ∃ bs m, mv = .bool m ∧ RS b0 N fr G but w bs W ∧ (m = false → ReachB G fr but bs) ∧ (m = true → cf bs < gk)
def R2 (b0 N fr : Nat) (G : List (List Nat)) (but : Int) (w : World) (bs0 : List Bool) (mv pv : Value) (W : World) : Prop :=
  ∃ (p : Nat) (bs : List Bool) (m : Bool), p ≤ N ∧ pv = I (p : Int) ∧ mv = .bool m ∧ RS b0 N fr G but w bs W ∧ cf bs ≤ cf bs0 ∧ (m = true → cf bs < cf bs0) ∧ (m = false → bs = bs0 ∧ ∀ a, a < p → bs0.getD a false = true → ∀ b ∈ row G a, okN but b → bs0.getD b false = true)
def R3 (b0 N fr : Nat) (G : List (List Nat)) (but : Int) (w : World) (bs0 : List Bool) (p : Nat) (mv jv : Value) (W : World) : Prop :=
  ∃ (j : Nat) (bs : List Bool) (m : Bool), j ≤ (row G p).length ∧ jv = I (j : Int) ∧ mv = .bool m ∧ RS b0 N fr G but w bs W ∧ cf bs ≤ cf bs0 ∧ (m = true → cf bs < cf bs0) ∧ (m = false → bs = bs0 ∧ (∀ a, a < p → bs0.getD a false = true → ∀ b ∈ row G a, okN but b → bs0.getD b false = true) ∧ (bs0.getD p false = true → ∀ b ∈ (row G p).take j, okN but b → bs0.getD b false = true))
/-- What is answered. -/
def ReachT (w : World) (N fr : Nat) (G : List (List Nat)) (but : Int) (W : World) (e : Ending) : Prop :=
  ∃ b bs, e = .returned (.slice (some ⟨b, 0, none⟩) N N) ∧ Blk b (arrB bs) 4 W ∧ bs.length = N ∧ ReachB G fr but bs ∧ w.heap.size ≤ b ∧ Below w.heap.size w W

theorem RS.set {b0 N fr : Nat} {G : List (List Nat)} {but : Int} {w : World} {bs : List Bool} {W : World} (h : RS b0 N fr G but w bs W) {x : Nat} (hx : x < N) (ha : Av (EG G) (okN but) fr x) : RS b0 N fr G but w (bs.set x true) (W.setCell ⟨b0, x, none⟩ (.bool true)) := by
  have hxl : x < bs.length := by rw [h.ln]; exact hx
  refine ⟨by rw [← arrB_set]; exact h.kb.set x _, by rw [List.length_set, h.ln], fun y hy => ?_, ?_, h.be.setCell (p := ⟨b0, x, none⟩) h.lo _, h.lo⟩
  · rw [getB_set _ _ _ hxl] at hy
    by_cases e : x = y
    · rw [← e]; exact ha
    · rw [if_neg e] at hy; exact h.so y hy
  · rw [getB_set _ _ _ hxl]
    split
    · rfl
    · exact h.ff

set_option maxRecDepth 100000 in
set_option maxHeartbeats 1600000 in
theorem Reach_any (bg cap N fr : Nat) (but : Int) (G : List (List Nat)) (hG : GOk G) (hGl : G.length = N) (hN : N ≤ 1000) (hrow : ∀ i, (row G i).length ≤ 1000) (hfr : fr < N) (w : World) (h : GrB w.heap.size w bg G) :
    Calls Try.prog 31 #[.slice (some ⟨bg, 0, none⟩) N cap, I (fr : Int), I but] w fun e w' => ReachT w N fr G but w' e := by
  obtain ⟨W1, hW1⟩ : ∃ W, W = w.alloc (.cells (arrB (List.replicate N false)) 4) := ⟨_, rfl⟩
  obtain ⟨b0, hb0⟩ : ∃ b, b = w.heap.size := ⟨_, rfl⟩
  have hB1 : Below w.heap.size w W1 := by rw [hW1]; exact (Below.refl _ _).alloc (Nat.le_refl _) _
  have hk1 : Blk b0 (arrB (List.replicate N false)) 4 W1 := by rw [hb0, hW1]; exact Blk.new _ _ _
  have hmk := mkBn N (by omega) w
  have HW := Lib.hid (And.intro hW1 hb0)
  have HH := Lib.hid (And.intro h (And.intro hG (And.intro hGl (And.intro hrow (And.intro hB1 (And.intro hk1 hfr))))))
  have d0 : decide (N ≤ fr) = false := by simp; omega
  have d1 : (0 : Int) ≤ (fr : Int) := by omega
  have d2 : (fr : Int) < (N : Int) := by omega
  by_cases hbu : (fr : Int) = but
  · have g0 : ((fr : Int) == but) = true := by simpa using hbu
    have FIN := Lib.hid (show ReachT w N fr G but W1 (.returned (.slice (some ⟨b0, 0, none⟩) N N)) from ⟨b0, _, rfl, hk1, by simp, fun x => by
      constructor
      · intro h
        rw [List.getD_eq_getElem?_getD, List.getElem?_replicate] at h
        split at h <;> simp at h
      · intro h
        exact absurd hbu h.start_ok, by rw [hb0]; exact Nat.le_refl _, hB1⟩)
    clear h hG hrow hfr hW1 hb0 hB1 hk1 hbu
    go_enter Try.func31, Try.ntmps31
    go_upto_region 2 with (fail)
    rw [← HW.out.2]
    change Code.wp _ _ _ _ (w.alloc (.cells (arrB (List.replicate N false)) 4))
    rw [← HW.out.1]
    go_wp2_with fail
    go_ret
    exact FIN.out
  · have g0 : ((fr : Int) == but) = false := by simpa using hbu
    have y0 := hk1.get fr (.bool false) (by rw [arrB_getD _ fr false (by simp; exact hfr)]; congr 2; rw [List.getD_eq_getElem?_getD, List.getElem?_replicate]; split <;> rfl)
    have y1 := hk1.free fr
    obtain ⟨W2, hW2⟩ : ∃ W, W = W1.setCell ⟨b0, fr, none⟩ (.bool true) := ⟨_, rfl⟩
    have hS2 : RS b0 N fr G but w ((List.replicate N false).set fr true) W2 := by
      rw [hW2]
      refine ⟨by rw [← arrB_set]; exact hk1.set fr _, by simp, fun y hy => ?_, ?_, hB1.setCell (p := ⟨b0, fr, none⟩) (by rw [hb0]; exact Nat.le_refl _) _, by rw [hb0]; exact Nat.le_refl _⟩
      · rw [getB_set _ _ _ (by simp; exact hfr)] at hy
        by_cases e : fr = y
        · rw [← e]; exact .refl _ hbu
        · rw [if_neg e, List.getD_eq_getElem?_getD, List.getElem?_replicate] at hy
          split at hy <;> simp at hy
      · rw [getB_set _ _ _ (by simp; exact hfr), if_pos rfl]
    have HST := Lib.hid (show RO b0 N fr G but w (N + 1) (.bool true) W2 from ⟨_, true, rfl, hS2, (fun e => absurd e (by decide)), (fun _ => by have := cf_le ((List.replicate N false).set fr true); simp at this; omega)⟩)
    have HW2 := Lib.hid hW2
    clear h hG hrow hfr hW1 hb0 hB1 hk1 hbu hW2 hS2
    go_enter Try.func31, Try.ntmps31
    go_upto_region 2 with (fail)
    rw [← HW.out.2]
    change Code.wp _ _ _ _ (w.alloc (.cells (arrB (List.replicate N false)) 4))
    rw [← HW.out.1]
    go_upto_region 5 with (fail)
    change Code.wp _ _ _ _ (W1.setCell ⟨b0, fr, none⟩ (.bool true))
    rw [← HW2.out]
    clear y0 y1 HW2
    go_wp2_with fail
    go_loopg [8] (N + 1) (fun gk mv W => RO b0 N fr G but w gk mv W)
    case atStart => exact HST.out
    case round =>
      obtain ⟨bs0, m, rfl, hS, hf, ht⟩ := hrel
      cases m
      · have FIN := Lib.hid (show ReachT w N fr G but wr (.returned (.slice (some ⟨b0, 0, none⟩) N N)) from ⟨b0, bs0, rfl, hS.kb, hS.ln, hf rfl, hS.lo, hS.be⟩)
        clear hS hf ht HST
        go_wp2_with fail
        go_ret
        exact FIN.out
      · have HS := Lib.hid (And.intro hS (ht rfl))
        have HR := Lib.hid (show R2 b0 N fr G but w bs0 (.bool false) (I 0) wr from ⟨0, bs0, false, Nat.zero_le _, rfl, rfl, hS, Nat.le_refl _, (fun e => absurd e (by decide)), (fun _ => ⟨rfl, fun a ha => absurd ha (by omega)⟩)⟩)
        clear hS hf ht HST
        go_wp2_with fail
        go_loopw [8, 32] (fun mv pv W => R2 b0 N fr G but w bs0 mv pv W) (fun _ pv _ => N - (intOf pv).toNat)
        case atStart => exact HR.out
        case round =>
          obtain ⟨p, bs, m, hp, rfl, rfl, hS, hle, ht, hf⟩ := hrel
          by_cases hpn : p < N
          · have hgb := HH.out.1.below hS.be
            obtain ⟨rv, c0, hrv⟩ := hgb.row p (by rw [hGl]; exact hpn)
            obtain ⟨L, hL⟩ : ∃ L, L = (row G p).length := ⟨_, rfl⟩
            obtain ⟨ra, rc, rfl⟩ : ∃ a c, rv = .slice a L c := by
              rcases hrv with ⟨e, e2⟩ | ⟨g, c, e, _⟩
              · exact ⟨_, _, by rw [e, hL, e2]; rfl⟩
              · exact ⟨_, _, by rw [e, hL]⟩
            have hLb : (L : Int) ≤ 1000 := by have := HH.out.2.2.2.1 p; omega
            have e0 : decide (p < N) = true := by simpa using hpn
            have e1 : (0 : Int) ≤ (p : Int) := by omega
            have e2 : (p : Int) < (N : Int) := by omega
            have e3 : (p : Int) ≤ 1000 := by omega
            have HR3 := Lib.hid (show R3 b0 N fr G but w bs0 p (.bool m) (I 0) wr from ⟨0, bs, m, Nat.zero_le _, rfl, rfl, hS, hle, ht, fun e => ⟨(hf e).1, (hf e).2, fun _ b hb => absurd hb (by simp)⟩⟩)
            have hrw : RowB w.heap.size w (.slice ra L rc) (row G p) ∨ True := Or.inr trivial
            have HP := Lib.hid (And.intro hL (And.intro hpn (show ∀ j (h : j < (row G p).length), ∃ g, ra = some ⟨g, 0, none⟩ ∧ g < w.heap.size ∧ w.cell? ⟨g, j, none⟩ = some (I (((row G p)[j] : Nat) : Int)) from fun j hj => by
              obtain ⟨rv', c0', hrv'⟩ := HH.out.1.row p (by rw [hGl]; exact hpn)
              have h1 := cell_belowB hS.be HH.out.1.lt c0'
              rw [c0] at h1
              cases h1
              rcases hrv' with ⟨_, h2⟩ | ⟨g, c, e, h2, h3⟩
              · rw [h2] at hj; exact absurd hj (by simp)
              · cases e; exact ⟨g, rfl, h2, h3 j hj⟩)))
            clear hgb hrv hL hpn hrw hS hle ht hf hp HR
            go_wp2_with fail
            go_loopw [8, 39] (fun mv jv W => R3 b0 N fr G but w bs0 p mv jv W) (fun _ jv _ => L - (intOf jv).toNat)
            case atStart => exact HR3.out
            case round =>
              obtain ⟨j, bs, m, hj, rfl, rfl, hS, hle, ht, hf⟩ := hrel
              by_cases hjl : j < L
              · have hjr : j < (row G p).length := by rw [← HP.out.1]; exact hjl
                obtain ⟨g, hra, hgl, c1w⟩ := HP.out.2.2 j hjr
                subst hra
                obtain ⟨x, hx⟩ : ∃ x, x = (row G p)[j] := ⟨_, rfl⟩
                rw [← hx] at c1w
                have c1 := cell_belowB hS.be hgl c1w
                have hxN : x < N := by rw [hx, ← hGl]; exact HH.out.2.1 p _ (List.getElem_mem hjr)
                have hxm : x ∈ row G p := by rw [hx]; exact List.getElem_mem hjr
                have htk : (row G p).take (j + 1) = (row G p).take j ++ [x] := by rw [List.take_add_one, List.getElem?_eq_getElem hjr, hx]; rfl
                obtain ⟨A, hA⟩ : ∃ A, A = bs.getD p false := ⟨_, rfl⟩
                obtain ⟨B, hB⟩ : ∃ B, B = bs.getD x false := ⟨_, rfl⟩
                have y0 := hS.kb.get p (.bool A) (by rw [hA]; exact arrB_getD bs p false (by rw [hS.ln]; exact HP.out.2.1))
                have y1 := hS.kb.get x (.bool B) (by rw [hB]; exact arrB_getD bs x false (by rw [hS.ln]; exact hxN))
                have y2 := hS.kb.free x
                have f0 : decide (j < L) = true := by simpa using hjl
                have f1 : (0 : Int) ≤ (j : Int) := by omega
                have f2 : (j : Int) < (L : Int) := by omega
                have f3 : (0 : Int) ≤ (x : Int) := by omega
                have f4 : (x : Int) < (N : Int) := by omega
                have f5 : (j : Int) ≤ 1000 := by omega
                have HX := Lib.hid (And.intro hjr (And.intro hS (And.intro hle (And.intro ht (And.intro hf (And.intro hA (And.intro hB (And.intro hxm (And.intro htk hxN)))))))))
                -- nothing is turned where one of the three tests fails
                have HSAME := Lib.hid (show (A = false ∨ ¬ okN but x ∨ B = true) → R3 b0 N fr G but w bs0 p (.bool m) (I ((j : Int) + 1)) wr from fun hno => ⟨j + 1, bs, m, hjr, rfl, rfl, hS, hle, ht, fun e => by
                  obtain ⟨q1, q2, q3⟩ := hf e
                  refine ⟨q1, q2, fun hp b hb hok => ?_⟩
                  rw [htk] at hb
                  rcases List.mem_append.1 hb with h1 | h1
                  · exact q3 hp b h1 hok
                  · obtain rfl : b = x := List.mem_singleton.1 h1
                    rw [← q1] at hp ⊢
                    rcases hno with h2 | h2 | h2
                    · rw [← hA, h2] at hp; cases hp
                    · exact absurd hok h2
                    · rw [← hB]; exact h2⟩)
                have HYES := Lib.hid (show A = true → okN but x → B = false → R3 b0 N fr G but w bs0 p (.bool true) (I ((j : Int) + 1)) (wr.setCell ⟨b0, x, none⟩ (.bool true)) from fun h1 h2 h3 =>
                  have hlt : cf (bs.set x true) < cf bs := cf_set bs x (by rw [hS.ln]; exact hxN) (by rw [← hB]; exact h3)
                  ⟨j + 1, bs.set x true, true, hjr, rfl, rfl, hS.set hxN (.step (hS.so p (by rw [← hA]; exact h1)) hxm h2), by omega, (fun _ => by omega), (fun e => absurd e (by decide))⟩)
                clear hx hxN hxm htk hA hB hjr hjl hS hle ht hf hj hgl c1w
                cases A
                · have HN := Lib.hid (HSAME.out (Or.inl rfl))
                  clear HSAME HYES
                  go_wp2_with fail
                  exact ⟨HN.out, by have h1 := HX.out.1; have h2 := HP.out.1; simp [intOf]; omega⟩
                · by_cases hxb : (x : Int) = but
                  · have g1 : ((x : Int) != but) = false := by simpa using hxb
                    have HN := Lib.hid (HSAME.out (Or.inr (Or.inl (fun h => h hxb))))
                    clear HSAME HYES hxb
                    go_wp2_with fail
                    exact ⟨HN.out, by have h1 := HX.out.1; have h2 := HP.out.1; simp [intOf]; omega⟩
                  · have g1 : ((x : Int) != but) = true := by simpa using hxb
                    cases B
                    · have HN := Lib.hid (HYES.out rfl hxb rfl)
                      clear HSAME HYES hxb
                      go_wp2_with fail
                      exact ⟨HN.out, by have h1 := HX.out.1; have h2 := HP.out.1; simp [intOf]; omega⟩
                    · have HN := Lib.hid (HSAME.out (Or.inr (Or.inr rfl)))
                      clear HSAME HYES hxb
                      go_wp2_with fail
                      exact ⟨HN.out, by have h1 := HX.out.1; have h2 := HP.out.1; simp [intOf]; omega⟩
              · have f0 : decide (j < L) = false := by simpa using hjl
                have hte : (row G p).take j = row G p := List.take_of_length_le (by rw [← HP.out.1]; omega)
                have HN := Lib.hid (show R2 b0 N fr G but w bs0 (.bool m) (I ((p : Int) + 1)) wr from ⟨p + 1, bs, m, HP.out.2.1, rfl, rfl, hS, hle, ht, fun e => by
                  obtain ⟨q1, q2, q3⟩ := hf e
                  refine ⟨q1, fun a ha => ?_⟩
                  rcases Nat.lt_or_ge a p with h1 | h1
                  · exact q2 a h1
                  · obtain rfl : a = p := by omega
                    rw [hte] at q3
                    exact q3⟩)
                clear hjl hte hS hle ht hf hj
                go_wp2_with fail
                exact ⟨HN.out, by have h1 := HP.out.2.1; simp [intOf]; omega⟩
          · have e0 : decide (p < N) = false := by simpa using hpn
            have HN := Lib.hid (show RO b0 N fr G but w (cf bs0) (.bool m) wr from ⟨bs, m, rfl, hS, (fun e => by
              obtain ⟨q1, q2⟩ := hf e
              rw [q1]
              rw [q1] at hS
              refine reach_done hS.so hS.ff (fun a ha => q2 a ?_ ha)
              rcases Nat.lt_or_ge a N with h1 | h1
              · omega
              · rw [List.getD_eq_getElem?_getD, List.getElem?_eq_none (by rw [hS.ln]; exact h1)] at ha
                cases ha), ht⟩)
            have HM := Lib.hid HS.out.2
            clear hpn hS hle ht hf hp HR
            go_wp2_with fail
            go_roundg (cf bs0)
            case rel => exact HN.out
            case measure => exact HM.out
namespace Fl
theorem av_all {G : List (List Nat)} {a b : Nat} : Av (EG G) (okN (-1)) a b ↔ Av (EG G) (fun _ => True) a b := by
  constructor
  · intro h
    exact h.mono fun _ _ => trivial
  · intro h
    exact h.mono fun x _ => by unfold okN; omega
end Fl
end Go.Proofs.Ytjlmkcamefaodaa
