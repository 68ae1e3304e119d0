/-
  A graph of one's own: the walks of Twin and tame.
-/
import Derived.Test.YtomfmkddfgpmkaaFSames
import Derived.Laws.AppendOwnNone
import Derived.Maps.AppendAt
import Derived.Deep.AppendSrc
namespace Go.Proofs.Ytomfmkddfgpmkaa
open Go Go.RowKit Fl

abbrev NumZ (w : World) (base : Nat) (v : Value) (l : List Int) : Prop := w.ownsRow base 3 1 v l.length (l.map (Value.int .i64))
/-- A graph of one's own, in memory. -/
def OwnG (base : Nat) (Z : List (List Int)) (v : Value) (W : World) : Prop :=
  ∃ vs : List Value, vs.length = Z.length ∧ W.ownsRow base 25 1 v Z.length vs ∧ ∀ i (h : i < Z.length) (h' : i < vs.length), NumZ W base vs[i] Z[i] ∧ (vs[i].ownBlock = none ∨ vs[i].ownBlock ≠ v.ownBlock)
theorem OwnG.below {base : Nat} {Z : List (List Int)} {v : Value} {W W' : World} (h : OwnG base Z v W) (hb : Below W.heap.size W W') : OwnG base Z v W' := by
  obtain ⟨vs, h1, h2, h3⟩ := h
  exact ⟨vs, h1, own_below h2 hb, fun i hi hi' => ⟨own_below (h3 i hi hi').1 hb, (h3 i hi hi').2⟩⟩
theorem OwnG.lower {base base' : Nat} {Z : List (List Int)} {v : Value} {W : World} (h : OwnG base Z v W) (hb : base' ≤ base) : OwnG base' Z v W := by
  obtain ⟨vs, h1, h2, h3⟩ := h
  exact ⟨vs, h1, own_lower hb h2, fun i hi hi' => ⟨own_lower hb (h3 i hi hi').1, (h3 i hi hi').2⟩⟩
theorem OwnG.start (base : Nat) (W : World) : OwnG base [] (.slice none 0 0) W := ⟨[], rfl, World.ownsRow_nil _ _ _ _, fun i hi => absurd hi (by simp)⟩
theorem numZ_row {w : World} {base : Nat} {v : Value} {l : List Int} (h : NumZ w base v l) : RowZ w v l := by
  rcases own_slice h with ⟨e, e2⟩ | ⟨g, c, e⟩
  · have : l = [] := List.length_eq_zero_iff.1 e2
    subst this
    exact ⟨none, 0, e, fun j hj => absurd hj (by simp)⟩
  · refine ⟨some ⟨g, 0, none⟩, c, e, fun j hj => ?_⟩
    rw [e] at h
    refine ⟨g, rfl, (h.lt g rfl).2, ?_⟩
    rw [h.cellAt j (by omega), List.getElem?_map, List.getElem?_eq_getElem hj]
    rfl
theorem OwnG.gz {base : Nat} {Z : List (List Int)} {v : Value} {W : World} (h : OwnG base Z v W) : GZ W v Z := by
  obtain ⟨vs, h1, h2, h3⟩ := h
  rcases own_slice h2 with ⟨e, e2⟩ | ⟨g, c, e⟩
  · have : Z = [] := List.length_eq_zero_iff.1 e2
    subst this
    exact ⟨none, 0, e, fun j hj => absurd hj (by simp)⟩
  · refine ⟨some ⟨g, 0, none⟩, c, e, fun j hj => ?_⟩
    rw [e] at h2
    have hj' : j < vs.length := by omega
    refine ⟨g, vs[j], rfl, (h2.lt g rfl).2, ?_, numZ_row (h3 j hj hj').1⟩
    rw [h2.cellAt j (by omega), List.getElem?_eq_getElem hj']
/-- One row more. -/
theorem OwnG.app {base : Nat} {Z : List (List Int)} {v u nv : Value} {W W4 : World} {o : Obj} {l : List Int} (h : OwnG base Z v W) (hn : NumZ W base nv l) (hne : nv.ownBlock = none ∨ nv.ownBlock ≠ v.ownBlock) (hg : (W.alloc o).grownBy W4 v.ownBlock)
    (ho : ∀ vs : List Value, vs.length = Z.length → W.ownsRow base 25 1 v Z.length vs → W4.ownsRow base 25 1 u (Z.length + 1) (vs ++ [nv])) (hat : u.ownBlock = v.ownBlock ∨ u.ownBlock = some (W.alloc o).heap.size) : OwnG base (Z ++ [l]) u W4 := by
  obtain ⟨vs, h1, h2, h3⟩ := h
  have hap : ∀ {x : Value} {l : List Int}, NumZ W base x l → (x.ownBlock = none ∨ x.ownBlock ≠ v.ownBlock) → NumZ W4 base x l ∧ (x.ownBlock = none ∨ x.ownBlock ≠ u.ownBlock) := fun {x l} hx hxn => by
    refine ⟨World.ownsRow.kept (hx.alloc o) hg hxn, ?_⟩
    rcases hat with e | e
    · rw [e]; exact hxn
    · cases hxb : x.ownBlock with
      | none => exact Or.inl rfl
      | some g =>
        right
        rw [e]
        have := (hx.lt g hxb).2
        simp
        omega
  refine ⟨vs ++ [nv], by simp [h1], ?_, fun i hi hi' => ?_⟩
  · rw [List.length_append]
    exact ho vs h1 h2
  · by_cases hl : i < Z.length
    · rw [List.getElem_append_left (by omega), List.getElem_append_left hl]
      exact hap (h3 i hl (by omega)).1 (h3 i hl (by omega)).2
    · have e : i = Z.length := by simp at hi; omega
      subst e
      rw [List.getElem_append_right (by omega), List.getElem_append_right (by omega)]
      simp only [h1, Nat.sub_self, List.getElem_singleton]
      exact hap hn hne

/-- Nothing more. -/
theorem wpList_append_nil0 {P : Program} {w : World} {ops : Array Oper} {rest : List Oper} {o : Oper} {a : Act} {Q : Exit → Act → World → Prop} (hgd : o.guard = none) (s x : Operand) (t : TypeId)
    (ho : o.op = .call { callee := .builtin .append, args := #[s, x], argTypes := #[t, t] }) (e : TypeId) (i : TypeInfo) (ht : P.underlying t = some (.slice e)) (hi : P.info? e = some i) (b n cap c : Nat) (hc : n ≤ cap)
    (hs : a.eval s = .slice (some ⟨b, 0, none⟩) n cap) (hx : a.eval x = .slice none 0 c) (h : wpList P ops Q rest (a.put o.dst (.slice (some ⟨b, 0, none⟩) n cap)) w) : wpList P ops Q (o :: rest) a w := by
  refine wpList_plain hgd fun K hK => ?_
  have hrun := run_append_room_src (P := P) w t t o.type e i ht hi b 0 n cap (.slice none 0 c) 0 [] (Src.ofNil w ht c) (by omega) (by simp) (by simp)
  have e0 : w.setCells b (0 + n * i.size) [] = w := rfl
  rw [e0] at hrun
  unfold Oper.wp
  simp [execOp, ho, resolve, invoke, builtin, hs, hx, hrun, Result.andThen]
  exact hK _ _ h
theorem own_zero {w : World} {base E b : Nat} (hb : w.heap[b]? = some (.cells #[] E (0, 0))) (hl : base ≤ b) : w.ownsRow base E 1 (.slice (some ⟨b, 0, none⟩) 0 0) 0 [] :=
  ⟨rfl, .inr ⟨b, 0, #[], rfl, hl, hb, Nat.le_refl _, Nat.zero_le _, rfl, rfl⟩⟩
theorem own_block_some {w : World} {base E size n b : Nat} {v : Value} {xs : List Value} (h : w.ownsRow base E size v n xs) (hv : v.ownBlock = some b) : ∃ c, v = .slice (some ⟨b, 0, none⟩) n c := by
  rcases own_slice h with ⟨e, _⟩ | ⟨g, c, e⟩
  · rw [e] at hv; cases hv
  · rw [e] at hv; cases hv; exact ⟨c, e⟩
theorem info_sl' : (Try.prog.info? 25).map (fun i => (i.zero, i.size, i.bytes)) = some (some (.slice none 0 0), 1, 24) := by kernel_rfl
theorem take_all {Z : List (List Int)} {k : Nat} (h : ∀ i (h : i < Z.length), Z[i].length ≤ k) : Z.map (fun l => l.take k) = Z := by
  apply List.ext_getElem
  · simp
  · intro i h1 h2
    rw [List.getElem_map, List.take_of_length_le (h i h2)]
theorem own_same' {w : World} {base E size n : Nat} {v : Value} {xs ys : List Value} (h : w.ownsRow base E size v n xs) (h' : w.ownsRow base E size v n ys) : xs = ys := by
  rcases h.2 with ⟨h1, h2⟩ | ⟨g, cap, cur, hv, _, hb, _, _, _, ht⟩
  · have e1 := h.1
    have e2 := h'.1
    rw [h2, Nat.zero_mul] at e1 e2
    rw [List.length_eq_zero_iff.1 e1, List.length_eq_zero_iff.1 e2]
  · rcases h'.2 with ⟨h1, _⟩ | ⟨g', cap', cur', hv', _, hb', _, _, _, ht'⟩
    · rw [hv] at h1; cases h1
    · rw [hv] at hv'
      cases hv'
      rw [hb] at hb'
      cases hb'
      rw [← ht, ← ht']
theorem belowB {w wo W : World} (h : Below w.heap.size w wo) (hb : Below wo.heap.size wo W) : Below w.heap.size w W :=
  ⟨hb.os.trans h.os, hb.tape.trans h.tape, hb.output.trans h.output, Nat.le_trans h.size hb.size, fun k hk => (hb.block k (Nat.lt_of_lt_of_le hk h.size)).trans (h.block k hk)⟩
theorem add_block (a : Addr) (j : Nat) : (a.add j).block = a.block := by unfold Addr.add; split <;> rfl
/-- After some rows. -/
def TwR (w : World) (Z : List (List Int)) (cut : Nat) (ov iv : Value) (W : World) : Prop :=
  ∃ j : Nat, j ≤ Z.length ∧ iv = I (j : Int) ∧ OwnG w.heap.size ((Z.take j).map (fun l => l.take cut)) ov W ∧ Below w.heap.size w W

set_option maxRecDepth 100000 in
set_option maxHeartbeats 800000 in
theorem Twin_any (v : Value) (Z : List (List Int)) (ht : Z.length ≤ 1000 ∧ ∀ i (h : i < Z.length), Z[i].length ≤ 1000) (w : World) (h : GZ w v Z) :
    Calls Try.prog 10 #[v] w fun e w' => ∃ u, e = .returned u ∧ OwnG w.heap.size Z u w' ∧ Below w.heap.size w w' := by
  obtain ⟨i0, hi, hz0, hz1, hz2⟩ := info_parts info_int'
  have HI := Lib.hid (And.intro hi (And.intro hz0 (And.intro hz1 hz2)))
  clear hi hz0 hz1 hz2
  obtain ⟨i1, hi, hz0, hz1, hz2⟩ := info_parts info_sl'
  have HI1 := Lib.hid (And.intro hi (And.intro hz0 (And.intro hz1 hz2)))
  clear hi hz0 hz1 hz2
  obtain ⟨ga, cap, rfl, h⟩ := h
  obtain ⟨n, hn⟩ : ∃ n, n = Z.length := ⟨_, rfl⟩
  have HH := Lib.hid (And.intro h (And.intro ht hn))
  have hnb : n ≤ 1000 := by omega
  rw [← hn]
  clear h ht hn
  go_enter Try.func10, Try.ntmps10
  go_wp2_with fail
  go_loopw [3, 8] (fun ov iv W => TwR w Z 1000 ov iv W) (fun _ iv _ => n - (intOf iv).toNat)
  case atStart => exact ⟨0, Nat.zero_le _, rfl, OwnG.start _ _, Below.refl _ _⟩
  case round =>
    obtain ⟨j, hj, rfl, hown, hbe⟩ := hrel
    have H1 := Lib.hid (And.intro hown hbe)
    by_cases hjn : j < n
    · have hjZ : j < Z.length := by have := HH.out.2.2; omega
      obtain ⟨bg, rv, rfl, hgl, c0w, ra, rc, rfl, hrw⟩ := HH.out.1 j hjZ
      have c0 := cell_below hbe hgl c0w
      have hrw' := (show RowZ w (.slice ra Z[j].length rc) Z[j] from ⟨ra, rc, rfl, hrw⟩).below hbe
      have hLb := HH.out.2.1.2 j hjZ
      have hZj : Z[j]? = some Z[j] := List.getElem?_eq_getElem hjZ
      obtain ⟨l, hl⟩ : ∃ l, l = Z[j] := ⟨_, rfl⟩
      rw [← hl] at c0 hrw' hLb hZj
      obtain ⟨L, hL⟩ : ∃ L, L = l.length := ⟨_, rfl⟩
      rw [← hL] at c0 hLb
      have HL := Lib.hid (And.intro hL (And.intro hLb (And.intro hZj (And.intro hjn hrw'))))
      have d0 : decide (j < n) = true := by simpa using hjn
      have d1 : (0 : Int) ≤ (j : Int) := by omega
      have d2 : (j : Int) < (n : Int) := by omega
      clear hown hbe hjn hgl c0w hrw hrw' hL hLb hZj hl hj
      go_wp2_with (first | (at_builtin; refine Hid.out ?_) | go_in)
      unfold Hid
      obtain ⟨W1, hW1⟩ : ∃ W, W = wr.alloc (.cells #[] 3) := ⟨_, rfl⟩
      obtain ⟨b1, hb1⟩ : ∃ b, b = wr.heap.size := ⟨_, rfl⟩
      have hz1 : W1.ownsRow b1 3 1 (.slice (some ⟨b1, 0, none⟩) 0 0) 0 [] := own_zero (by rw [hb1, hW1]; exact Blk.new _ _ _) (Nat.le_refl _)
      have hB1 : Below wr.heap.size wr W1 := by rw [hW1]; exact (Below.refl _ _).alloc (Nat.le_refl _) _
      change wpList _ _ _ _ _ (wr.alloc (.cells #[] 3))
      rw [← hW1, ← hb1]
      have HW := Lib.hid (And.intro hW1 (And.intro hb1 (And.intro hz1 hB1)))
      clear hW1 hb1 hz1 hB1
      cases ra with
      | none =>
        have hL0 : l = [] := by
          cases l with
          | nil => rfl
          | cons y l' =>
            obtain ⟨a', c', e, h1⟩ := HL.out.2.2.2.2
            obtain ⟨g, h2, _⟩ := h1 0 (by simp)
            rw [h2] at e
            cases e
        subst hL0
        obtain rfl : L = 0 := HL.out.1
        refine wpList_append_nil0 rfl _ _ 25 rfl 3 i0 Try.underlying25 HI.out.1 b1 0 0 rc (Nat.le_refl _) rfl rfl ?_
        obtain ⟨v1, hv1⟩ : ∃ v : Value, v = .slice (some ⟨b1, 0, none⟩) 0 0 := ⟨_, rfl⟩
        obtain ⟨W2, hW2⟩ : ∃ W, W = W1 := ⟨_, rfl⟩
        have ho1 : W2.ownsRow b1 3 1 v1 0 (([] : List Int).map (Value.int .i64)) := by rw [hW2, hv1]; exact HW.out.2.2.1
        have hg1 : W1.grownBy W2 (some b1) := by rw [hW2]; exact ⟨rfl, rfl, rfl, Nat.le_refl _, fun _ _ _ => rfl⟩
        have hat1 : v1.ownBlock = some b1 ∨ v1.ownBlock = some W1.heap.size := Or.inl (by rw [hv1]; rfl)
        rw [← hv1, ← hW2]
        clear hv1 hW2
        obtain ⟨l, hl0⟩ : ∃ l : List Int, l = [] := ⟨_, rfl⟩
        obtain ⟨L, hL0⟩ : ∃ L : Nat, L = 0 := ⟨_, rfl⟩
        rw [← hl0, ← hL0] at HL
        rw [← hL0, ← hl0] at ho1
        clear hl0 hL0
        obtain ⟨g1, c1', hv1⟩ : ∃ g c, v1 = .slice (some ⟨g, 0, none⟩) L c := by
          rcases hat1 with e | e
          · obtain ⟨c, hc⟩ := own_block_some ho1 e; exact ⟨_, c, hc⟩
          · obtain ⟨c, hc⟩ := own_block_some ho1 e; exact ⟨_, c, hc⟩
        have hB2 : Below wr.heap.size wr W2 := HW.out.2.2.2.grown hg1 HW.out.2.2.2.size (fun k hk => by cases hk; rw [HW.out.2.1]; exact Nat.le_refl _)
        have hO2 := H1.out.1.below hB2
        have hb12 : wr.heap.size ≤ g1 := by
          have h1 := (ho1.lt g1 (by rw [hv1]; rfl)).1
          rw [HW.out.2.1] at h1
          exact h1
        have hN2 : NumZ W2 w.heap.size v1 l := by
          have h1 : W2.ownsRow b1 3 1 v1 l.length (l.map (Value.int .i64)) := by rw [← HL.out.1]; exact ho1
          exact own_lower (by rw [HW.out.2.1]; exact H1.out.2.size) h1
        have hu0 := H1.out.1
        obtain ⟨vs, q1, q2, q3⟩ := hO2
        obtain ⟨lj, hlj⟩ : ∃ k, k = ((Z.take j).map (fun l => l.take 1000)).length := ⟨_, rfl⟩
        have hljb : lj ≤ 1000 := by rw [hlj, List.length_map, List.length_take]; have := HL.out.2.2.2.1; omega
        have hne1 : v1.ownBlock = none ∨ v1.ownBlock ≠ u3.ownBlock := by
          right
          rw [hv1]
          intro e
          obtain ⟨vs0, z1, z2, z3⟩ := hu0
          have := (z2.lt g1 e.symm).2
          omega
        obtain ⟨s3, m3, k3, hu3⟩ : ∃ a m c, u3 = .slice a m c := by
          rcases own_slice q2 with ⟨h, _⟩ | ⟨g, cap, h⟩
          · exact ⟨_, _, _, h⟩
          · exact ⟨_, _, _, h⟩
        rw [← hlj] at q2
        have H2 := Lib.hid (And.intro hB2 (And.intro hN2 (And.intro hne1 (And.intro hlj (And.intro hljb (And.intro q2 (H1.out.1.below hB2)))))))
        rw [hv1, hu3] at H2
        subst hv1 hu3
        clear hB2 hN2 hne1 hlj hljb q1 q2 q3 hb12 hu0 ho1 hg1 hat1
        go_wp2_with (first | (at_builtin; refine Hid.out ?_) | go_in)
        unfold Hid
        refine wpList_append_own_at _ rfl _ _ 22 rfl w.heap.size 25 i1 (.slice none 0 0) 1 24 Try.underlying22 HI1.out.1 HI1.out.2.1 HI1.out.2.2.1 HI1.out.2.2.2 rfl (by decide) (.slice s3 m3 k3) lj vs rfl (H2.out.2.2.2.2.2.1.alloc _) ⟨W2.heap.size, 0, none⟩ 1 1 [.slice (some ⟨g1, 0, none⟩) L c1'] rfl rfl (cell_one_new _ _ _) (by simp [Value.oneCell']) (by have := H2.out.2.2.2.2.1; unfold maxLen; omega) (by have := H2.out.2.2.2.2.1; omega) (by have h1 := H2.out.1.size; have h2 := H1.out.2.size; simp; omega) ?_
        intro v' w4 ho hg _ hat
        have HN := Lib.hid (show TwR w Z 1000 v' (I ((j : Int) + 1)) w4 by
          refine ⟨j + 1, by have h1 := HH.out.2.2; have h2 := HL.out.2.2.2.1; omega, rfl, ?_, ?_⟩
          · have e1 : (Z.take (j + 1)).map (fun l => l.take 1000) = (Z.take j).map (fun l => l.take 1000) ++ [l] := by
              rw [List.take_add_one, HL.out.2.2.1, List.map_append]
              have e2 : l.take 1000 = l := List.take_of_length_le (by have h1 := HL.out.1; have h2 := HL.out.2.1; omega)
              simp [e2]
            rw [e1]
            refine OwnG.app H2.out.2.2.2.2.2.2 H2.out.2.1 H2.out.2.2.1 hg (fun vs' _ h2 => ?_) hat
            rw [← H2.out.2.2.2.1] at h2 ⊢
            rw [own_same' h2 H2.out.2.2.2.2.2.1]
            exact ho
          · have hw2 := belowB H1.out.2 H2.out.1
            exact (hw2.alloc hw2.size _).grown hg (by have := hw2.size; simp; omega) (fun k hk => (H2.out.2.2.2.2.2.1.lt k hk).1))
        clear ho hg hat
        go_wp2_with fail
        exact ⟨HN.out, by have h2 := HL.out.2.2.2.1; simp [intOf]; omega⟩
      | some ga =>
        have hnews : ∀ q u, (l.map (Value.int .i64))[q]? = some u → wr.cell? (ga.add q) = some u := fun q u hq => by
          have hql : q < l.length := by have := (List.getElem?_eq_some_iff.1 hq).1; simpa using this
          obtain ⟨a', c', e, h1⟩ := HL.out.2.2.2.2
          obtain ⟨g, h2, _, h3⟩ := h1 q hql
          rw [h2] at e
          cases e
          rw [List.getElem?_map, List.getElem?_eq_getElem hql] at hq
          have hq' : I l[q] = u := by simpa using hq
          rw [show (⟨g, 0, none⟩ : Addr).add q = ⟨g, q, none⟩ by unfold Addr.add; split <;> simp_all, ← hq']
          exact h3
        have hnews1 : ∀ q u, (l.map (Value.int .i64))[q]? = some u → W1.cell? (ga.add q) = some u := fun q u hq => by
          have h1 := hnews q u hq
          have h2 : ga.block < wr.heap.size := by
            have := block_lt_of_cell h1
            rw [add_block] at this
            exact this
          unfold World.cell? at h1 ⊢
          rw [HW.out.2.2.2.block _ (by rw [add_block]; exact h2)]
          exact h1
        have HNW := Lib.hid hnews1
        clear hnews hnews1
        refine wpList_append_own_at _ rfl _ _ 25 rfl b1 3 i0 (I 0) 1 8 Try.underlying25 HI.out.1 HI.out.2.1 HI.out.2.2.1 HI.out.2.2.2 rfl (by decide) (.slice (some ⟨b1, 0, none⟩) 0 0) 0 [] rfl HW.out.2.2.1 ga L rc (l.map (Value.int .i64)) rfl (by rw [List.length_map, HL.out.1, Nat.mul_one]) HNW.out (fun u hu => by obtain ⟨x, _, rfl⟩ := List.mem_map.1 hu; rfl) (by have := HL.out.2.1; unfold maxLen; omega) (by have := HL.out.2.1; omega) (by rw [HW.out.2.1]; exact HW.out.2.2.2.size) ?_
        intro v1 W2 ho1 hg1 _ hat1
        rw [Nat.zero_add, List.nil_append] at ho1
        obtain ⟨g1, c1', hv1⟩ : ∃ g c, v1 = .slice (some ⟨g, 0, none⟩) L c := by
          rcases hat1 with e | e
          · obtain ⟨c, hc⟩ := own_block_some ho1 e; exact ⟨_, c, hc⟩
          · obtain ⟨c, hc⟩ := own_block_some ho1 e; exact ⟨_, c, hc⟩
        have hB2 : Below wr.heap.size wr W2 := HW.out.2.2.2.grown hg1 HW.out.2.2.2.size (fun k hk => by cases hk; rw [HW.out.2.1]; exact Nat.le_refl _)
        have hO2 := H1.out.1.below hB2
        have hb12 : wr.heap.size ≤ g1 := by
          have h1 := (ho1.lt g1 (by rw [hv1]; rfl)).1
          rw [HW.out.2.1] at h1
          exact h1
        have hN2 : NumZ W2 w.heap.size v1 l := by
          have h1 : W2.ownsRow b1 3 1 v1 l.length (l.map (Value.int .i64)) := by rw [← HL.out.1]; exact ho1
          exact own_lower (by rw [HW.out.2.1]; exact H1.out.2.size) h1
        have hu0 := H1.out.1
        obtain ⟨vs, q1, q2, q3⟩ := hO2
        obtain ⟨lj, hlj⟩ : ∃ k, k = ((Z.take j).map (fun l => l.take 1000)).length := ⟨_, rfl⟩
        have hljb : lj ≤ 1000 := by rw [hlj, List.length_map, List.length_take]; have := HL.out.2.2.2.1; omega
        have hne1 : v1.ownBlock = none ∨ v1.ownBlock ≠ u3.ownBlock := by
          right
          rw [hv1]
          intro e
          obtain ⟨vs0, z1, z2, z3⟩ := hu0
          have := (z2.lt g1 e.symm).2
          omega
        obtain ⟨s3, m3, k3, hu3⟩ : ∃ a m c, u3 = .slice a m c := by
          rcases own_slice q2 with ⟨h, _⟩ | ⟨g, cap, h⟩
          · exact ⟨_, _, _, h⟩
          · exact ⟨_, _, _, h⟩
        rw [← hlj] at q2
        have H2 := Lib.hid (And.intro hB2 (And.intro hN2 (And.intro hne1 (And.intro hlj (And.intro hljb (And.intro q2 (H1.out.1.below hB2)))))))
        rw [hv1, hu3] at H2
        subst hv1 hu3
        clear hB2 hN2 hne1 hlj hljb q1 q2 q3 hb12 hu0 ho1 hg1 hat1
        go_wp2_with (first | (at_builtin; refine Hid.out ?_) | go_in)
        unfold Hid
        refine wpList_append_own_at _ rfl _ _ 22 rfl w.heap.size 25 i1 (.slice none 0 0) 1 24 Try.underlying22 HI1.out.1 HI1.out.2.1 HI1.out.2.2.1 HI1.out.2.2.2 rfl (by decide) (.slice s3 m3 k3) lj vs rfl (H2.out.2.2.2.2.2.1.alloc _) ⟨W2.heap.size, 0, none⟩ 1 1 [.slice (some ⟨g1, 0, none⟩) L c1'] rfl rfl (cell_one_new _ _ _) (by simp [Value.oneCell']) (by have := H2.out.2.2.2.2.1; unfold maxLen; omega) (by have := H2.out.2.2.2.2.1; omega) (by have h1 := H2.out.1.size; have h2 := H1.out.2.size; simp; omega) ?_
        intro v' w4 ho hg _ hat
        have HN := Lib.hid (show TwR w Z 1000 v' (I ((j : Int) + 1)) w4 by
          refine ⟨j + 1, by have h1 := HH.out.2.2; have h2 := HL.out.2.2.2.1; omega, rfl, ?_, ?_⟩
          · have e1 : (Z.take (j + 1)).map (fun l => l.take 1000) = (Z.take j).map (fun l => l.take 1000) ++ [l] := by
              rw [List.take_add_one, HL.out.2.2.1, List.map_append]
              have e2 : l.take 1000 = l := List.take_of_length_le (by have h1 := HL.out.1; have h2 := HL.out.2.1; omega)
              simp [e2]
            rw [e1]
            refine OwnG.app H2.out.2.2.2.2.2.2 H2.out.2.1 H2.out.2.2.1 hg (fun vs' _ h2 => ?_) hat
            rw [← H2.out.2.2.2.1] at h2 ⊢
            rw [own_same' h2 H2.out.2.2.2.2.2.1]
            exact ho
          · have hw2 := belowB H1.out.2 H2.out.1
            exact (hw2.alloc hw2.size _).grown hg (by have := hw2.size; simp; omega) (fun k hk => (H2.out.2.2.2.2.2.1.lt k hk).1))
        clear ho hg hat
        go_wp2_with fail
        exact ⟨HN.out, by have h2 := HL.out.2.2.2.1; simp [intOf]; omega⟩
    · have d0 : decide (j < n) = false := by simpa using hjn
      have FIN := Lib.hid (show OwnG w.heap.size Z u3 wr by
        have h1 := hown
        rw [List.take_of_length_le (by have := HH.out.2.2; omega), take_all (fun i hi => HH.out.2.1.2 i hi)] at h1
        exact h1)
      have HB := Lib.hid hbe
      clear hown hbe hjn hj
      go_wp2_with fail
      go_ret
      exact ⟨_, rfl, FIN.out, HB.out⟩
end Go.Proofs.Ytomfmkddfgpmkaa
