/-
  A graph made small: the walk of tame.
-/
import Derived.Test.YtomfmkddfgpmkaaFTwin
namespace Go.Proofs.Ytomfmkddfgpmkaa
open Go Go.RowKit Fl

/-- A row, wherever it lies. -/
def RowA (w : World) (v : Value) (l : List Int) : Prop := ∃ a c, v = .slice a l.length c ∧ ∀ j (h : j < l.length), ∃ b : Addr, a = some b ∧ b.block < w.heap.size ∧ w.cell? (b.add j) = some (I l[j])
/-- A graph, wherever it lies, with room where it says so. -/
def GZc (w : World) (v : Value) (Z : List (List Int)) : Prop := ∃ a c, v = .slice a Z.length c ∧ ∀ i (h : i < Z.length), ∃ (b : Addr) (rv : Value), a = some b ∧ b.block < w.heap.size ∧ w.cell? (b.add i) = some rv ∧ RowA w rv Z[i] ∧ ∃ a' n' c', rv = .slice a' n' c' ∧ n' ≤ c'
theorem cell_belowA {w w' : World} (h : Below w.heap.size w w') {a : Addr} {i : Nat} (ha : a.block < w.heap.size) {v : Value} (hc : w.cell? (a.add i) = some v) : w'.cell? (a.add i) = some v := by
  unfold World.cell? at hc ⊢
  rw [h.block _ (by rw [add_block]; exact ha)]
  exact hc
theorem RowA.below {w w' : World} {v : Value} {l : List Int} (h : RowA w v l) (hb : Below w.heap.size w w') : RowA w' v l := by
  obtain ⟨a, c, e, h⟩ := h
  refine ⟨a, c, e, fun j hj => ?_⟩
  obtain ⟨g, h1, h2, h3⟩ := h j hj
  exact ⟨g, h1, Nat.lt_of_lt_of_le h2 hb.size, cell_belowA hb h2 h3⟩
def tameF (Z : List (List Int)) : List (List Int) := (Z.take 24).map (fun l => l.take 6)
theorem take_min {α : Type} (l : List α) (k : Nat) : l.take (min l.length k) = l.take k := by
  by_cases h : l.length ≤ k
  · rw [Nat.min_eq_left h, List.take_of_length_le (Nat.le_refl _), List.take_of_length_le h]
  · rw [Nat.min_eq_right (by omega)]
def TaR (w : World) (Z : List (List Int)) (ov iv : Value) (W : World) : Prop :=
  ∃ j : Nat, j ≤ Z.length ∧ iv = I (j : Int) ∧ OwnG w.heap.size ((Z.take (min j 24)).map (fun l => l.take 6)) ov W ∧ Below w.heap.size w W

set_option maxRecDepth 100000 in
set_option maxHeartbeats 800000 in
theorem tame_any (v : Value) (Z : List (List Int)) (ht : Z.length ≤ 9223372036854775807 ∧ ∀ i (h : i < Z.length), Z[i].length ≤ 9223372036854775807) (w : World) (h : GZc w v Z) :
    Calls Try.prog 9 #[v] w fun e w' => ∃ u, e = .returned u ∧ OwnG w.heap.size (tameF Z) u w' ∧ Below w.heap.size w w' := by
  obtain ⟨i0, hi, hz0, hz1, hz2⟩ := info_parts info_int'
  have HI := Lib.hid (And.intro hi (And.intro hz0 (And.intro hz1 hz2)))
  clear hi hz0 hz1 hz2
  obtain ⟨i1, hi, hz0, hz1, hz2⟩ := info_parts info_sl'
  have HI1 := Lib.hid (And.intro hi (And.intro hz0 (And.intro hz1 hz2)))
  clear hi hz0 hz1 hz2
  obtain ⟨ga, cap, rfl, h⟩ := h
  obtain ⟨n, hn⟩ : ∃ n, n = Z.length := ⟨_, rfl⟩
  have HH := Lib.hid (And.intro h (And.intro ht hn))
  have hnb : (n : Int) ≤ 9223372036854775807 := by omega
  rw [← hn]
  clear h ht hn
  go_enter Try.func9, Try.ntmps9
  go_wp2_with fail
  go_loopw [3, 8] (fun ov iv W => TaR w Z ov iv W) (fun _ iv _ => n - (intOf iv).toNat)
  case atStart => exact ⟨0, Nat.zero_le _, rfl, OwnG.start _ _, Below.refl _ _⟩
  case round =>
    obtain ⟨j, hj, rfl, hown, hbe⟩ := hrel
    have H1 := Lib.hid (And.intro hown hbe)
    by_cases hjn : j < n
    · have hjZ : j < Z.length := by have := HH.out.2.2; omega
      obtain ⟨bg, rv, rfl, hgl, c0w, ⟨ra, rc, rfl, hrw⟩, hcap⟩ := HH.out.1 j hjZ
      have c0 := cell_belowA hbe hgl c0w
      have hrw' := (show RowA w (.slice ra Z[j].length rc) Z[j] from ⟨ra, rc, rfl, hrw⟩).below hbe
      have hcp : Z[j].length ≤ rc := by obtain ⟨_, _, _, e, h1⟩ := hcap; cases e; exact h1
      have hLb := HH.out.2.1.2 j hjZ
      have hZj : Z[j]? = some Z[j] := List.getElem?_eq_getElem hjZ
      obtain ⟨l0, hl⟩ : ∃ l, l = Z[j] := ⟨_, rfl⟩
      rw [← hl] at c0 hrw' hLb hZj hcp
      obtain ⟨K, hK⟩ : ∃ K, K = l0.length := ⟨_, rfl⟩
      rw [← hK] at c0 hLb hcp
      obtain ⟨l, hlt⟩ : ∃ l, l = l0.take 6 := ⟨_, rfl⟩
      obtain ⟨L, hL⟩ : ∃ L, L = l.length := ⟨_, rfl⟩
      have hL6 : L ≤ 6 := by rw [hL, hlt, List.length_take]; omega
      have hLm : L = min K 6 := by rw [hL, hlt, List.length_take, hK]; omega
      have hrl : RowA wr (.slice ra L rc) l := by
        obtain ⟨a', c', e, h1⟩ := hrw'
        cases e
        refine ⟨_, _, by rw [hL], fun q hq => ?_⟩
        have hq' : q < l0.length := by rw [hlt, List.length_take] at hq; omega
        obtain ⟨g, z1, z2, z3⟩ := h1 q hq'
        refine ⟨g, z1, z2, ?_⟩
        have e2 : l[q] = l0[q] := by simp [hlt]
        rw [e2]
        exact z3
      have d0 : decide (j < n) = true := by simpa using hjn
      have d1 : (0 : Int) ≤ (j : Int) := by omega
      have d2 : (j : Int) < (n : Int) := by omega
      have d3 : (j : Int) + 1 ≤ 9223372036854775807 := by omega
      by_cases hj24 : j < 24
      · have d4 : decide ((j : Int) < 24) = true := by simp; omega
        by_cases hK6 : K ≤ 6
        · obtain rfl : L = K := by omega
          have d5 : (L : Int) ≤ 6 := by omega
          have d6 : (L : Int) ≤ (rc : Int) := by omega
          have HL := Lib.hid (And.intro hL (And.intro hL6 (And.intro hZj (And.intro hjn (And.intro hrl (And.intro hlt hj24))))))
          have D3 := Lib.hid (And.intro d3 hnb)
          clear hown hbe hjn hgl c0w hrw hrw' hL hLb hZj hl hj hcap hcp hK hlt hL6 hLm hrl hj24 hK6
          go_upto_region 6 with (fail)
          have D4 := Lib.hid d4
          clear d3 d4 hnb
          go_wp2_with (first | (at_builtin; refine Hid.out ?_) | go_in)
          unfold Hid
          obtain ⟨W1, hW1⟩ : ∃ W, W = wr.alloc (.cells #[] 3) := ⟨_, rfl⟩
          obtain ⟨b1, hb1⟩ : ∃ b, b = wr.heap.size := ⟨_, rfl⟩
          have hz1 : W1.ownsRow b1 3 1 (.slice (some ⟨b1, 0, none⟩) 0 0) 0 [] := own_zero (by rw [hb1, hW1]; exact Blk.new _ _ _) (Nat.le_refl _)
          have hB1 : Below wr.heap.size wr W1 := by rw [hW1]; exact (Below.refl _ _).alloc (Nat.le_refl _) _
          change wpList _ _ _ _ _ (wr.alloc (.cells #[] 3))
          rw [← hW1, ← hb1]
          have HW := Lib.hid (And.intro hW1 (And.intro hb1 (And.intro hz1 hB1)))
          clear hW1 hb1 hz1 hB1
          cases ra with
          | none =>
            have hL0 : l = [] := by
              cases l with
              | nil => rfl
              | cons y l' =>
                obtain ⟨a', c', e, h1⟩ := HL.out.2.2.2.2.1
                obtain ⟨g, h2, _⟩ := h1 0 (by simp)
                rw [h2] at e
                cases e
            subst hL0
            obtain rfl : L = 0 := HL.out.1
            refine wpList_append_nil0 rfl _ _ 25 rfl 3 i0 Try.underlying25 HI.out.1 b1 0 0 rc (Nat.le_refl _) rfl rfl ?_
            obtain ⟨v1, hv1⟩ : ∃ v : Value, v = .slice (some ⟨b1, 0, none⟩) 0 0 := ⟨_, rfl⟩
            obtain ⟨W2, hW2⟩ : ∃ W, W = W1 := ⟨_, rfl⟩
            have ho1 : W2.ownsRow b1 3 1 v1 0 (([] : List Int).map (Value.int .i64)) := by rw [hW2, hv1]; exact HW.out.2.2.1
            have hg1 : W1.grownBy W2 (some b1) := by rw [hW2]; exact ⟨rfl, rfl, rfl, Nat.le_refl _, fun _ _ _ => rfl⟩
            have hat1 : v1.ownBlock = some b1 ∨ v1.ownBlock = some W1.heap.size := Or.inl (by rw [hv1]; rfl)
            rw [← hv1, ← hW2]
            clear hv1 hW2
            obtain ⟨l, hl0⟩ : ∃ l : List Int, l = [] := ⟨_, rfl⟩
            obtain ⟨L, hL0⟩ : ∃ L : Nat, L = 0 := ⟨_, rfl⟩
            rw [← hl0, ← hL0] at HL
            rw [← hL0, ← hl0] at ho1
            clear hl0 hL0
            obtain ⟨g1, c1', hv1⟩ : ∃ g c, v1 = .slice (some ⟨g, 0, none⟩) L c := by
              rcases hat1 with e | e
              · obtain ⟨c, hc⟩ := own_block_some ho1 e; exact ⟨_, c, hc⟩
              · obtain ⟨c, hc⟩ := own_block_some ho1 e; exact ⟨_, c, hc⟩
            have hB2 : Below wr.heap.size wr W2 := HW.out.2.2.2.grown hg1 HW.out.2.2.2.size (fun k hk => by cases hk; rw [HW.out.2.1]; exact Nat.le_refl _)
            have hO2 := H1.out.1.below hB2
            have hb12 : wr.heap.size ≤ g1 := by
              have h1 := (ho1.lt g1 (by rw [hv1]; rfl)).1
              rw [HW.out.2.1] at h1
              exact h1
            have hN2 : NumZ W2 w.heap.size v1 l := by
              have h1 : W2.ownsRow b1 3 1 v1 l.length (l.map (Value.int .i64)) := by rw [← HL.out.1]; exact ho1
              exact own_lower (by rw [HW.out.2.1]; exact H1.out.2.size) h1
            have hu0 := H1.out.1
            obtain ⟨vs, q1, q2, q3⟩ := hO2
            obtain ⟨lj, hlj⟩ : ∃ k, k = ((Z.take (min j 24)).map (fun l => l.take 6)).length := ⟨_, rfl⟩
            have hljb : lj ≤ 1000 := by rw [hlj, List.length_map, List.length_take]; have := HL.out.2.2.2.1; omega
            have hne1 : v1.ownBlock = none ∨ v1.ownBlock ≠ u3.ownBlock := by
              right
              rw [hv1]
              intro e
              obtain ⟨vs0, z1, z2, z3⟩ := hu0
              have := (z2.lt g1 e.symm).2
              omega
            obtain ⟨s3, m3, k3, hu3⟩ : ∃ a m c, u3 = .slice a m c := by
              rcases own_slice q2 with ⟨h, _⟩ | ⟨g, cap, h⟩
              · exact ⟨_, _, _, h⟩
              · exact ⟨_, _, _, h⟩
            rw [← hlj] at q2
            have H2 := Lib.hid (And.intro hB2 (And.intro hN2 (And.intro hne1 (And.intro hlj (And.intro hljb (And.intro q2 (H1.out.1.below hB2)))))))
            rw [hv1, hu3] at H2
            subst hv1 hu3
            clear hB2 hN2 hne1 hlj hljb q1 q2 q3 hb12 hu0 ho1 hg1 hat1
            go_wp2_with (first | (at_builtin; refine Hid.out ?_) | go_in)
            unfold Hid
            refine wpList_append_own_at _ rfl _ _ 22 rfl w.heap.size 25 i1 (.slice none 0 0) 1 24 Try.underlying22 HI1.out.1 HI1.out.2.1 HI1.out.2.2.1 HI1.out.2.2.2 rfl (by decide) (.slice s3 m3 k3) lj vs rfl (H2.out.2.2.2.2.2.1.alloc _) ⟨W2.heap.size, 0, none⟩ 1 1 [.slice (some ⟨g1, 0, none⟩) L c1'] rfl rfl (cell_one_new _ _ _) (by simp [Value.oneCell']) (by have := H2.out.2.2.2.2.1; unfold maxLen; omega) (by have := H2.out.2.2.2.2.1; omega) (by have h1 := H2.out.1.size; have h2 := H1.out.2.size; simp; omega) ?_
            intro v' w4 ho hg _ hat
            have HN := Lib.hid (show TaR w Z v' (I ((j : Int) + 1)) w4 by
              refine ⟨j + 1, by have h1 := HH.out.2.2; have h2 := HL.out.2.2.2.1; omega, rfl, ?_, ?_⟩
              · have e1 : (Z.take (min (j + 1) 24)).map (fun l => l.take 6) = (Z.take (min j 24)).map (fun l => l.take 6) ++ [l] := by
                  rw [show min (j + 1) 24 = min j 24 + 1 by have := HL.out.2.2.2.2.2.2; omega, List.take_add_one, show min j 24 = j by have := HL.out.2.2.2.2.2.2; omega, HL.out.2.2.1, List.map_append]
                  simp [HL.out.2.2.2.2.2.1]
                rw [e1]
                refine OwnG.app H2.out.2.2.2.2.2.2 H2.out.2.1 H2.out.2.2.1 hg (fun vs' _ h2 => ?_) hat
                rw [← H2.out.2.2.2.1] at h2 ⊢
                rw [own_same' h2 H2.out.2.2.2.2.2.1]
                exact ho
              · have hw2 := belowB H1.out.2 H2.out.1
                exact (hw2.alloc hw2.size _).grown hg (by have := hw2.size; simp; omega) (fun k hk => (H2.out.2.2.2.2.2.1.lt k hk).1))
            clear ho hg hat
            have d3 := D3.out.1
            go_wp2_with fail
            exact ⟨HN.out, by have h2 := HL.out.2.2.2.1; simp [intOf]; omega⟩
          | some ga =>
            have hnews : ∀ q u, (l.map (Value.int .i64))[q]? = some u → wr.cell? (ga.add q) = some u := fun q u hq => by
              have hql : q < l.length := by have := (List.getElem?_eq_some_iff.1 hq).1; simpa using this
              obtain ⟨a', c', e, h1⟩ := HL.out.2.2.2.2.1
              obtain ⟨g, h2, _, h3⟩ := h1 q hql
              rw [h2] at e
              cases e
              rw [List.getElem?_map, List.getElem?_eq_getElem hql] at hq
              have hq' : I l[q] = u := by simpa using hq
              rw [← hq']
              exact h3
            have hnews1 : ∀ q u, (l.map (Value.int .i64))[q]? = some u → W1.cell? (ga.add q) = some u := fun q u hq => by
              have h1 := hnews q u hq
              have h2 : ga.block < wr.heap.size := by
                have := block_lt_of_cell h1
                rw [add_block] at this
                exact this
              unfold World.cell? at h1 ⊢
              rw [HW.out.2.2.2.block _ (by rw [add_block]; exact h2)]
              exact h1
            have HNW := Lib.hid hnews1
            clear hnews hnews1
            refine wpList_append_own_at _ rfl _ _ 25 rfl b1 3 i0 (I 0) 1 8 Try.underlying25 HI.out.1 HI.out.2.1 HI.out.2.2.1 HI.out.2.2.2 rfl (by decide) (.slice (some ⟨b1, 0, none⟩) 0 0) 0 [] rfl HW.out.2.2.1 ga L rc (l.map (Value.int .i64)) rfl (by rw [List.length_map, HL.out.1, Nat.mul_one]) HNW.out (fun u hu => by obtain ⟨x, _, rfl⟩ := List.mem_map.1 hu; rfl) (by have := HL.out.2.1; unfold maxLen; omega) (by have := HL.out.2.1; omega) (by rw [HW.out.2.1]; exact HW.out.2.2.2.size) ?_
            intro v1 W2 ho1 hg1 _ hat1
            rw [Nat.zero_add, List.nil_append] at ho1
            obtain ⟨g1, c1', hv1⟩ : ∃ g c, v1 = .slice (some ⟨g, 0, none⟩) L c := by
              rcases hat1 with e | e
              · obtain ⟨c, hc⟩ := own_block_some ho1 e; exact ⟨_, c, hc⟩
              · obtain ⟨c, hc⟩ := own_block_some ho1 e; exact ⟨_, c, hc⟩
            have hB2 : Below wr.heap.size wr W2 := HW.out.2.2.2.grown hg1 HW.out.2.2.2.size (fun k hk => by cases hk; rw [HW.out.2.1]; exact Nat.le_refl _)
            have hO2 := H1.out.1.below hB2
            have hb12 : wr.heap.size ≤ g1 := by
              have h1 := (ho1.lt g1 (by rw [hv1]; rfl)).1
              rw [HW.out.2.1] at h1
              exact h1
            have hN2 : NumZ W2 w.heap.size v1 l := by
              have h1 : W2.ownsRow b1 3 1 v1 l.length (l.map (Value.int .i64)) := by rw [← HL.out.1]; exact ho1
              exact own_lower (by rw [HW.out.2.1]; exact H1.out.2.size) h1
            have hu0 := H1.out.1
            obtain ⟨vs, q1, q2, q3⟩ := hO2
            obtain ⟨lj, hlj⟩ : ∃ k, k = ((Z.take (min j 24)).map (fun l => l.take 6)).length := ⟨_, rfl⟩
            have hljb : lj ≤ 1000 := by rw [hlj, List.length_map, List.length_take]; have := HL.out.2.2.2.1; omega
            have hne1 : v1.ownBlock = none ∨ v1.ownBlock ≠ u3.ownBlock := by
              right
              rw [hv1]
              intro e
              obtain ⟨vs0, z1, z2, z3⟩ := hu0
              have := (z2.lt g1 e.symm).2
              omega
            obtain ⟨s3, m3, k3, hu3⟩ : ∃ a m c, u3 = .slice a m c := by
              rcases own_slice q2 with ⟨h, _⟩ | ⟨g, cap, h⟩
              · exact ⟨_, _, _, h⟩
              · exact ⟨_, _, _, h⟩
            rw [← hlj] at q2
            have H2 := Lib.hid (And.intro hB2 (And.intro hN2 (And.intro hne1 (And.intro hlj (And.intro hljb (And.intro q2 (H1.out.1.below hB2)))))))
            rw [hv1, hu3] at H2
            subst hv1 hu3
            clear hB2 hN2 hne1 hlj hljb q1 q2 q3 hb12 hu0 ho1 hg1 hat1
            go_wp2_with (first | (at_builtin; refine Hid.out ?_) | go_in)
            unfold Hid
            refine wpList_append_own_at _ rfl _ _ 22 rfl w.heap.size 25 i1 (.slice none 0 0) 1 24 Try.underlying22 HI1.out.1 HI1.out.2.1 HI1.out.2.2.1 HI1.out.2.2.2 rfl (by decide) (.slice s3 m3 k3) lj vs rfl (H2.out.2.2.2.2.2.1.alloc _) ⟨W2.heap.size, 0, none⟩ 1 1 [.slice (some ⟨g1, 0, none⟩) L c1'] rfl rfl (cell_one_new _ _ _) (by simp [Value.oneCell']) (by have := H2.out.2.2.2.2.1; unfold maxLen; omega) (by have := H2.out.2.2.2.2.1; omega) (by have h1 := H2.out.1.size; have h2 := H1.out.2.size; simp; omega) ?_
            intro v' w4 ho hg _ hat
            have HN := Lib.hid (show TaR w Z v' (I ((j : Int) + 1)) w4 by
              refine ⟨j + 1, by have h1 := HH.out.2.2; have h2 := HL.out.2.2.2.1; omega, rfl, ?_, ?_⟩
              · have e1 : (Z.take (min (j + 1) 24)).map (fun l => l.take 6) = (Z.take (min j 24)).map (fun l => l.take 6) ++ [l] := by
                  rw [show min (j + 1) 24 = min j 24 + 1 by have := HL.out.2.2.2.2.2.2; omega, List.take_add_one, show min j 24 = j by have := HL.out.2.2.2.2.2.2; omega, HL.out.2.2.1, List.map_append]
                  simp [HL.out.2.2.2.2.2.1]
                rw [e1]
                refine OwnG.app H2.out.2.2.2.2.2.2 H2.out.2.1 H2.out.2.2.1 hg (fun vs' _ h2 => ?_) hat
                rw [← H2.out.2.2.2.1] at h2 ⊢
                rw [own_same' h2 H2.out.2.2.2.2.2.1]
                exact ho
              · have hw2 := belowB H1.out.2 H2.out.1
                exact (hw2.alloc hw2.size _).grown hg (by have := hw2.size; simp; omega) (fun k hk => (H2.out.2.2.2.2.2.1.lt k hk).1))
            clear ho hg hat
            have d3 := D3.out.1
            go_wp2_with fail
            exact ⟨HN.out, by have h2 := HL.out.2.2.2.1; simp [intOf]; omega⟩
        · have h6 : L = 6 := by omega
          subst h6
          have d5 : ¬ (K : Int) ≤ 6 := by omega
          have d6 : (6 : Int) ≤ (rc : Int) := by omega
          have HL := Lib.hid (And.intro hL (And.intro hL6 (And.intro hZj (And.intro hjn (And.intro hrl (And.intro hlt hj24))))))
          have D3 := Lib.hid (And.intro d3 hnb)
          clear hown hbe hjn hgl c0w hrw hrw' hL hLb hZj hl hj hcap hcp hK hlt hL6 hLm hrl hj24 hK6
          go_upto_region 6 with (fail)
          have D4 := Lib.hid d4
          clear d3 d4 hnb
          go_wp2_with (first | (at_builtin; refine Hid.out ?_) | go_in)
          unfold Hid
          obtain ⟨W1, hW1⟩ : ∃ W, W = wr.alloc (.cells #[] 3) := ⟨_, rfl⟩
          obtain ⟨b1, hb1⟩ : ∃ b, b = wr.heap.size := ⟨_, rfl⟩
          have hz1 : W1.ownsRow b1 3 1 (.slice (some ⟨b1, 0, none⟩) 0 0) 0 [] := own_zero (by rw [hb1, hW1]; exact Blk.new _ _ _) (Nat.le_refl _)
          have hB1 : Below wr.heap.size wr W1 := by rw [hW1]; exact (Below.refl _ _).alloc (Nat.le_refl _) _
          change wpList _ _ _ _ _ (wr.alloc (.cells #[] 3))
          rw [← hW1, ← hb1]
          have HW := Lib.hid (And.intro hW1 (And.intro hb1 (And.intro hz1 hB1)))
          clear hW1 hb1 hz1 hB1
          cases ra with
          | none =>
            obtain ⟨a', c', e, h1⟩ := HL.out.2.2.2.2.1
            obtain ⟨g, h2, _⟩ := h1 0 (by have := HL.out.1; omega)
            rw [h2] at e
            cases e
          | some ga =>
            have hnews : ∀ q u, (l.map (Value.int .i64))[q]? = some u → wr.cell? (ga.add q) = some u := fun q u hq => by
              have hql : q < l.length := by have := (List.getElem?_eq_some_iff.1 hq).1; simpa using this
              obtain ⟨a', c', e, h1⟩ := HL.out.2.2.2.2.1
              obtain ⟨g, h2, _, h3⟩ := h1 q hql
              rw [h2] at e
              obtain rfl : ga = g := by injection e with e1; injection e1
              rw [List.getElem?_map, List.getElem?_eq_getElem hql] at hq
              have hq' : I l[q] = u := by simpa using hq
              rw [← hq']
              exact h3
            have hnews1 : ∀ q u, (l.map (Value.int .i64))[q]? = some u → W1.cell? (ga.add q) = some u := fun q u hq => by
              have h1 := hnews q u hq
              have h2 : ga.block < wr.heap.size := by
                have := block_lt_of_cell h1
                rw [add_block] at this
                exact this
              unfold World.cell? at h1 ⊢
              rw [HW.out.2.2.2.block _ (by rw [add_block]; exact h2)]
              exact h1
            have HNW := Lib.hid hnews1
            clear hnews hnews1
            refine wpList_append_own_at _ rfl _ _ 25 rfl b1 3 i0 (I 0) 1 8 Try.underlying25 HI.out.1 HI.out.2.1 HI.out.2.2.1 HI.out.2.2.2 rfl (by decide) (.slice (some ⟨b1, 0, none⟩) 0 0) 0 [] rfl HW.out.2.2.1 ga 6 rc (l.map (Value.int .i64)) rfl (by rw [List.length_map, HL.out.1, Nat.mul_one]) HNW.out (fun u hu => by obtain ⟨x, _, rfl⟩ := List.mem_map.1 hu; rfl) (by have := HL.out.2.1; unfold maxLen; omega) (by have := HL.out.2.1; omega) (by rw [HW.out.2.1]; exact HW.out.2.2.2.size) ?_
            intro v1 W2 ho1 hg1 _ hat1
            rw [Nat.zero_add, List.nil_append] at ho1
            obtain ⟨g1, c1', hv1⟩ : ∃ g c, v1 = .slice (some ⟨g, 0, none⟩) 6 c := by
              rcases hat1 with e | e
              · obtain ⟨c, hc⟩ := own_block_some ho1 e; exact ⟨_, c, hc⟩
              · obtain ⟨c, hc⟩ := own_block_some ho1 e; exact ⟨_, c, hc⟩
            have hB2 : Below wr.heap.size wr W2 := HW.out.2.2.2.grown hg1 HW.out.2.2.2.size (fun k hk => by cases hk; rw [HW.out.2.1]; exact Nat.le_refl _)
            have hO2 := H1.out.1.below hB2
            have hb12 : wr.heap.size ≤ g1 := by
              have h1 := (ho1.lt g1 (by rw [hv1]; rfl)).1
              rw [HW.out.2.1] at h1
              exact h1
            have hN2 : NumZ W2 w.heap.size v1 l := by
              have h1 : W2.ownsRow b1 3 1 v1 l.length (l.map (Value.int .i64)) := by rw [← HL.out.1]; exact ho1
              exact own_lower (by rw [HW.out.2.1]; exact H1.out.2.size) h1
            have hu0 := H1.out.1
            obtain ⟨vs, q1, q2, q3⟩ := hO2
            obtain ⟨lj, hlj⟩ : ∃ k, k = ((Z.take (min j 24)).map (fun l => l.take 6)).length := ⟨_, rfl⟩
            have hljb : lj ≤ 1000 := by rw [hlj, List.length_map, List.length_take]; have := HL.out.2.2.2.1; omega
            have hne1 : v1.ownBlock = none ∨ v1.ownBlock ≠ u3.ownBlock := by
              right
              rw [hv1]
              intro e
              obtain ⟨vs0, z1, z2, z3⟩ := hu0
              have := (z2.lt g1 e.symm).2
              omega
            obtain ⟨s3, m3, k3, hu3⟩ : ∃ a m c, u3 = .slice a m c := by
              rcases own_slice q2 with ⟨h, _⟩ | ⟨g, cap, h⟩
              · exact ⟨_, _, _, h⟩
              · exact ⟨_, _, _, h⟩
            rw [← hlj] at q2
            have H2 := Lib.hid (And.intro hB2 (And.intro hN2 (And.intro hne1 (And.intro hlj (And.intro hljb (And.intro q2 (H1.out.1.below hB2)))))))
            rw [hv1, hu3] at H2
            subst hv1 hu3
            clear hB2 hN2 hne1 hlj hljb q1 q2 q3 hb12 hu0 ho1 hg1 hat1
            go_wp2_with (first | (at_builtin; refine Hid.out ?_) | go_in)
            unfold Hid
            refine wpList_append_own_at _ rfl _ _ 22 rfl w.heap.size 25 i1 (.slice none 0 0) 1 24 Try.underlying22 HI1.out.1 HI1.out.2.1 HI1.out.2.2.1 HI1.out.2.2.2 rfl (by decide) (.slice s3 m3 k3) lj vs rfl (H2.out.2.2.2.2.2.1.alloc _) ⟨W2.heap.size, 0, none⟩ 1 1 [.slice (some ⟨g1, 0, none⟩) 6 c1'] rfl rfl (cell_one_new _ _ _) (by simp [Value.oneCell']) (by have := H2.out.2.2.2.2.1; unfold maxLen; omega) (by have := H2.out.2.2.2.2.1; omega) (by have h1 := H2.out.1.size; have h2 := H1.out.2.size; simp; omega) ?_
            intro v' w4 ho hg _ hat
            have HN := Lib.hid (show TaR w Z v' (I ((j : Int) + 1)) w4 by
              refine ⟨j + 1, by have h1 := HH.out.2.2; have h2 := HL.out.2.2.2.1; omega, rfl, ?_, ?_⟩
              · have e1 : (Z.take (min (j + 1) 24)).map (fun l => l.take 6) = (Z.take (min j 24)).map (fun l => l.take 6) ++ [l] := by
                  rw [show min (j + 1) 24 = min j 24 + 1 by have := HL.out.2.2.2.2.2.2; omega, List.take_add_one, show min j 24 = j by have := HL.out.2.2.2.2.2.2; omega, HL.out.2.2.1, List.map_append]
                  simp [HL.out.2.2.2.2.2.1]
                rw [e1]
                refine OwnG.app H2.out.2.2.2.2.2.2 H2.out.2.1 H2.out.2.2.1 hg (fun vs' _ h2 => ?_) hat
                rw [← H2.out.2.2.2.1] at h2 ⊢
                rw [own_same' h2 H2.out.2.2.2.2.2.1]
                exact ho
              · have hw2 := belowB H1.out.2 H2.out.1
                exact (hw2.alloc hw2.size _).grown hg (by have := hw2.size; simp; omega) (fun k hk => (H2.out.2.2.2.2.2.1.lt k hk).1))
            clear ho hg hat
            have d3 := D3.out.1
            go_wp2_with fail
            exact ⟨HN.out, by have h2 := HL.out.2.2.2.1; simp [intOf]; omega⟩
      · have d4 : decide ((j : Int) < 24) = false := by simp; omega
        have HN := Lib.hid (show TaR w Z u3 (I ((j : Int) + 1)) wr from ⟨j + 1, by have := HH.out.2.2; omega, rfl, by rw [show min (j + 1) 24 = min j 24 by omega]; exact hown, hbe⟩)
        have HJ := Lib.hid hjn
        clear hown hbe hjn hgl c0w hrw hrw' hL hLb hZj hl hj hcap hcp hK hlt hL6 hLm hrl hj24
        go_wp2_with fail
        exact ⟨HN.out, by have h2 := HJ.out; simp [intOf]; omega⟩
    · have d0 : decide (j < n) = false := by simpa using hjn
      have FIN := Lib.hid (show OwnG w.heap.size (tameF Z) u3 wr by
        have h1 := hown
        rw [show min j 24 = min Z.length 24 by have := HH.out.2.2; omega, take_min] at h1
        exact h1)
      have HB := Lib.hid hbe
      clear hown hbe hjn hj
      go_wp2_with fail
      go_ret
      exact ⟨_, rfl, FIN.out, HB.out⟩
end Go.Proofs.Ytomfmkddfgpmkaa
