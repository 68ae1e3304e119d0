/-
  Are two lists, two graphs alike: the walks.
-/
import Derived.Test.YtomfmkddfgpmkaaFFault
import Derived.Deep.RegionHeld3
namespace Go.Proofs.Ytomfmkddfgpmkaa
open Go Go.RowKit Fl

theorem RowZ.below {w w' : World} {v : Value} {l : List Int} (h : RowZ w v l) (hb : Below w.heap.size w w') : RowZ w' v l := by
  obtain ⟨a, c, e, h⟩ := h
  refine ⟨a, c, e, fun j hj => ?_⟩
  obtain ⟨g, h1, h2, h3⟩ := h j hj
  exact ⟨g, h1, Nat.lt_of_lt_of_le h2 hb.size, cell_below hb h2 h3⟩
/-- A graph in memory, of no nodes or of some. -/
def GZ (w : World) (v : Value) (Z : List (List Int)) : Prop := ∃ a c, v = .slice a Z.length c ∧ ∀ i (h : i < Z.length), ∃ bg rv, a = some ⟨bg, 0, none⟩ ∧ bg < w.heap.size ∧ w.cell? ⟨bg, i, none⟩ = some rv ∧ RowZ w rv Z[i]
theorem GZ.below {w w' : World} {v : Value} {Z : List (List Int)} (h : GZ w v Z) (hb : Below w.heap.size w w') : GZ w' v Z := by
  obtain ⟨a, c, e, h⟩ := h
  refine ⟨a, c, e, fun j hj => ?_⟩
  obtain ⟨g, rv, h1, h2, h3, h4⟩ := h j hj
  exact ⟨g, rv, h1, Nat.lt_of_lt_of_le h2 hb.size, cell_below hb h2 h3, h4.below hb⟩
theorem GZ.grZ {w : World} {v : Value} {Z : List (List Int)} (h : GZ w v Z) (hz : Z ≠ []) : ∃ bg c, v = .slice (some ⟨bg, 0, none⟩) Z.length c ∧ GrZ w bg Z := by
  obtain ⟨a, c, e, h⟩ := h
  obtain ⟨bg, rv, h1, h2, h3, h4⟩ := h 0 (List.length_pos_iff.2 hz)
  subst h1
  refine ⟨bg, c, e, h2, fun i hi => ?_⟩
  obtain ⟨bg', rv, q1, q2, q3, q4⟩ := h i hi
  cases q1
  exact ⟨rv, q3, q4⟩
theorem nums_rowZ {w : World} {base : Nat} {v : Value} {l : List Nat} (h : Nums w base v l) : RowZ w v (l.map fun n : Nat => (n : Int)) := by
  rcases own_slice h with ⟨e, e2⟩ | ⟨g, c, e⟩
  · have : l = [] := List.length_eq_zero_iff.1 e2
    subst this
    exact ⟨none, 0, e, fun j hj => absurd hj (by simp)⟩
  · refine ⟨some ⟨g, 0, none⟩, c, by rw [e, List.length_map], fun j hj => ?_⟩
    rw [List.length_map] at hj
    rw [e] at h
    refine ⟨g, rfl, (h.lt g rfl).2, ?_⟩
    rw [nums_get h rfl j hj, getD_of l j 0 hj, List.getElem_map]

set_option maxRecDepth 100000 in
set_option maxHeartbeats 800000 in
theorem Same_any (u v : Value) (l m : List Int) (hl : l.length ≤ 9223372036854775806) (hm : m.length ≤ 9223372036854775806) (w : World) (h1 : RowZ w u l) (h2 : RowZ w v m) :
    Calls Try.prog 15 #[u, v] w fun e w' => e = .returned (.bool (decide (l = m))) ∧ Below w.heap.size w w' := by
  obtain ⟨a, c, rfl, q1⟩ := h1
  obtain ⟨b, d, rfl, q2⟩ := h2
  obtain ⟨n, hn⟩ : ∃ n, n = l.length := ⟨_, rfl⟩
  obtain ⟨k, hk⟩ : ∃ k, k = m.length := ⟨_, rfl⟩
  have HQ := Lib.hid (And.intro q1 (And.intro q2 (And.intro hn hk)))
  rw [← hn] at hl ⊢
  rw [← hk] at hm ⊢
  clear q1 q2 hn hk
  by_cases hnk : n = k
  · have g0 : ((n : Int) != (k : Int)) = false := by rw [hnk]; simp
    have HNK := Lib.hid hnk
    clear hnk
    go_enter Try.func15, Try.ntmps15
    go_wp2_with fail
    go_loopw [13] (fun iv wr => ∃ i : Nat, i ≤ n ∧ iv = I (i : Int) ∧ l.take i = m.take i ∧ Below w.heap.size w wr) (fun iv _ => n - (intOf iv).toNat)
    case atStart => exact ⟨0, Nat.zero_le _, rfl, by simp, Below.refl _ _⟩
    case round =>
      obtain ⟨i, hi, rfl, ht, hb⟩ := hrel
      have HT := Lib.hid (And.intro ht (And.intro hi hb))
      clear ht
      by_cases hlt : i < n
      · have i1 : i < l.length := by have := HQ.out.2.2.1; omega
        have i2 : i < m.length := by have := HQ.out.2.2.2; have := HNK.out; omega
        obtain ⟨g, ra, gl, c0w⟩ := HQ.out.1 i i1
        obtain ⟨g', rb, gl', c1w⟩ := HQ.out.2.1 i i2
        subst ra rb
        obtain ⟨x, hx⟩ : ∃ x, x = l[i] := ⟨_, rfl⟩
        obtain ⟨y, hy⟩ : ∃ y, y = m[i] := ⟨_, rfl⟩
        have c0 := cell_below hb gl c0w
        have c1 := cell_below hb gl' c1w
        rw [← hx] at c0
        rw [← hy] at c1
        have hx' : l[i]? = some x := by rw [hx]; exact List.getElem?_eq_getElem i1
        have hy' : m[i]? = some y := by rw [hy]; exact List.getElem?_eq_getElem i2
        have d0 : decide (i < n) = true := by simpa using hlt
        have d1 : (0 : Int) ≤ (i : Int) := by omega
        have d2 : (i : Int) < (n : Int) := by omega
        have d3 : (i : Int) < (k : Int) := by have := HNK.out; omega
        have HX := Lib.hid (And.intro hx' (And.intro hy' hlt))
        clear hx hy hx' hy' hlt i1 i2 c0w c1w gl gl' hb
        by_cases hxy : x = y
        · have g1 : (x != y) = false := by rw [hxy]; simp
          have HN := Lib.hid (show l.take (i + 1) = m.take (i + 1) by rw [List.take_add_one, List.take_add_one, HT.out.1, HX.out.1, HX.out.2.1, hxy])
          clear hxy
          go_wp2_with fail
          go_quiet (fail)
          have HB := Lib.hid (below_drewN HT.out.2.2 nq)
          go_wp2_with fail
          exact ⟨⟨i + 1, HX.out.2.2, rfl, HN.out, HB.out⟩, by have := HX.out.2.2; simp [intOf]; omega⟩
        · have g1 : (x != y) = true := by simpa using hxy
          have HN := Lib.hid (show decide (l = m) = false by
            simp only [decide_eq_false_iff_not]
            intro e
            have h1 := HX.out.1
            rw [e, HX.out.2.1] at h1
            exact hxy (Option.some.inj h1).symm)
          clear hxy
          go_wp2_with fail
          go_quiet (fail)
          have HB := Lib.hid (below_drewN HT.out.2.2 nq)
          go_wp2_with fail
          go_ret
          exact ⟨by rw [HN.out]; rfl, HB.out⟩
      · have d0 : decide (i < n) = false := by simpa using hlt
        have HN := Lib.hid (show decide (l = m) = true by
          simp only [decide_eq_true_eq]
          have h1 := HT.out.1
          rw [List.take_of_length_le (by have := HQ.out.2.2.1; omega), List.take_of_length_le (by have := HQ.out.2.2.2; have := HNK.out; omega)] at h1
          exact h1)
        clear hlt hi
        go_wp2_with fail
        go_ret
        exact ⟨by rw [HN.out]; rfl, hb⟩
  · have g0 : ((n : Int) != (k : Int)) = true := by simp; omega
    have HN := Lib.hid (show decide (l = m) = false by
      simp only [decide_eq_false_iff_not]
      intro e
      exact hnk (by rw [HQ.out.2.2.1, HQ.out.2.2.2, e]))
    clear hnk
    go_enter Try.func15, Try.ntmps15
    go_wp2_with fail
    go_ret
    exact ⟨by rw [HN.out]; rfl, Below.refl _ _⟩

set_option maxRecDepth 100000 in
set_option maxHeartbeats 800000 in
theorem SameLists_any (u v : Value) (l m : List (List Int)) (hl : l.length ≤ 9223372036854775806) (hm : m.length ≤ 9223372036854775806) (hl2 : ∀ i (h : i < l.length), l[i].length ≤ 9223372036854775806) (hm2 : ∀ i (h : i < m.length), m[i].length ≤ 9223372036854775806) (w : World) (h1 : GZ w u l) (h2 : GZ w v m) :
    Calls Try.prog 14 #[u, v] w fun e w' => e = .returned (.bool (decide (l = m))) ∧ Below w.heap.size w w' := by
  obtain ⟨a, c, rfl, q1⟩ := h1
  obtain ⟨b, d, rfl, q2⟩ := h2
  obtain ⟨n, hn⟩ : ∃ n, n = l.length := ⟨_, rfl⟩
  obtain ⟨k, hk⟩ : ∃ k, k = m.length := ⟨_, rfl⟩
  have HQ := Lib.hid (And.intro q1 (And.intro q2 (And.intro hn (And.intro hk (And.intro hl2 hm2)))))
  rw [← hn] at hl ⊢
  rw [← hk] at hm ⊢
  clear q1 q2 hn hk hl2 hm2
  by_cases hnk : n = k
  · have g0 : ((n : Int) != (k : Int)) = false := by rw [hnk]; simp
    have HNK := Lib.hid hnk
    clear hnk
    go_enter Try.func14, Try.ntmps14
    go_wp2_with fail
    go_loopw [13] (fun iv wr => ∃ i : Nat, i ≤ n ∧ iv = I (i : Int) ∧ l.take i = m.take i ∧ Below w.heap.size w wr) (fun iv _ => n - (intOf iv).toNat)
    case atStart => exact ⟨0, Nat.zero_le _, rfl, by simp, Below.refl _ _⟩
    case round =>
      obtain ⟨i, hi, rfl, ht, hb⟩ := hrel
      have HT := Lib.hid (And.intro ht (And.intro hi hb))
      clear ht
      by_cases hlt : i < n
      · have i1 : i < l.length := by have := HQ.out.2.2.1; omega
        have i2 : i < m.length := by have := HQ.out.2.2.2.1; have := HNK.out; omega
        obtain ⟨g, xv, ra, gl, c0w, r0⟩ := HQ.out.1 i i1
        obtain ⟨g', yv, rb, gl', c1w, r1⟩ := HQ.out.2.1 i i2
        subst ra rb
        obtain ⟨x, hx⟩ : ∃ x, x = l[i] := ⟨_, rfl⟩
        obtain ⟨y, hy⟩ : ∃ y, y = m[i] := ⟨_, rfl⟩
        have c0 := cell_below hb gl c0w
        have c1 := cell_below hb gl' c1w
        have hS : ∀ q, Calls Try.prog 15 #[xv, yv] (wr.drewN q) fun e w' => e = .returned (.bool (decide (x = y))) ∧ Below w.heap.size w w' := fun q =>
          (Same_any xv yv x y (by rw [hx]; exact HQ.out.2.2.2.2.1 i i1) (by rw [hy]; exact HQ.out.2.2.2.2.2 i i2) (wr.drewN q) (by rw [hx]; exact r0.below (below_drewN hb q)) (by rw [hy]; exact r1.below (below_drewN hb q))).mono
            (fun e w' h => ⟨h.1, by have hb' := below_drewN hb q; exact ⟨h.2.os.trans hb'.os, h.2.tape.trans hb'.tape, h.2.output.trans hb'.output, Nat.le_trans hb'.size h.2.size, fun j hj => (h.2.block j (Nat.lt_of_lt_of_le hj hb'.size)).trans (hb'.block j hj)⟩⟩)
        have hx' : l[i]? = some x := by rw [hx]; exact List.getElem?_eq_getElem i1
        have hy' : m[i]? = some y := by rw [hy]; exact List.getElem?_eq_getElem i2
        have d0 : decide (i < n) = true := by simpa using hlt
        have d1 : (0 : Int) ≤ (i : Int) := by omega
        have d2 : (i : Int) < (n : Int) := by omega
        have d3 : (i : Int) < (k : Int) := by have := HNK.out; omega
        have HX := Lib.hid (And.intro hx' (And.intro hy' (And.intro hlt (And.intro gl (And.intro c0w (And.intro gl' c1w))))))
        obtain ⟨q, hq⟩ : ∃ q, q = decide (x = y) := ⟨_, rfl⟩
        rw [← hq] at hS
        have HS := Lib.hid hS
        have HXY := Lib.hid hq
        obtain ⟨s1, n1, k1, r0e⟩ : ∃ a n c, xv = .slice a n c := by obtain ⟨a, c, e, _⟩ := r0; exact ⟨_, _, _, e⟩
        obtain ⟨s2, n2, k2, r1e⟩ : ∃ a n c, yv = .slice a n c := by obtain ⟨a, c, e, _⟩ := r1; exact ⟨_, _, _, e⟩
        clear r0 r1
        subst r0e r1e
        clear hx hy hx' hy' hlt i1 i2 c0w c1w gl gl' hb hS hq
        go_wp2_with fail
        go_region_held3 (fun w' => w'.cell? ⟨g, i, none⟩ = some (.slice s1 n1 k1) ∧ w'.cell? ⟨g', i, none⟩ = some (.slice s2 n2 k2)) (first | exact hS4 | exact ⟨c0, c1⟩ | go_keep) (first | (go_at_call 15; refine (HS.out _).mono ?_; rintro e w8 ⟨rfl, hb8⟩; have hS4 := And.intro (cell_below hb8 HX.out.2.2.2.1 HX.out.2.2.2.2.1) (cell_below hb8 HX.out.2.2.2.2.2.1 HX.out.2.2.2.2.2.2)))
        have HB8 := Lib.hid hb8
        have HQ2 := Lib.hid (show (q = true → l.take (i + 1) = m.take (i + 1)) ∧ (q = false → decide (l = m) = false) by
          refine ⟨fun e => ?_, fun e => ?_⟩
          · have hxy : x = y := by have := HXY.out; rw [e] at this; simpa using this.symm
            rw [List.take_add_one, List.take_add_one, HT.out.1, HX.out.1, HX.out.2.1, hxy]
          · have hxy : ¬ x = y := by have := HXY.out; rw [e] at this; simpa using this.symm
            simp only [decide_eq_false_iff_not]
            intro e
            have h1 := HX.out.1
            rw [e, HX.out.2.1] at h1
            exact hxy (Option.some.inj h1).symm)
        clear hb8 hS4 HXY
        cases q
        · have HQ3 := Lib.hid (HQ2.out.2 rfl)
          clear HQ2
          go_wp2_with fail
          go_ret
          exact ⟨by rw [HQ3.out]; rfl, HB8.out⟩
        · have HQ3 := Lib.hid (HQ2.out.1 rfl)
          clear HQ2
          go_wp2_with fail
          exact ⟨⟨i + 1, HX.out.2.2.1, rfl, HQ3.out, HB8.out⟩, by have := HX.out.2.2.1; simp [intOf]; omega⟩
      · have d0 : decide (i < n) = false := by simpa using hlt
        have HN := Lib.hid (show decide (l = m) = true by
          simp only [decide_eq_true_eq]
          have h1 := HT.out.1
          rw [List.take_of_length_le (by have := HQ.out.2.2.1; omega), List.take_of_length_le (by have := HQ.out.2.2.2.1; have := HNK.out; omega)] at h1
          exact h1)
        clear hlt hi
        go_wp2_with fail
        go_ret
        exact ⟨by rw [HN.out]; rfl, hb⟩
  · have g0 : ((n : Int) != (k : Int)) = true := by simp; omega
    have HN := Lib.hid (show decide (l = m) = false by
      simp only [decide_eq_false_iff_not]
      intro e
      exact hnk (by rw [HQ.out.2.2.1, HQ.out.2.2.2.1, e]))
    clear hnk
    go_enter Try.func14, Try.ntmps14
    go_wp2_with fail
    go_ret
    exact ⟨by rw [HN.out]; rfl, Below.refl _ _⟩
end Go.Proofs.Ytomfmkddfgpmkaa
