/-
  Joined: FSame, FChk.
-/
import Derived.Test.YtomfmkddfgpmkaaFFault
import Derived.Deep.RegionHeld3
/-! Are two lists, two graphs alike: the walks. -/

namespace Go.Proofs.Ytomfmkddfgpmkaa
open Go Go.RowKit Fl

theorem RowZ.below {w w' : World} {v : Value} {l : List Int} (h : RowZ w v l) (hb : Below w.heap.size w w') : RowZ w' v l := by
  obtain ⟨a, c, e, h⟩ := h
  refine ⟨a, c, e, fun j hj => ?_⟩
  obtain ⟨g, h1, h2, h3⟩ := h j hj
  exact ⟨g, h1, Nat.lt_of_lt_of_le h2 hb.size, cell_below hb h2 h3⟩
/-- A graph in memory, of no nodes or of some. -/
def GZ (w : World) (v : Value) (Z : List (List Int)) : Prop := ∃ a c, v = .slice a Z.length c ∧ ∀ i (h : i < Z.length), ∃ bg rv, a = some ⟨bg, 0, none⟩ ∧ bg < w.heap.size ∧ w.cell? ⟨bg, i, none⟩ = some rv ∧ RowZ w rv Z[i]
theorem GZ.below {w w' : World} {v : Value} {Z : List (List Int)} (h : GZ w v Z) (hb : Below w.heap.size w w') : GZ w' v Z := by
  obtain ⟨a, c, e, h⟩ := h
  refine ⟨a, c, e, fun j hj => ?_⟩
  obtain ⟨g, rv, h1, h2, h3, h4⟩ := h j hj
  exact ⟨g, rv, h1, Nat.lt_of_lt_of_le h2 hb.size, cell_below hb h2 h3, h4.below hb⟩
theorem GZ.grZ {w : World} {v : Value} {Z : List (List Int)} (h : GZ w v Z) (hz : Z ≠ []) : ∃ bg c, v = .slice (some ⟨bg, 0, none⟩) Z.length c ∧ GrZ w bg Z := by
  obtain ⟨a, c, e, h⟩ := h
  obtain ⟨bg, rv, h1, h2, h3, h4⟩ := h 0 (List.length_pos_iff.2 hz)
  subst h1
  refine ⟨bg, c, e, h2, fun i hi => ?_⟩
  obtain ⟨bg', rv, q1, q2, q3, q4⟩ := h i hi
  cases q1
  exact ⟨rv, q3, q4⟩
theorem nums_rowZ {w : World} {base : Nat} {v : Value} {l : List Nat} (h : Nums w base v l) : RowZ w v (l.map fun n : Nat => (n : Int)) := by
  rcases own_slice h with ⟨e, e2⟩ | ⟨g, c, e⟩
  · have : l = [] := List.length_eq_zero_iff.1 e2
    subst this
    exact ⟨none, 0, e, fun j hj => absurd hj (by simp)⟩
  · refine ⟨some ⟨g, 0, none⟩, c, by rw [e, List.length_map], fun j hj => ?_⟩
    rw [List.length_map] at hj
    rw [e] at h
    refine ⟨g, rfl, (h.lt g rfl).2, ?_⟩
    rw [nums_get h rfl j hj, getD_of l j 0 hj, List.getElem_map]

set_option maxRecDepth 100000 in
set_option maxHeartbeats 800000 in
theorem Same_any (u v : Value) (l m : List Int) (hl : l.length ≤ 9223372036854775806) (hm : m.length ≤ 9223372036854775806) (w : World) (h1 : RowZ w u l) (h2 : RowZ w v m) :
    Calls Try.prog 15 #[u, v] w fun e w' => e = .returned (.bool (decide (l = m))) ∧ Below w.heap.size w w' := by
  obtain ⟨a, c, rfl, q1⟩ := h1
  obtain ⟨b, d, rfl, q2⟩ := h2
  obtain ⟨n, hn⟩ : ∃ n, n = l.length := ⟨_, rfl⟩
  obtain ⟨k, hk⟩ : ∃ k, k = m.length := ⟨_, rfl⟩
  have HQ := Lib.hid (And.intro q1 (And.intro q2 (And.intro hn hk)))
  rw [← hn] at hl ⊢
  rw [← hk] at hm ⊢
  clear q1 q2 hn hk
  by_cases hnk : n = k
  · have g0 : ((n : Int) != (k : Int)) = false := by rw [hnk]; simp
    have HNK := Lib.hid hnk
    clear hnk
    go_enter Try.func15, Try.ntmps15
    go_wp2_with fail
    go_loopw [13] (fun iv wr => ∃ i : Nat, i ≤ n ∧ iv = I (i : Int) ∧ l.take i = m.take i ∧ Below w.heap.size w wr) (fun iv _ => n - (intOf iv).toNat)
    case atStart => exact ⟨0, Nat.zero_le _, rfl, by simp, Below.refl _ _⟩
    case round =>
      obtain ⟨i, hi, rfl, ht, hb⟩ := hrel
      have HT := Lib.hid (And.intro ht (And.intro hi hb))
      clear ht
      by_cases hlt : i < n
      · have i1 : i < l.length := by have := HQ.out.2.2.1; omega
        have i2 : i < m.length := by have := HQ.out.2.2.2; have := HNK.out; omega
        obtain ⟨g, ra, gl, c0w⟩ := HQ.out.1 i i1
        obtain ⟨g', rb, gl', c1w⟩ := HQ.out.2.1 i i2
        subst ra rb
        obtain ⟨x, hx⟩ : ∃ x, x = l[i] := ⟨_, rfl⟩
        obtain ⟨y, hy⟩ : ∃ y, y = m[i] := ⟨_, rfl⟩
        have c0 := cell_below hb gl c0w
        have c1 := cell_below hb gl' c1w
        rw [← hx] at c0
        rw [← hy] at c1
        have hx' : l[i]? = some x := by rw [hx]; exact List.getElem?_eq_getElem i1
        have hy' : m[i]? = some y := by rw [hy]; exact List.getElem?_eq_getElem i2
        have d0 : decide (i < n) = true := by simpa using hlt
        have d1 : (0 : Int) ≤ (i : Int) := by omega
        have d2 : (i : Int) < (n : Int) := by omega
        have d3 : (i : Int) < (k : Int) := by have := HNK.out; omega
        have HX := Lib.hid (And.intro hx' (And.intro hy' hlt))
        clear hx hy hx' hy' hlt i1 i2 c0w c1w gl gl' hb
        by_cases hxy : x = y
        · have g1 : (x != y) = false := by rw [hxy]; simp
          have HN := Lib.hid (show l.take (i + 1) = m.take (i + 1) by rw [List.take_add_one, List.take_add_one, HT.out.1, HX.out.1, HX.out.2.1, hxy])
          clear hxy
          go_wp2_with fail
          go_quiet (fail)
          have HB := Lib.hid (below_drewN HT.out.2.2 nq)
          go_wp2_with fail
          exact ⟨⟨i + 1, HX.out.2.2, rfl, HN.out, HB.out⟩, by have := HX.out.2.2; simp [intOf]; omega⟩
        · have g1 : (x != y) = true := by simpa using hxy
          have HN := Lib.hid (show decide (l = m) = false by
            simp only [decide_eq_false_iff_not]
            intro e
            have h1 := HX.out.1
            rw [e, HX.out.2.1] at h1
            exact hxy (Option.some.inj h1).symm)
          clear hxy
          go_wp2_with fail
          go_quiet (fail)
          have HB := Lib.hid (below_drewN HT.out.2.2 nq)
          go_wp2_with fail
          go_ret
          exact ⟨by rw [HN.out]; rfl, HB.out⟩
      · have d0 : decide (i < n) = false := by simpa using hlt
        have HN := Lib.hid (show decide (l = m) = true by
          simp only [decide_eq_true_eq]
          have h1 := HT.out.1
          rw [List.take_of_length_le (by have := HQ.out.2.2.1; omega), List.take_of_length_le (by have := HQ.out.2.2.2; have := HNK.out; omega)] at h1
          exact h1)
        clear hlt hi
        go_wp2_with fail
        go_ret
        exact ⟨by rw [HN.out]; rfl, hb⟩
  · have g0 : ((n : Int) != (k : Int)) = true := by simp; omega
    have HN := Lib.hid (show decide (l = m) = false by
      simp only [decide_eq_false_iff_not]
      intro e
      exact hnk (by rw [HQ.out.2.2.1, HQ.out.2.2.2, e]))
    clear hnk
    go_enter Try.func15, Try.ntmps15
    go_wp2_with fail
    go_ret
    exact ⟨by rw [HN.out]; rfl, Below.refl _ _⟩

set_option maxRecDepth 100000 in
set_option maxHeartbeats 800000 in
theorem SameLists_any (u v : Value) (l m : List (List Int)) (hl : l.length ≤ 9223372036854775806) (hm : m.length ≤ 9223372036854775806) (hl2 : ∀ i (h : i < l.length), l[i].length ≤ 9223372036854775806) (hm2 : ∀ i (h : i < m.length), m[i].length ≤ 9223372036854775806) (w : World) (h1 : GZ w u l) (h2 : GZ w v m) :
    Calls Try.prog 14 #[u, v] w fun e w' => e = .returned (.bool (decide (l = m))) ∧ Below w.heap.size w w' := by
  obtain ⟨a, c, rfl, q1⟩ := h1
  obtain ⟨b, d, rfl, q2⟩ := h2
  obtain ⟨n, hn⟩ : ∃ n, n = l.length := ⟨_, rfl⟩
  obtain ⟨k, hk⟩ : ∃ k, k = m.length := ⟨_, rfl⟩
  have HQ := Lib.hid (And.intro q1 (And.intro q2 (And.intro hn (And.intro hk (And.intro hl2 hm2)))))
  rw [← hn] at hl ⊢
  rw [← hk] at hm ⊢
  clear q1 q2 hn hk hl2 hm2
  by_cases hnk : n = k
  · have g0 : ((n : Int) != (k : Int)) = false := by rw [hnk]; simp
    have HNK := Lib.hid hnk
    clear hnk
    go_enter Try.func14, Try.ntmps14
    go_wp2_with fail
    go_loopw [13] (fun iv wr => ∃ i : Nat, i ≤ n ∧ iv = I (i : Int) ∧ l.take i = m.take i ∧ Below w.heap.size w wr) (fun iv _ => n - (intOf iv).toNat)
    case atStart => exact ⟨0, Nat.zero_le _, rfl, by simp, Below.refl _ _⟩
    case round =>
      obtain ⟨i, hi, rfl, ht, hb⟩ := hrel
      have HT := Lib.hid (And.intro ht (And.intro hi hb))
      clear ht
      by_cases hlt : i < n
      · have i1 : i < l.length := by have := HQ.out.2.2.1; omega
        have i2 : i < m.length := by have := HQ.out.2.2.2.1; have := HNK.out; omega
        obtain ⟨g, xv, ra, gl, c0w, r0⟩ := HQ.out.1 i i1
        obtain ⟨g', yv, rb, gl', c1w, r1⟩ := HQ.out.2.1 i i2
        subst ra rb
        obtain ⟨x, hx⟩ : ∃ x, x = l[i] := ⟨_, rfl⟩
        obtain ⟨y, hy⟩ : ∃ y, y = m[i] := ⟨_, rfl⟩
        have c0 := cell_below hb gl c0w
        have c1 := cell_below hb gl' c1w
        have hS : ∀ q, Calls Try.prog 15 #[xv, yv] (wr.drewN q) fun e w' => e = .returned (.bool (decide (x = y))) ∧ Below w.heap.size w w' := fun q =>
          (Same_any xv yv x y (by rw [hx]; exact HQ.out.2.2.2.2.1 i i1) (by rw [hy]; exact HQ.out.2.2.2.2.2 i i2) (wr.drewN q) (by rw [hx]; exact r0.below (below_drewN hb q)) (by rw [hy]; exact r1.below (below_drewN hb q))).mono
            (fun e w' h => ⟨h.1, by have hb' := below_drewN hb q; exact ⟨h.2.os.trans hb'.os, h.2.tape.trans hb'.tape, h.2.output.trans hb'.output, Nat.le_trans hb'.size h.2.size, fun j hj => (h.2.block j (Nat.lt_of_lt_of_le hj hb'.size)).trans (hb'.block j hj)⟩⟩)
        have hx' : l[i]? = some x := by rw [hx]; exact List.getElem?_eq_getElem i1
        have hy' : m[i]? = some y := by rw [hy]; exact List.getElem?_eq_getElem i2
        have d0 : decide (i < n) = true := by simpa using hlt
        have d1 : (0 : Int) ≤ (i : Int) := by omega
        have d2 : (i : Int) < (n : Int) := by omega
        have d3 : (i : Int) < (k : Int) := by have := HNK.out; omega
        have HX := Lib.hid (And.intro hx' (And.intro hy' (And.intro hlt (And.intro gl (And.intro c0w (And.intro gl' c1w))))))
        obtain ⟨q, hq⟩ : ∃ q, q = decide (x = y) := ⟨_, rfl⟩
        rw [← hq] at hS
        have HS := Lib.hid hS
        have HXY := Lib.hid hq
        obtain ⟨s1, n1, k1, r0e⟩ : ∃ a n c, xv = .slice a n c := by obtain ⟨a, c, e, _⟩ := r0; exact ⟨_, _, _, e⟩
        obtain ⟨s2, n2, k2, r1e⟩ : ∃ a n c, yv = .slice a n c := by obtain ⟨a, c, e, _⟩ := r1; exact ⟨_, _, _, e⟩
        clear r0 r1
        subst r0e r1e
        clear hx hy hx' hy' hlt i1 i2 c0w c1w gl gl' hb hS hq
        go_wp2_with fail
        go_region_held3 (fun w' => w'.cell? ⟨g, i, none⟩ = some (.slice s1 n1 k1) ∧ w'.cell? ⟨g', i, none⟩ = some (.slice s2 n2 k2)) (first | exact hS4 | exact ⟨c0, c1⟩ | go_keep) (first | (go_at_call 15; refine (HS.out _).mono ?_; rintro e w8 ⟨rfl, hb8⟩; have hS4 := And.intro (cell_below hb8 HX.out.2.2.2.1 HX.out.2.2.2.2.1) (cell_below hb8 HX.out.2.2.2.2.2.1 HX.out.2.2.2.2.2.2)))
        have HB8 := Lib.hid hb8
        have HQ2 := Lib.hid (show (q = true → l.take (i + 1) = m.take (i + 1)) ∧ (q = false → decide (l = m) = false) by
          refine ⟨fun e => ?_, fun e => ?_⟩
          · have hxy : x = y := by have := HXY.out; rw [e] at this; simpa using this.symm
            rw [List.take_add_one, List.take_add_one, HT.out.1, HX.out.1, HX.out.2.1, hxy]
          · have hxy : ¬ x = y := by have := HXY.out; rw [e] at this; simpa using this.symm
            simp only [decide_eq_false_iff_not]
            intro e
            have h1 := HX.out.1
            rw [e, HX.out.2.1] at h1
            exact hxy (Option.some.inj h1).symm)
        clear hb8 hS4 HXY
        cases q
        · have HQ3 := Lib.hid (HQ2.out.2 rfl)
          clear HQ2
          go_wp2_with fail
          go_ret
          exact ⟨by rw [HQ3.out]; rfl, HB8.out⟩
        · have HQ3 := Lib.hid (HQ2.out.1 rfl)
          clear HQ2
          go_wp2_with fail
          exact ⟨⟨i + 1, HX.out.2.2.1, rfl, HQ3.out, HB8.out⟩, by have := HX.out.2.2.1; simp [intOf]; omega⟩
      · have d0 : decide (i < n) = false := by simpa using hlt
        have HN := Lib.hid (show decide (l = m) = true by
          simp only [decide_eq_true_eq]
          have h1 := HT.out.1
          rw [List.take_of_length_le (by have := HQ.out.2.2.1; omega), List.take_of_length_le (by have := HQ.out.2.2.2.1; have := HNK.out; omega)] at h1
          exact h1)
        clear hlt hi
        go_wp2_with fail
        go_ret
        exact ⟨by rw [HN.out]; rfl, hb⟩
  · have g0 : ((n : Int) != (k : Int)) = true := by simp; omega
    have HN := Lib.hid (show decide (l = m) = false by
      simp only [decide_eq_false_iff_not]
      intro e
      exact hnk (by rw [HQ.out.2.2.1, HQ.out.2.2.2.1, e]))
    clear hnk
    go_enter Try.func14, Try.ntmps14
    go_wp2_with fail
    go_ret
    exact ⟨by rw [HN.out]; rfl, Below.refl _ _⟩
end Go.Proofs.Ytomfmkddfgpmkaa

/-! What is wrong with a graph, of no nodes or of some, by the program and by the document's answer. -/

namespace Go.Proofs.Ytomfmkddfgpmkaa
open Go Go.RowKit Fl

set_option maxRecDepth 100000 in
set_option maxHeartbeats 1600000 in
theorem fault_gz (v : Value) (Z : List (List Int)) (hz : Z.length ≤ 9223372036854775807) (hrow : ∀ i (h : i < Z.length), Z[i].length ≤ 9223372036854775806) (w : World) (h : GZ w v Z) :
    Calls Try.prog 27 #[v] w fun e w' => e = .returned (I (Fl.errF Z)) ∧ w = w' := by
  obtain ⟨ga, cap, hv, h⟩ := h
  subst hv
  have H := Lib.hid h
  obtain ⟨n, hn⟩ : ∃ n, n = Z.length := ⟨_, rfl⟩
  rw [← hn] at hz ⊢
  by_cases hbig : 60000 < n
  · have hd : decide ((60000 : Int) < (n : Int)) = true := by simp; omega
    have HE := Lib.hid (show Fl.errF Z = 2 by unfold Fl.errF; rw [if_pos (by omega)])
    clear h hn hrow
    go_enter Try.func27, Try.ntmps27
    go_wp2_with fail
    go_ret
    exact ⟨by rw [HE.out]; rfl, rfl⟩
  · have hd : decide ((60000 : Int) < (n : Int)) = false := by simp; omega
    have HN := Lib.hid (And.intro hn (And.intro hbig hrow))
    clear h hn hrow hbig
    go_enter Try.func27, Try.ntmps27
    go_wp2_with fail
    go_loop [12] (fun iv => ∃ i : Nat, i ≤ n ∧ iv = I (i : Int) ∧ ∀ q, q < i → ∀ (hq : q < Z.length) j (hj : j < Z[q].length), Fl.inB Z.length Z[q][j] = true) (fun iv => n - (intOf iv).toNat)
    case atStart => exact ⟨0, Nat.zero_le _, rfl, fun q hq => absurd hq (by omega)⟩
    case round =>
      obtain ⟨i, hi, rfl, hq⟩ := hrel
      have HQ := Lib.hid hq
      clear hq
      by_cases hlt : i < n
      · have hiZ : i < Z.length := by have := HN.out.1; omega
        obtain ⟨bg, rv, hga, _, c0, ra, rc, hrv, hrw⟩ := H.out i hiZ
        subst hga hrv
        obtain ⟨L, hL⟩ : ∃ L, L = Z[i].length := ⟨_, rfl⟩
        rw [← hL] at c0
        have HR := Lib.hid (And.intro hrw hL)
        have hLb : (L : Int) ≤ 9223372036854775806 := by have := HN.out.2.2 i hiZ; omega
        have d1 : decide (i < n) = true := by simpa using hlt
        have HI := Lib.hid hlt
        have HZ := Lib.hid hiZ
        clear hrw hL hlt
        go_wp2_with fail
        go_loop [18] (fun jv => ∃ j : Nat, j ≤ L ∧ jv = I (j : Int) ∧ ∀ q, q < j → ∀ (hq : q < Z[i].length), Fl.inB Z.length Z[i][q] = true) (fun jv => L - (intOf jv).toNat)
        case atStart => exact ⟨0, Nat.zero_le _, rfl, fun q hq => absurd hq (by omega)⟩
        case round =>
          obtain ⟨j, hj, rfl, hjq⟩ := hrel
          have HJ := Lib.hid hjq
          clear hjq
          by_cases hjl : j < L
          · have hjZ : j < Z[i].length := by have := HR.out.2; omega
            obtain ⟨g, hra, hgl, c1⟩ := HR.out.1 j hjZ
            subst hra
            obtain ⟨x, hx⟩ : ∃ x, x = Z[i][j] := ⟨_, rfl⟩
            replace c1 : w.cell? ⟨g, j, none⟩ = some (I x) := by rw [hx]; exact c1
            have HX := Lib.hid (And.intro hx (And.intro hjl hjZ))
            have d2 : decide (j < L) = true := by simpa using hjl
            have hjI : (j : Int) < (L : Int) := by omega
            clear hx hgl
            by_cases hin : Fl.inB n x = true
            · have hb : 0 ≤ x ∧ x < (n : Int) := by unfold Fl.inB at hin; simpa using hin
              obtain ⟨hb1, hb2⟩ := hb
              have e1 : decide (x < 0) = false := by simp; omega
              have e2 : decide ((n : Int) ≤ x) = false := by simp; omega
              have HIN := Lib.hid hin
              clear hin
              go_wp2_with fail
              go_round
              case rel => exact ⟨j + 1, by have := HX.out.2.1; omega, by go_num, fun q hq hq2 => by
                rcases Nat.lt_or_ge q j with h | h
                · exact HJ.out q h hq2
                · obtain rfl : q = j := by omega
                  have h9 := HIN.out; rw [HX.out.1, HN.out.1] at h9; exact h9⟩
              case measure => have := HX.out.2.1; simp [intOf]; omega
            · have HIN := Lib.hid (show Fl.errF Z = 3 from Fl.errF_bad (by rw [← HN.out.1]; exact HN.out.2.1) HZ.out HX.out.2.2 (bad_in HX.out.1 HN.out.1 hin))
              by_cases hneg : x < 0
              · have e1 : decide (x < 0) = true := by simpa using hneg
                clear hin
                go_wp2_with fail
                go_ret
                exact ⟨by rw [HIN.out]; rfl, rfl⟩
              · have e1 : decide (x < 0) = false := by simpa using hneg
                have hge : (n : Int) ≤ x := by unfold Fl.inB at hin; simp at hin; omega
                have e2 : decide ((n : Int) ≤ x) = true := by simpa using hge
                clear hin
                go_wp2_with fail
                go_ret
                exact ⟨by rw [HIN.out]; rfl, rfl⟩
          · have d2 : decide (j < L) = false := by simpa using hjl
            have HD := Lib.hid (show ∀ q, q < i + 1 → ∀ (hq : q < Z.length) j (hj : j < Z[q].length), Fl.inB Z.length Z[q][j] = true from fun q hq hq2 j' hj' => by
              rcases Nat.lt_or_ge q i with h | h
              · exact HQ.out q h hq2 j' hj'
              · obtain rfl : q = i := by omega
                exact HJ.out j' (by have := HR.out.2; omega) hj')
            clear hjl
            go_wp2_with fail
            go_round
            case rel => exact ⟨i + 1, by have := HI.out; omega, by go_num, HD.out⟩
            case measure => have := HI.out; simp [intOf]; omega
      · have d1 : decide (i < n) = false := by simpa using hlt
        have HE := Lib.hid (show Fl.errF Z = 0 from Fl.errF_ok (by rw [← HN.out.1]; exact HN.out.2.1) (fun q hq j hj => HQ.out q (by have := HN.out.1; omega) hq j hj))
        clear hlt
        go_wp2_with fail
        go_ret
        exact ⟨by rw [HE.out]; rfl, rfl⟩
set_option maxRecDepth 100000 in
set_option maxHeartbeats 1600000 in
theorem check_gz (v : Value) (Z : List (List Int)) (hz : Z.length ≤ 9223372036854775807) (hrow : ∀ i (h : i < Z.length), Z[i].length ≤ 9223372036854775806) (w : World) (h : GZ w v Z) :
    Calls Try.prog 13 #[v] w fun e w' => e = .returned (I (Fl.errF Z)) ∧ w = w' := by
  obtain ⟨ga, cap, hv, h⟩ := h
  subst hv
  have H := Lib.hid h
  obtain ⟨n, hn⟩ : ∃ n, n = Z.length := ⟨_, rfl⟩
  rw [← hn] at hz ⊢
  by_cases hbig : 60000 < n
  · have hd : decide ((60000 : Int) < (n : Int)) = true := by simp; omega
    have HE := Lib.hid (show Fl.errF Z = 2 by unfold Fl.errF; rw [if_pos (by omega)])
    clear h hn hrow
    go_enter Try.func13, Try.ntmps13
    go_wp2_with fail
    go_ret
    exact ⟨by rw [HE.out]; rfl, rfl⟩
  · have hd : decide ((60000 : Int) < (n : Int)) = false := by simp; omega
    have HN := Lib.hid (And.intro hn (And.intro hbig hrow))
    clear h hn hrow hbig
    go_enter Try.func13, Try.ntmps13
    go_wp2_with fail
    go_loop [12] (fun iv => ∃ i : Nat, i ≤ n ∧ iv = I (i : Int) ∧ ∀ q, q < i → ∀ (hq : q < Z.length) j (hj : j < Z[q].length), Fl.inB Z.length Z[q][j] = true) (fun iv => n - (intOf iv).toNat)
    case atStart => exact ⟨0, Nat.zero_le _, rfl, fun q hq => absurd hq (by omega)⟩
    case round =>
      obtain ⟨i, hi, rfl, hq⟩ := hrel
      have HQ := Lib.hid hq
      clear hq
      by_cases hlt : i < n
      · have hiZ : i < Z.length := by have := HN.out.1; omega
        obtain ⟨bg, rv, hga, _, c0, ra, rc, hrv, hrw⟩ := H.out i hiZ
        subst hga hrv
        obtain ⟨L, hL⟩ : ∃ L, L = Z[i].length := ⟨_, rfl⟩
        rw [← hL] at c0
        have HR := Lib.hid (And.intro hrw hL)
        have hLb : (L : Int) ≤ 9223372036854775806 := by have := HN.out.2.2 i hiZ; omega
        have d1 : decide (i < n) = true := by simpa using hlt
        have HI := Lib.hid hlt
        have HZ := Lib.hid hiZ
        clear hrw hL hlt
        go_wp2_with fail
        go_loop [18] (fun jv => ∃ j : Nat, j ≤ L ∧ jv = I (j : Int) ∧ ∀ q, q < j → ∀ (hq : q < Z[i].length), Fl.inB Z.length Z[i][q] = true) (fun jv => L - (intOf jv).toNat)
        case atStart => exact ⟨0, Nat.zero_le _, rfl, fun q hq => absurd hq (by omega)⟩
        case round =>
          obtain ⟨j, hj, rfl, hjq⟩ := hrel
          have HJ := Lib.hid hjq
          clear hjq
          by_cases hjl : j < L
          · have hjZ : j < Z[i].length := by have := HR.out.2; omega
            obtain ⟨g, hra, hgl, c1⟩ := HR.out.1 j hjZ
            subst hra
            obtain ⟨x, hx⟩ : ∃ x, x = Z[i][j] := ⟨_, rfl⟩
            replace c1 : w.cell? ⟨g, j, none⟩ = some (I x) := by rw [hx]; exact c1
            have HX := Lib.hid (And.intro hx (And.intro hjl hjZ))
            have d2 : decide (j < L) = true := by simpa using hjl
            have hjI : (j : Int) < (L : Int) := by omega
            clear hx hgl
            by_cases hin : Fl.inB n x = true
            · have hb : 0 ≤ x ∧ x < (n : Int) := by unfold Fl.inB at hin; simpa using hin
              obtain ⟨hb1, hb2⟩ := hb
              have e1 : decide (x < 0) = false := by simp; omega
              have e2 : decide ((n : Int) ≤ x) = false := by simp; omega
              have HIN := Lib.hid hin
              clear hin
              go_wp2_with fail
              go_round
              case rel => exact ⟨j + 1, by have := HX.out.2.1; omega, by go_num, fun q hq hq2 => by
                rcases Nat.lt_or_ge q j with h | h
                · exact HJ.out q h hq2
                · obtain rfl : q = j := by omega
                  have h9 := HIN.out; rw [HX.out.1, HN.out.1] at h9; exact h9⟩
              case measure => have := HX.out.2.1; simp [intOf]; omega
            · have HIN := Lib.hid (show Fl.errF Z = 3 from Fl.errF_bad (by rw [← HN.out.1]; exact HN.out.2.1) HZ.out HX.out.2.2 (bad_in HX.out.1 HN.out.1 hin))
              by_cases hneg : x < 0
              · have e1 : decide (x < 0) = true := by simpa using hneg
                clear hin
                go_wp2_with fail
                go_ret
                exact ⟨by rw [HIN.out]; rfl, rfl⟩
              · have e1 : decide (x < 0) = false := by simpa using hneg
                have hge : (n : Int) ≤ x := by unfold Fl.inB at hin; simp at hin; omega
                have e2 : decide ((n : Int) ≤ x) = true := by simpa using hge
                clear hin
                go_wp2_with fail
                go_ret
                exact ⟨by rw [HIN.out]; rfl, rfl⟩
          · have d2 : decide (j < L) = false := by simpa using hjl
            have HD := Lib.hid (show ∀ q, q < i + 1 → ∀ (hq : q < Z.length) j (hj : j < Z[q].length), Fl.inB Z.length Z[q][j] = true from fun q hq hq2 j' hj' => by
              rcases Nat.lt_or_ge q i with h | h
              · exact HQ.out q h hq2 j' hj'
              · obtain rfl : q = i := by omega
                exact HJ.out j' (by have := HR.out.2; omega) hj')
            clear hjl
            go_wp2_with fail
            go_round
            case rel => exact ⟨i + 1, by have := HI.out; omega, by go_num, HD.out⟩
            case measure => have := HI.out; simp [intOf]; omega
      · have d1 : decide (i < n) = false := by simpa using hlt
        have HE := Lib.hid (show Fl.errF Z = 0 from Fl.errF_ok (by rw [← HN.out.1]; exact HN.out.2.1) (fun q hq j hj => HQ.out q (by have := HN.out.1; omega) hq j hj))
        clear hlt
        go_wp2_with fail
        go_ret
        exact ⟨by rw [HE.out]; rfl, rfl⟩
end Go.Proofs.Ytomfmkddfgpmkaa
