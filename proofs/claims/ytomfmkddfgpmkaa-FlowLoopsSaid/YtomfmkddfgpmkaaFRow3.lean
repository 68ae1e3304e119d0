/-
  FlowLoops: the walk of its body.
-/
import Derived.Test.YtomfmkddfgpmkaaFLpW
import Derived.Test.YtomfmkddfgpmkaaFRow4
namespace Go.Proofs.Ytomfmkddfgpmkaa
open Go Go.RowKit Fl

/-- Loops as the law reads them. -/
def LoopsZ (ls : List (Nat × List Nat)) (v : Value) (W : World) : Prop :=
  ∃ a c, v = .slice a ls.length c ∧ ∀ i (h : i < ls.length), ∃ g nv, a = some ⟨g, 0, none⟩ ∧ g < W.heap.size ∧ W.cell? ⟨g, i * 2, none⟩ = some (I ((ls[i].1 : Nat) : Int)) ∧ W.cell? ⟨g, i * 2 + 1, none⟩ = some nv ∧ RowZ W nv (ls[i].2.map fun n : Nat => (n : Int))
theorem LoopsZ.below {ls : List (Nat × List Nat)} {v : Value} {W W' : World} (h : LoopsZ ls v W) (hb : Below W.heap.size W W') : LoopsZ ls v W' := by
  obtain ⟨a, c, e, h⟩ := h
  refine ⟨a, c, e, fun i hi => ?_⟩
  obtain ⟨g, nv, h1, h2, h3, h4, h5⟩ := h i hi
  exact ⟨g, nv, h1, Nat.lt_of_lt_of_le h2 hb.size, cell_below hb h2 h3, cell_below hb h2 h4, h5.below hb⟩
theorem LoopsZ.at {ls : List (Nat × List Nat)} {a : Option Addr} {n c : Nat} {W : World} (h : LoopsZ ls (.slice a n c) W) (i : Nat) (hi : i < ls.length) : ∃ g nv, a = some ⟨g, 0, none⟩ ∧ g < W.heap.size ∧ W.cell? ⟨g, i * 2, none⟩ = some (I ((ls[i].1 : Nat) : Int)) ∧ W.cell? ⟨g, i * 2 + 1, none⟩ = some nv ∧ RowZ W nv (ls[i].2.map fun n : Nat => (n : Int)) := by
  obtain ⟨a', c', e, h⟩ := h
  injection e with e1 e2 e3
  subst e1
  exact h i hi
theorem loopsZ_of {E base : Nat} {ls : List (Nat × List Nat)} {v : Value} {W : World} {vs : List Value} (h1 : vs.length = ls.length) (h2 : W.ownsRow base E 2 v ls.length (cellsL ls vs)) (h3 : ∀ i (h : i < ls.length) (h' : i < vs.length), Nums W base vs[i] ls[i].2 ∧ (vs[i].ownBlock = none ∨ vs[i].ownBlock ≠ v.ownBlock)) : LoopsZ ls v W := by
  rcases own_slice h2 with ⟨e, e2⟩ | ⟨g, c, e⟩
  · exact ⟨none, 0, by rw [e, e2], fun i hi => absurd hi (by omega)⟩
  · subst e
    refine ⟨_, c, rfl, fun i hi => ?_⟩
    have hc := cellsL_get ls vs i h1 hi (by omega)
    have hl := cellsL_len ls vs h1
    exact ⟨g, vs[i]'(by omega), rfl, (h2.lt g rfl).2, by rw [Nat.mul_comm i 2, h2.cellAt (2 * i) (by omega), hc.1], by rw [Nat.mul_comm i 2, h2.cellAt (2 * i + 1) (by omega), hc.2], nums_rowZ (h3 i hi (by omega)).1⟩
theorem LoopsW.z {base : Nat} {ls : List (Nat × List Nat)} {v : Value} {W : World} (h : LoopsW base ls v W) : LoopsZ ls v W := by
  obtain ⟨vs, h1, h2, h3⟩ := h
  exact loopsZ_of h1 h2 h3
theorem LoopsR.z {base : Nat} {ls : List (Nat × List Nat)} {v : Value} {W : World} (h : LoopsR base ls v W) : LoopsZ ls v W := by
  obtain ⟨vs, h1, h2, h3⟩ := h
  exact loopsZ_of h1 h2 h3

set_option maxRecDepth 100000 in
theorem Doms_nil (a : Option Addr) (c : Nat) (w : World) :
    Calls Try.prog 24 #[.slice a 0 c] w fun e w' => ∃ b, e = .returned (.slice (some ⟨b, 0, none⟩) 0 0) ∧ Below w.heap.size w w' := by
  have hmk : ∀ u : World, (Instr.makeSlice 44 (.int .i64 0) (.int .i64 0)).run Try.prog u = .ok (.slice (some ⟨u.heap.size, 0, none⟩) 0 0) (u.alloc (.cells #[] 46)) := fun u => mkBBn 0 (by omega) u
  have HC := Lib.hid (Reach_nil a c w)
  go_enter Try.func24, Try.ntmps24
  go_wp2_with fail
  refine HC.out.mono ?_
  rintro e w1 ⟨b, rfl, hk, hb⟩
  obtain ⟨W2, hW2⟩ : ∃ W, W = w1.alloc (.cells #[] 46) := ⟨_, rfl⟩
  obtain ⟨bo, hbo⟩ : ∃ b, b = w1.heap.size := ⟨_, rfl⟩
  have FIN := Lib.hid (show Below w.heap.size w W2 by rw [hW2]; exact hb.alloc hb.size _)
  have HW2 := Lib.hid (And.intro hW2 hbo)
  clear hk hb HC hW2 hbo
  go_upto_region 3 with (fail)
  rw [← HW2.out.2]
  change Code.wp _ _ _ _ (w1.alloc (.cells #[] 46))
  rw [← HW2.out.1]
  go_wp2_with fail
  go_loopw [15] (fun iv W => iv = I 0 ∧ W = W2) (fun _ _ => 0)
  case atStart => exact ⟨rfl, rfl⟩
  case round =>
    obtain ⟨rfl, rfl⟩ := hrel
    go_wp2_with fail
    go_ret
    exact ⟨_, rfl, FIN.out⟩
set_option maxRecDepth 100000 in
theorem RefLoops_nil (a : Option Addr) (c : Nat) (w : World) :
    Calls Try.prog 23 #[.slice a 0 c] w fun e w' => LoopsRT w [] w' e := by
  have HC := Lib.hid (Doms_nil a c w)
  go_enter Try.func23, Try.ntmps23
  go_wp2_with fail
  refine HC.out.mono ?_
  rintro e w1 ⟨b, rfl, hb⟩
  have FIN := Lib.hid (show LoopsRT w [] w1 (.returned (.slice none 0 0)) from ⟨_, rfl, LoopsR.start _ _, hb⟩)
  clear hb HC
  go_wp2_with fail
  go_loopw [4, 20] (fun lv iv W => lv = .slice none 0 0 ∧ iv = I 0 ∧ W = w1) (fun _ _ _ => 0)
  case atStart => exact ⟨rfl, rfl, rfl⟩
  case round =>
    obtain ⟨rfl, rfl, rfl⟩ := hrel
    go_wp2_with fail
    go_ret
    exact FIN.out
theorem RefLoops_own (v : Value) (Z : List (List Int)) (base : Nat) (ht : TameZ Z) (he : errF Z = 0) (w : World) (h : OwnG base Z v w) :
    Calls Try.prog 23 #[v] w fun e w' => LoopsRT w (lpsL (natG Z)) w' e := by
  by_cases hz : Z = []
  · subst hz
    obtain ⟨a, c, rfl⟩ := h.size
    exact RefLoops_nil a c w
  · obtain ⟨bg, c, e, _⟩ := grB_own h he hz
    subst e
    exact RefLoops_any bg c Z.length Z base ht he rfl (List.length_pos_iff.2 hz) w h
theorem lps_small {G : List (List Nat)} (hG : GOk G) (hn : G.length ≤ 24) : (lpsL G).length ≤ 24 ∧ ∀ p ∈ lpsL G, p.1 ≤ 24 ∧ p.2.length ≤ 24 := by
  by_cases h0 : G.length = 0
  · unfold lpsL
    rw [if_pos h0]
    exact ⟨by simp, fun p hp => by cases hp⟩
  · rw [lpsL_is h0]
    refine ⟨Nat.le_trans (loopL_len _ _ _ _) hn, ?_⟩
    have key : ∀ j, j ≤ G.length → ∀ p ∈ loopL (intoF G) G.length (ovG G) j, p.1 ≤ 24 ∧ p.2.length ≤ 24 := by
      intro j
      induction j with
      | zero => intro _ p hp; simp [loopL] at hp
      | succ j ih =>
        intro hj p hp
        by_cases hx : ∃ t, t < G.length ∧ j ∈ row G t ∧ DomG G j t
        · obtain ⟨t, h1, h2, h3⟩ := hx
          classical
          rw [loop_some hG h0 (by omega) h1 h2 h3 (f := fun x => decide (x = j ∨ ∃ t, t < G.length ∧ j ∈ row G t ∧ DomG G j t ∧ Av (EG G) (fun y => y ≠ j) x t)) (fun x _ => decide_eq_true_iff)] at hp
          rcases List.mem_append.1 hp with h4 | h4
          · exact ih (by omega) p h4
          · rw [List.mem_singleton.1 h4]
            refine ⟨by show j ≤ 24; omega, ?_⟩
            have h5 := List.length_filter_le (fun x => decide (x = j ∨ ∃ t, t < G.length ∧ j ∈ row G t ∧ DomG G j t ∧ Av (EG G) (fun y => y ≠ j) x t)) (List.range G.length)
            rw [List.length_range] at h5
            exact Nat.le_trans h5 hn
        · rw [loop_none hG h0 (by omega) (fun t h1 h2 h3 => hx ⟨t, h1, h2, h3⟩)] at hp
          exact ih (by omega) p hp
    exact key _ (Nat.le_refl _)

set_option maxRecDepth 100000 in
set_option maxHeartbeats 3200000 in
theorem flowLoops_any (v : Value) (Z : List (List Int)) (ht : Z.length ≤ 9223372036854775807 ∧ ∀ i (h : i < Z.length), Z[i].length ≤ 9223372036854775807) (w : World) (h : GZc w v Z) :
    Calls Try.prog 5 #[v] w fun e w' => e = .returned (.bool true) ∧ Below w.heap.size w w' := by
  obtain ⟨T, hT⟩ : ∃ T, T = tameF Z := ⟨_, rfl⟩
  have hTt : TameZ T := by rw [hT]; exact tameF_ok Z
  have HT := Lib.hid (And.intro hTt hT)
  obtain ⟨er, her⟩ : ∃ er, er = errF T := ⟨_, rfl⟩
  have HE := Lib.hid her
  have HH := Lib.hid (And.intro ht h)
  clear ht h hT hTt her
  go_enter Try.func5, Try.ntmps5
  go_wp2_with fail
  refine (awake_any w).mono ?_
  rintro e w1 ⟨rfl, b1⟩
  have HC := Lib.hid (tame_any v Z HH.out.1 w1 (HH.out.2.below b1))
  have H1 := Lib.hid b1
  clear b1
  go_wp2_with fail
  refine HC.out.mono ?_
  rintro e w2 ⟨u, rfl, o2, b2⟩
  rw [← HT.out.2] at o2
  have HC2 := Lib.hid (Twin_any u T ⟨by have := HT.out.1.1; omega, HT.out.1.2⟩ w2 o2.gz)
  have H2 := Lib.hid (And.intro o2 (belowB H1.out b2))
  clear o2 b2 HC H1
  go_wp2_with fail
  refine HC2.out.mono ?_
  rintro e w3 ⟨m, rfl, o3, b3⟩
  have HC3 := Lib.hid (Loops_own m T _ HT.out.1 w3 o3)
  rw [← HE.out] at HC3
  obtain ⟨lx, hlx⟩ : ∃ lx, lx = (if er = 0 then lpsL (natG T) else []) := ⟨_, rfl⟩
  rw [← hlx] at HC3
  have HLX := Lib.hid hlx
  clear hlx
  have H3 := Lib.hid (And.intro (H2.out.1.below b3) (belowB H2.out.2 b3))
  clear o3 b3 HC2 H2
  go_wp2_with fail
  refine HC3.out.mono ?_
  rintro e w4 ⟨va, rfl, n4, b4⟩
  obtain ⟨s1, k1, hva, hz⟩ := n4.z
  have H4 := Lib.hid (And.intro n4.z (And.intro (H3.out.1.below b4) (belowB H3.out.2 b4)))
  have HC4 := Lib.hid (check_gz u T (by have := HT.out.1.1; omega) (fun i hi => by have := HT.out.1.2 i hi; omega) w4 (H3.out.1.below b4).gz)
  rw [← HE.out] at HC4
  clear n4 b4 HC3 H3 hz
  rw [hva] at H4
  subst hva
  go_wp2_with fail
  refine HC4.out.mono ?_
  rintro e w5 ⟨rfl, rfl⟩
  clear HC4
  by_cases h0 : er = 0
  · subst h0
    have h0 : errF T = 0 := HE.out.symm
    obtain ⟨ls, hls⟩ : ∃ ls, ls = lpsL (natG T) := ⟨_, rfl⟩
    have hlx : lx = ls := by rw [HLX.out, if_pos rfl, hls]
    subst hlx
    have HC5 := Lib.hid (RefLoops_own u T _ HT.out.1 h0 w4 H4.out.2.1)
    rw [← hls] at HC5
    have hsm := lps_small (natG_ok h0) (by rw [natG_len]; exact HT.out.1.1)
    rw [← hls] at hsm
    have HS := Lib.hid hsm
    clear h0 hls hsm
    go_wp2_with fail
    refine HC5.out.mono ?_
    rintro e w5 ⟨vb, rfl, n5, b5⟩
    obtain ⟨s2, k2, hvb, hz2⟩ := n5.z
    obtain ⟨L, hL⟩ : ∃ L, L = lx.length := ⟨_, rfl⟩
    have HLL := Lib.hid hL
    have H5 := Lib.hid (And.intro (H4.out.1.below b5) (And.intro n5.z (belowB H4.out.2.2 b5)))
    rw [hvb] at H5
    rw [← hL] at H5 hvb ⊢
    subst hvb
    have hL24 : L ≤ 24 := by rw [hL]; exact HS.out.1
    have HST := Lib.hid (show Q4 w5 L (I 0) w5 from ⟨0, Nat.zero_le _, rfl, Below.refl _ _⟩)
    clear n5 b5 hz2 hL HC5 H4
    go_wp2_with fail
    go_loopw [44] (fun iv W => Q4 w5 L iv W) (fun iv _ => L - (intOf iv).toNat)
    case atStart => exact HST.out
    case round =>
      obtain ⟨i, hi, rfl, hbe⟩ := hrel
      by_cases hiL : i < L
      · have hil : i < lx.length := by rw [← HLL.out]; exact hiL
        obtain ⟨g1, n1, e1, l1, c1, c2, r1⟩ := (H5.out.1.below hbe).at i hil
        obtain ⟨g2, n2, e2, l2, c3, c4, r2⟩ := (H5.out.2.1.below hbe).at i hil
        subst e1 e2
        obtain ⟨hd, hhd⟩ : ∃ hd, hd = lx[i].1 := ⟨_, rfl⟩
        obtain ⟨ns, hns⟩ : ∃ ns, ns = (lx[i].2.map fun n : Nat => (n : Int)) := ⟨_, rfl⟩
        have hsl := HS.out.2 lx[i] (List.getElem_mem hil)
        have hnl : ns.length ≤ 24 := by rw [hns, List.length_map]; exact hsl.2
        rw [← hhd] at c1 c3
        rw [← hns] at r1 r2
        have y1 : ∀ x : WCls wr, x.w.cell? ⟨g1, i * 2, none⟩ = some (I (hd : Int)) := fun x => cell_below x.below l1 c1
        have y2 : ∀ x : WCls wr, x.w.cell? ⟨g1, i * 2 + 1, none⟩ = some n1 := fun x => cell_below x.below l1 c2
        have y3 : ∀ x : WCls wr, x.w.cell? ⟨g2, i * 2, none⟩ = some (I (hd : Int)) := fun x => cell_below x.below l2 c3
        have y4 : ∀ x : WCls wr, x.w.cell? ⟨g2, i * 2 + 1, none⟩ = some n2 := fun x => cell_below x.below l2 c4
        have HSM := Lib.hid (show ∀ x : WCls wr, Calls Try.prog 15 #[n1, n2] x.w fun e w'' => e = .returned (.bool true) ∧ ∃ y : WCls wr, w'' = y.w from fun x => by
          refine (Same_any n1 n2 ns ns (by omega) (by omega) x.w (r1.below x.below) (r2.below x.below)).mono ?_
          rintro e w'' ⟨rfl, hb9⟩
          exact ⟨by simp, ⟨w'', belowB x.below hb9⟩, rfl⟩)
        have HI := Lib.hid (And.intro hiL hbe)
        have f0 : decide (i < L) = true := by simpa using hiL
        have f1 : (0 : Int) ≤ (i : Int) := by omega
        have f2 : (i : Int) < (L : Int) := by omega
        have f3 : (i : Int) ≤ 24 := by omega
        clear c1 c2 c3 c4 r1 r2 l1 l2 hhd hns hnl hsl hil hiL hbe hi HST
        go_upto_region 14 with (fail)
        refine wp_region_cls (by kernel_rfl) (by kernel_rfl) ?_
        repeat (go_big_quiet_step ((go_at_call 15; exact HSM.out _)))
        refine wpQuiet_nil ?_
        intro x
        obtain ⟨W8, hb8⟩ := x
        have FIN := Lib.hid (show Q4 w5 L (I ((i : Int) + 1)) W8 from ⟨i + 1, HI.out.1, rfl, belowB HI.out.2 hb8⟩)
        dsimp only
        clear hb8 y1 y2 y3 y4
        go_wp2_with fail
        exact ⟨FIN.out, by have h1 := HI.out.1; simp [intOf]; omega⟩
      · have d0 : decide (i < L) = false := by simpa using hiL
        have FIN := Lib.hid (belowB H5.out.2.2 hbe)
        clear hbe hi hiL HST
        go_wp2_with fail
        go_ret
        exact ⟨rfl, FIN.out⟩
  · have hl0 : lx = [] := by rw [HLX.out, if_neg h0]
    subst hl0
    have g0 : (er != 0) = true := by simp; exact h0
    have FIN := Lib.hid H4.out.2.2
    clear h0 H4
    go_wp2_with fail
    go_ret
    exact ⟨rfl, FIN.out⟩
end Go.Proofs.Ytomfmkddfgpmkaa
