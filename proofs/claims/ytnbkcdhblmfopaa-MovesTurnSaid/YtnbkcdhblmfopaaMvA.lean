/-
  Moves done one by one, as the statement asks: walked.
-/
import Derived.Test.YtnbkcdhblmfopaaMvL
namespace Go.Proofs.Ytnbkcdhblmfopaa
open Go Go.RowKit Go.Maps Mv

theorem neq_mv (a b : Int) (W : World) : (binOp .neq 31 (.agg #[I a, I b]) (.agg #[I a, I b])).run Try.prog W = .ok (.bool false) W := by
  have hn : ((Try.prog.fieldsOf 31).toList.map fun f => (decide (f.name ≠ "_"), f.type, f.offset)) = [(true, 3, 0), (true, 3, 1)] := by kernel_rfl
  rw [run_neq_struct, run_equalIn_agg _ _ _ _ _ (by kernel_rfl) (by kernel_rfl)]
  generalize (Try.prog.fieldsOf 31).toList = fs at hn
  rcases fs with _ | ⟨f, _ | ⟨g, _ | ⟨x, r⟩⟩⟩
  · simp at hn
  · simp at hn
  · simp only [List.map_cons, List.map_nil, List.cons.injEq, Prod.mk.injEq, and_true] at hn
    obtain ⟨⟨_, h2, h3⟩, _, h5, h6⟩ := hn
    simp only [Op.eqFields, h2, h3, h5, h6]
    simp [go_sem, Try.underlying3]
  · simp at hn
def OL (w : World) (n : Nat) (iv : Value) (W : World) : Prop := ∃ i : Nat, i ≤ n ∧ iv = I (i : Int) ∧ Below w.heap.size w W

set_option maxRecDepth 100000 in
set_option maxHeartbeats 3200000 in
theorem movesOrder_body (a : Option Addr) (n c : Nat) (l : List M) (hn : n = l.length) (hnc : n ≤ c) (hwf : WfL l) (spare : Int) (w : World) (h : MovZ w (.slice a n c) l) :
    Calls Try.prog 3 #[.slice a n c, I spare] w fun e w' => LawT w w' e := by
  have HAW := Lib.hid (awake_any w)
  by_cases h60 : n ≤ 60
  · obtain ⟨l', hl'⟩ : ∃ l' : List M, l' = l := ⟨_, rfl⟩
    rw [← hl'] at h hn hwf
    have HH := Lib.hid (And.intro h (And.intro hn.symm hwf))
    have e0 : (n : Int) ≤ 60 := by omega
    have e1 : (n : Int) ≤ (c : Int) := by omega
    have e2 : (0 : Int) ≤ (n : Int) := by omega
    clear h hn hwf hl'
    go_enter Try.func3, Try.ntmps3
    go_wp2_with fail
    refine HAW.out.mono ?_
    rintro e w1 ⟨rfl, hb1⟩
    have hz1 := HH.out.1.below movV_stays hb1
    have HL := Lib.hid (list_any (.slice a n c) l' (by rw [HH.out.2.1]; omega) w1 hz1)
    have H1 := Lib.hid (And.intro hb1 hz1)
    clear hb1 hz1
    go_wp2_with fail
    refine HL.out.mono ?_
    rintro e w2 ⟨g, cg, rfl, hcg, hown, hb2⟩
    have hmo := list_own hown
    have hz2 := hmo.z
    have HP := Lib.hid (order_any _ l' (by rw [HH.out.2.1]; omega) HH.out.2.2 spare w2 hz2)
    have c77 : w2.cell? ⟨g, n * 2, none⟩ = some (I 77) := by
      rw [← HH.out.2.1, World.ownsRow.cellAt hown _ (by omega), cellsM_app, List.getElem?_append_right (by rw [cellsM_len]; exact Nat.le_refl _), cellsM_len, Nat.sub_self]
      rfl
    have hgl := (World.ownsRow.lt hown g rfl).2
    have H2 := Lib.hid (And.intro (below_tr H1.out.1 hb2) (And.intro (H1.out.2.below movV_stays hb2) (And.intro hz2 (And.intro c77 hgl))))
    rw [HH.out.2.1] at HP hcg ⊢
    have e3 : ((n + 1 : Nat) : Int) ≤ (cg : Int) := by omega
    clear hcg hown hb2 hmo hz2 c77 hgl
    go_wp2_with fail
    refine HP.out.mono ?_
    rintro e w3 ⟨v3, c3, rfl, hor, hb3⟩
    have hz3 := H2.out.2.2.1.below movV_stays hb3
    have hl3 := H2.out.2.1.below movV_stays hb3
    have HBK := Lib.hid (back_any _ l' (by rw [HH.out.2.1]; omega) w3 hz3)
    have c77 := cell_below hb3 H2.out.2.2.2.2 H2.out.2.2.2.1
    have HOR := Lib.hid hor
    have H3 := Lib.hid (And.intro (below_tr H2.out.1 hb3) (And.intro hl3 (And.intro c77 (Nat.lt_of_lt_of_le H2.out.2.2.2.2 hb3.size))))
    rw [HH.out.2.1] at HBK
    clear hor hb3 hz3 hl3 c77
    go_wp2_with fail
    refine HBK.out.mono ?_
    rintro e w4 ⟨u4, rfl, hmo4, hb4⟩
    obtain ⟨a4, k4, hu4⟩ := hmo4.row
    rw [HH.out.2.1] at hu4
    have H4 := Lib.hid (And.intro (below_tr H3.out.1 hb4) (And.intro (H3.out.2.1.below movV_stays hb4) (And.intro (cell_below hb4 H3.out.2.2.2 H3.out.2.2.1) (And.intro (Nat.lt_of_lt_of_le H3.out.2.2.2 hb4.size) (And.intro hmo4.z (show w3.heap.size ≤ w4.heap.size from hb4.size))))))
    have HB34 := Lib.hid hb4
    subst hu4
    clear hmo4 hb4
    have HS := Lib.hid (show OL w4 n (I 0) w4 from ⟨0, Nat.zero_le _, rfl, Below.refl _ _⟩)
    go_wp2_with fail
    go_loopw [29] (fun iv W => OL w4 n iv W) (fun iv _ => n - (intOf iv).toNat)
    case atStart => exact HS.out
    case round =>
      obtain ⟨i, hi, rfl, hbe⟩ := hrel
      by_cases hin : i < n
      · obtain ⟨xt, xf, hx⟩ : ∃ x y, mv l' i = (x, y) := ⟨_, _, rfl⟩
        have hil : i < l'.length := by rw [HH.out.2.1]; exact hin
        obtain ⟨b, _, hab, hbl, c0, e0⟩ := (H4.out.2.1.below movV_stays hbe).at i hil
        obtain rfl := e0
        obtain ⟨b', _, hab', hbl', c1, e0'⟩ := (H4.out.2.2.2.2.1.below movV_stays hbe).at i hil
        obtain rfl := e0'
        rw [getD_mv hil, hx] at c0 c1
        have y0 : wr.cell? (b'.add (i * 2)) = some (I xt) := c1.f0
        have y1 : wr.cell? ⟨(b'.add (i * 2)).block, (b'.add (i * 2)).off + 1, none⟩ = some (I xf) := c1.f1
        obtain ⟨bx, hbx⟩ : ∃ g, g = wr.heap.size := ⟨_, rfl⟩
        obtain ⟨W1, hW1⟩ : ∃ W, W = wr.alloc (.cells #[I xt, I xf] 31) := ⟨_, rfl⟩
        have kx : Blk bx #[I xt, I xf] 31 W1 := by rw [hbx, hW1]; exact Blk.new _ _ _
        have hB1 : Below w4.heap.size w4 W1 := by rw [hW1]; exact hbe.alloc hbe.size _
        have c0' : FldsA W1 b (i * 2) (encM (xt, xf)) := by rw [hW1]; exact c0.al hbl _
        have z0 : W1.cell? (b.add (i * 2)) = some (I xt) := c0'.f0
        have z1 : W1.cell? ⟨(b.add (i * 2)).block, (b.add (i * 2)).off + 1, none⟩ = some (I xf) := c0'.f1
        have d0 : decide (i < n) = true := by simpa using hin
        have d1 : (0 : Int) ≤ (i : Int) := by omega
        have d2 : (i : Int) < (n : Int) := by omega
        have u0 := kx.get 0 (I xt) rfl
        have u1 := kx.get 1 (I xf) rfl
        have hneq := neq_mv xt xf
        have HT := Lib.hid (And.intro hin (And.intro hB1 (And.intro hW1 hbx)))
        subst hab hab'
        clear hil hbl hbl' c0 c1 c0' hx hbx hW1 kx hB1 hbe hin hi
        go_upto_region 9 with (fail)
        change Code.wp _ _ _ _ (wr.alloc (.cells #[I xt, I xf] 31))
        rw [← HT.out.2.2.2, ← HT.out.2.2.1]
        clear y0 y1
        go_quiet (fail)
        have HN := Lib.hid (show OL w4 n (I ((i : Int) + 1)) (W1.drewN nq) from ⟨i + 1, HT.out.1, rfl, below_drewN HT.out.2.1 nq⟩)
        go_wp2_with fail
        exact ⟨HN.out, by have := HT.out.1; simp [intOf]; omega⟩
      · have d0 : decide (i < n) = false := by simpa using hin
        have c77 := cell_below hbe H4.out.2.2.2.1 H4.out.2.2.1
        have hl5 := H4.out.2.1.below movV_stays hbe
        have HCK := Lib.hid (check_any a c l' (by rw [HH.out.2.1]; omega) (by rw [HH.out.2.1]; omega) spare true wr (by rw [HH.out.2.1]; exact hl5))
        rw [HH.out.2.1] at HCK
        have H5 := Lib.hid (And.intro (below_tr H4.out.1 hbe) (And.intro hl5 hbe))
        clear hl5 hbe hin hi
        go_wp2_with fail
        refine HCK.out.mono ?_
        rintro e w5 ⟨cc, rfl, hcc, hb5⟩
        have H6 := Lib.hid (And.intro (below_tr H5.out.1 hb5) (And.intro (H5.out.2.1.below movV_stays hb5) (below_tr HB34.out (below_tr H5.out.2.2 hb5))))
        clear hb5
        rcases hcc with ⟨rfl, hbad⟩ | ⟨rfl, hbad⟩
        · obtain ⟨rfl, rfl⟩ : c3 = 3 ∧ v3 = .slice none 0 0 := by
            rcases HOR.out with ⟨_, h1, h2⟩ | ⟨h1, _⟩
            · exact ⟨h1, h2⟩
            · exact absurd hbad h1
          have FIN := Lib.hid (show LawT w w5 (.returned (.bool true)) from ⟨rfl, H6.out.1⟩)
          clear hbad c77
          go_wp2_with fail
          go_ret
          exact FIN.out
        · obtain ⟨rfl, out, hol, hmo, hok⟩ : c3 = 0 ∧ ∃ out, out.length ≤ 2000 ∧ MovO w3 w2.heap.size 32 v3 out ∧ OrdOK l' spare out := by
            rcases HOR.out with ⟨h1, _⟩ | ⟨_, h1, h2⟩
            · exact absurd h1 hbad
            · exact ⟨h1, h2⟩
          have hd : Dis l' := Classical.byContradiction fun h => hbad (Or.inr h)
          have hsp : ∀ i, i < l'.length → tO l' i ≠ spare ∧ fR l' i ≠ spare := fun i hi => ⟨fun e => hbad (Or.inl ⟨i, hi, rfl, Or.inl e⟩), fun e => hbad (Or.inl ⟨i, hi, rfl, Or.inr e⟩)⟩
          have hmo5 := hmo.below H6.out.2.2
          have HB2 := Lib.hid (back_any2 v3 out hol w5 hmo5.z)
          have H7 := Lib.hid (And.intro hd (And.intro hsp (And.intro hol hok)))
          clear hbad hd hsp hol hok hmo hmo5 c77
          go_wp2_with fail
          refine HB2.out.mono ?_
          rintro e w6 ⟨u6, rfl, hmo6, hb6⟩
          have HRT := Lib.hid (right_any a c l' (by rw [HH.out.2.1]; omega) (by rw [HH.out.2.1]; omega) spare u6 out H7.out.2.2.1 H7.out.1 H7.out.2.1 H7.out.2.2.2 w6 (by rw [HH.out.2.1]; exact H6.out.2.1.below movV_stays hb6) hmo6.z)
          have H8 := Lib.hid (below_tr H6.out.1 hb6)
          rw [HH.out.2.1] at HRT
          clear hmo6 hb6
          go_wp2_with fail
          refine HRT.out.mono ?_
          rintro e w7 ⟨rfl, hb7⟩
          have FIN := Lib.hid (show LawT w w7 (.returned (.bool true)) from ⟨rfl, below_tr H8.out hb7⟩)
          clear hb7
          go_wp2_with fail
          go_ret
          exact FIN.out
  · obtain ⟨l', hl'⟩ : ∃ l' : List M, l' = l.take 60 := ⟨_, rfl⟩
    have hz := take_z h 60 (by omega)
    have hlk : (l.take 60).length = 60 := by rw [List.length_take]; omega
    have hwf' : WfL l' := by rw [hl']; exact take_mem hwf
    rw [← hl'] at hz hlk
    have HH := Lib.hid (And.intro hz (And.intro hlk hwf'))
    have e0 : (60 : Int) < (n : Int) := by omega
    have e1 : (60 : Int) ≤ (c : Int) := by omega
    clear h hn hwf hl' hz hlk hwf'
    go_enter Try.func3, Try.ntmps3
    go_wp2_with fail
    refine HAW.out.mono ?_
    rintro e w1 ⟨rfl, hb1⟩
    have hz1 := HH.out.1.below movV_stays hb1
    have HL := Lib.hid (list_any (.slice a 60 c) l' (by rw [HH.out.2.1]; omega) w1 hz1)
    have H1 := Lib.hid (And.intro hb1 hz1)
    clear hb1 hz1
    go_wp2_with fail
    refine HL.out.mono ?_
    rintro e w2 ⟨g, cg, rfl, hcg, hown, hb2⟩
    have hmo := list_own hown
    have hz2 := hmo.z
    have HP := Lib.hid (order_any _ l' (by rw [HH.out.2.1]; omega) HH.out.2.2 spare w2 hz2)
    have c77 : w2.cell? ⟨g, 60 * 2, none⟩ = some (I 77) := by
      rw [← HH.out.2.1, World.ownsRow.cellAt hown _ (by omega), cellsM_app, List.getElem?_append_right (by rw [cellsM_len]; exact Nat.le_refl _), cellsM_len, Nat.sub_self]
      rfl
    have hgl := (World.ownsRow.lt hown g rfl).2
    have H2 := Lib.hid (And.intro (below_tr H1.out.1 hb2) (And.intro (H1.out.2.below movV_stays hb2) (And.intro hz2 (And.intro c77 hgl))))
    rw [HH.out.2.1] at HP hcg ⊢
    have e3 : ((60 + 1 : Nat) : Int) ≤ (cg : Int) := by omega
    clear hcg hown hb2 hmo hz2 c77 hgl
    go_wp2_with fail
    refine HP.out.mono ?_
    rintro e w3 ⟨v3, c3, rfl, hor, hb3⟩
    have hz3 := H2.out.2.2.1.below movV_stays hb3
    have hl3 := H2.out.2.1.below movV_stays hb3
    have HBK := Lib.hid (back_any _ l' (by rw [HH.out.2.1]; omega) w3 hz3)
    have c77 := cell_below hb3 H2.out.2.2.2.2 H2.out.2.2.2.1
    have HOR := Lib.hid hor
    have H3 := Lib.hid (And.intro (below_tr H2.out.1 hb3) (And.intro hl3 (And.intro c77 (Nat.lt_of_lt_of_le H2.out.2.2.2.2 hb3.size))))
    rw [HH.out.2.1] at HBK
    clear hor hb3 hz3 hl3 c77
    go_wp2_with fail
    refine HBK.out.mono ?_
    rintro e w4 ⟨u4, rfl, hmo4, hb4⟩
    obtain ⟨a4, k4, hu4⟩ := hmo4.row
    rw [HH.out.2.1] at hu4
    have H4 := Lib.hid (And.intro (below_tr H3.out.1 hb4) (And.intro (H3.out.2.1.below movV_stays hb4) (And.intro (cell_below hb4 H3.out.2.2.2 H3.out.2.2.1) (And.intro (Nat.lt_of_lt_of_le H3.out.2.2.2 hb4.size) (And.intro hmo4.z (show w3.heap.size ≤ w4.heap.size from hb4.size))))))
    have HB34 := Lib.hid hb4
    subst hu4
    clear hmo4 hb4
    have HS := Lib.hid (show OL w4 60 (I 0) w4 from ⟨0, Nat.zero_le _, rfl, Below.refl _ _⟩)
    go_wp2_with fail
    go_loopw [29] (fun iv W => OL w4 60 iv W) (fun iv _ => 60 - (intOf iv).toNat)
    case atStart => exact HS.out
    case round =>
      obtain ⟨i, hi, rfl, hbe⟩ := hrel
      by_cases hin : i < 60
      · obtain ⟨xt, xf, hx⟩ : ∃ x y, mv l' i = (x, y) := ⟨_, _, rfl⟩
        have hil : i < l'.length := by rw [HH.out.2.1]; exact hin
        obtain ⟨b, _, hab, hbl, c0, e0⟩ := (H4.out.2.1.below movV_stays hbe).at i hil
        obtain rfl := e0
        obtain ⟨b', _, hab', hbl', c1, e0'⟩ := (H4.out.2.2.2.2.1.below movV_stays hbe).at i hil
        obtain rfl := e0'
        rw [getD_mv hil, hx] at c0 c1
        have y0 : wr.cell? (b'.add (i * 2)) = some (I xt) := c1.f0
        have y1 : wr.cell? ⟨(b'.add (i * 2)).block, (b'.add (i * 2)).off + 1, none⟩ = some (I xf) := c1.f1
        obtain ⟨bx, hbx⟩ : ∃ g, g = wr.heap.size := ⟨_, rfl⟩
        obtain ⟨W1, hW1⟩ : ∃ W, W = wr.alloc (.cells #[I xt, I xf] 31) := ⟨_, rfl⟩
        have kx : Blk bx #[I xt, I xf] 31 W1 := by rw [hbx, hW1]; exact Blk.new _ _ _
        have hB1 : Below w4.heap.size w4 W1 := by rw [hW1]; exact hbe.alloc hbe.size _
        have c0' : FldsA W1 b (i * 2) (encM (xt, xf)) := by rw [hW1]; exact c0.al hbl _
        have z0 : W1.cell? (b.add (i * 2)) = some (I xt) := c0'.f0
        have z1 : W1.cell? ⟨(b.add (i * 2)).block, (b.add (i * 2)).off + 1, none⟩ = some (I xf) := c0'.f1
        have d0 : decide ((i : Int) < 60) = true := by simp; omega
        have d1 : (0 : Int) ≤ (i : Int) := by omega
        have d2 : (i : Int) < (60 : Int) := by omega
        have u0 := kx.get 0 (I xt) rfl
        have u1 := kx.get 1 (I xf) rfl
        have hneq := neq_mv xt xf
        have HT := Lib.hid (And.intro hin (And.intro hB1 (And.intro hW1 hbx)))
        subst hab hab'
        clear hil hbl hbl' c0 c1 c0' hx hbx hW1 kx hB1 hbe hin hi
        go_upto_region 9 with (fail)
        change Code.wp _ _ _ _ (wr.alloc (.cells #[I xt, I xf] 31))
        rw [← HT.out.2.2.2, ← HT.out.2.2.1]
        clear y0 y1
        go_quiet (fail)
        have HN := Lib.hid (show OL w4 60 (I ((i : Int) + 1)) (W1.drewN nq) from ⟨i + 1, HT.out.1, rfl, below_drewN HT.out.2.1 nq⟩)
        go_wp2_with fail
        exact ⟨HN.out, by have := HT.out.1; simp [intOf]; omega⟩
      · have d0 : decide ((i : Int) < 60) = false := by simp; omega
        have c77 := cell_below hbe H4.out.2.2.2.1 H4.out.2.2.1
        have hl5 := H4.out.2.1.below movV_stays hbe
        have HCK := Lib.hid (check_any a c l' (by rw [HH.out.2.1]; omega) (by rw [HH.out.2.1]; omega) spare true wr (by rw [HH.out.2.1]; exact hl5))
        rw [HH.out.2.1] at HCK
        have H5 := Lib.hid (And.intro (below_tr H4.out.1 hbe) (And.intro hl5 hbe))
        clear hl5 hbe hin hi
        go_wp2_with fail
        refine HCK.out.mono ?_
        rintro e w5 ⟨cc, rfl, hcc, hb5⟩
        have H6 := Lib.hid (And.intro (below_tr H5.out.1 hb5) (And.intro (H5.out.2.1.below movV_stays hb5) (below_tr HB34.out (below_tr H5.out.2.2 hb5))))
        clear hb5
        rcases hcc with ⟨rfl, hbad⟩ | ⟨rfl, hbad⟩
        · obtain ⟨rfl, rfl⟩ : c3 = 3 ∧ v3 = .slice none 0 0 := by
            rcases HOR.out with ⟨_, h1, h2⟩ | ⟨h1, _⟩
            · exact ⟨h1, h2⟩
            · exact absurd hbad h1
          have FIN := Lib.hid (show LawT w w5 (.returned (.bool true)) from ⟨rfl, H6.out.1⟩)
          clear hbad c77
          go_wp2_with fail
          go_ret
          exact FIN.out
        · obtain ⟨rfl, out, hol, hmo, hok⟩ : c3 = 0 ∧ ∃ out, out.length ≤ 2000 ∧ MovO w3 w2.heap.size 32 v3 out ∧ OrdOK l' spare out := by
            rcases HOR.out with ⟨h1, _⟩ | ⟨_, h1, h2⟩
            · exact absurd h1 hbad
            · exact ⟨h1, h2⟩
          have hd : Dis l' := Classical.byContradiction fun h => hbad (Or.inr h)
          have hsp : ∀ i, i < l'.length → tO l' i ≠ spare ∧ fR l' i ≠ spare := fun i hi => ⟨fun e => hbad (Or.inl ⟨i, hi, rfl, Or.inl e⟩), fun e => hbad (Or.inl ⟨i, hi, rfl, Or.inr e⟩)⟩
          have hmo5 := hmo.below H6.out.2.2
          have HB2 := Lib.hid (back_any2 v3 out hol w5 hmo5.z)
          have H7 := Lib.hid (And.intro hd (And.intro hsp (And.intro hol hok)))
          clear hbad hd hsp hol hok hmo hmo5 c77
          go_wp2_with fail
          refine HB2.out.mono ?_
          rintro e w6 ⟨u6, rfl, hmo6, hb6⟩
          have HRT := Lib.hid (right_any a c l' (by rw [HH.out.2.1]; omega) (by rw [HH.out.2.1]; omega) spare u6 out H7.out.2.2.1 H7.out.1 H7.out.2.1 H7.out.2.2.2 w6 (by rw [HH.out.2.1]; exact H6.out.2.1.below movV_stays hb6) hmo6.z)
          have H8 := Lib.hid (below_tr H6.out.1 hb6)
          rw [HH.out.2.1] at HRT
          clear hmo6 hb6
          go_wp2_with fail
          refine HRT.out.mono ?_
          rintro e w7 ⟨rfl, hb7⟩
          have FIN := Lib.hid (show LawT w w7 (.returned (.bool true)) from ⟨rfl, below_tr H8.out hb7⟩)
          clear hb7
          go_wp2_with fail
          go_ret
          exact FIN.out
end Go.Proofs.Ytnbkcdhblmfopaa
