/-
  The statement of the places: its body says true at every two texts.
-/
import Derived.Test.YtdglkfdacajalaaDoorRefScan
import Derived.Test.YtdglkfdacajalaaDoorSame
import Derived.Test.YtdglkfdacajalaaDoorNames
import Derived.Test.YtdglkfdacajalaaDoorPlain4
import Derived.IntWalk
namespace Go.Proofs.YtdglkfdacajalaaDoor
open Go Go.RowKit Lx Go.Maps Go.WideMaps Go.WideShapes

/-- A text cut off at a length. -/
theorem cut_run (s : ByteArray) (N : Nat) (h : N ≤ s.size) (w : World) : (Instr.slice 9 (.string s) none (some (.int .i64 (N : Int))) none).run Tryd.prog w = .ok (.string (s.extract 0 N)) w := by
  have h1 : (N : Int) ≤ s.size := by omega
  have h2 : (0 : Int) ≤ N := by omega
  simp [go_sem, h1, h2]

theorem cut_is (s : ByteArray) (m : Nat) : ∃ (N : Nat) (X : ByteArray), N ≤ s.size ∧ N ≤ m ∧ min (s.size : Int) (m : Int) = (N : Int) ∧ X.size = N ∧
    ∀ w : World, (Instr.slice 9 (.string s) none (some (.int .i64 (N : Int))) none).run Tryd.prog w = .ok (.string X) w := by
  obtain ⟨N, hN⟩ : ∃ N, N = min s.size m := ⟨_, rfl⟩
  refine ⟨N, s.extract 0 N, by omega, by omega, by omega, ?_, fun w => cut_run s N (by omega) w⟩
  rw [extract_str]
  show (((Bs s).drop 0).take (N - 0)).toArray.size = N
  rw [List.drop_zero, Nat.sub_zero, List.size_toArray, List.length_take, bs_length]
  omega

theorem slice_pre (g n cap m : Nat) (i : Int) (hi : i = (m : Int)) (hm : m ≤ cap) (w : World) : (Instr.slice 22 (.slice (some ⟨g, 0, none⟩) n cap) none (some (.int .i64 i)) none).run Tryd.prog w = .ok (.slice (some ⟨g, 0, none⟩) m cap) w := by
  subst hi
  have h1 : (m : Int) ≤ cap := by omega
  have h2 : (0 : Int) ≤ m := by omega
  simp [go_sem, h1, h2]

/-- The beginning of a row of tokens is a row. -/
theorem ownsRow_pre {w : World} {base g cap n m : Nat} {a b : List Tok} (h : w.ownsRow base 33 4 (.slice (some ⟨g, 0, none⟩) n cap) (a ++ b).length (toksCells (a ++ b))) (hm : m = a.length) :
    w.ownsRow base 33 4 (.slice (some ⟨g, 0, none⟩) m cap) a.length (toksCells a) ∧ a.length ≤ cap := by
  have hl : ∀ l : List Tok, (toksCells l).length = l.length * 4 := by
    intro l
    induction l with
    | nil => rfl
    | cons t r ih => simp only [toksCells, List.flatMap_cons, List.length_append, List.length_cons] at ih ⊢; rw [ih]; show 4 + _ = _; omega
  subst hm
  obtain ⟨h1, h2⟩ := h
  rcases h2 with ⟨h2, _⟩ | ⟨g', cap', cur, hv, hg, hb, hn, hc, hs, ht⟩
  · cases h2
  · cases hv
    rw [List.length_append] at hn
    refine ⟨⟨hl a, Or.inr ⟨g, cap, cur, rfl, hg, hb, by omega, hc, hs, ?_⟩⟩, by omega⟩
    have : toksCells (a ++ b) = toksCells a ++ toksCells b := by simp [toksCells]
    rw [this] at ht
    have h3 := congrArg (List.take (a.length * 4)) ht
    rw [List.take_take, List.take_left' (hl a)] at h3
    rw [← h3]
    congr 1
    rw [List.length_append]
    omega

set_option maxRecDepth 100000 in
set_option maxHeartbeats 4000000 in
theorem lexPlaces_any (s more : ByteArray) (w : World) (hT : Tabs w.heap.size w) : Calls Tryd.prog 6 #[.string s, .string more] w fun e w' => e = .returned (.bool true) ∧ Below w.heap.size w w' := by
  have HT := Lib.hid hT
  clear hT
  obtain ⟨N, X, hN1, hN2, hif, hXs, hcut⟩ := cut_is s 3000
  obtain ⟨M, Y, hM1, hM2, hif2, hYs, hcut2⟩ := cut_is more 1000
  have hif' : min (s.size : Int) 3000 = (N : Int) := hif
  have hif2' : min (more.size : Int) 1000 = (M : Int) := hif2
  have HXS := Lib.hid (And.intro hXs hYs)
  clear hif hif2 hXs hYs
  go_enter Tryd.func6, Tryd.ntmps6
  go_wp2_with fail
  refine (awake_any w HT.out).mono ?_
  rintro e w1 ⟨rfl, hb1⟩
  have HB1 := Lib.hid hb1
  clear hb1
  go_wp2_with fail
  have hX3 : X.size ≤ 3000 := by have := HXS.out.1; omega
  have hY1 : Y.size ≤ 1000 := by have := HXS.out.2; omega
  clear hN1 hN2 hM1 hM2 hif' hif2' hcut hcut2 HXS
  refine (scan_any X (by omega) w1 ((HT.out.below HB1.out).mono HB1.out.size)).mono ?_
  rintro e w2 ⟨hb2, hp2⟩
  have HB2 := Lib.hid (HB1.out.trans (hb2.mono HB1.out.size))
  clear hb2
  cases hsc : scan (Bs X) with
  | error pn =>
    obtain ⟨p, n⟩ := pn
    rw [hsc] at hp2
    obtain rfl := hp2
    have hn0 : ((n : Int) != 0) = true := by
      rw [bne_iff_ne]
      have := scan_err hsc
      omega
    clear hsc
    go_wp2_with fail
    go_ret
    exact ⟨rfl, HB2.out⟩
  | ok ts =>
    rw [hsc] at hp2
    obtain ⟨v, rfl, ho⟩ := hp2
    have HSC := Lib.hid hsc
    have hPL := scan_placed hsc
    have hlen := (scan_len hsc).1
    clear hsc
    have hvf : ∃ g cap, v = .slice (some ⟨g, 0, none⟩) ts.length cap := by
      rcases ho.2 with ⟨_, h⟩ | ⟨g, cap, cur, h, _⟩
      · have : ts = [] := List.length_eq_zero_iff.1 h
        rw [this] at hPL
        exact hPL.elim
      · exact ⟨g, cap, h⟩
    obtain ⟨g, cap, rfl⟩ := hvf
    have HO := Lib.hid (And.intro ho hPL)
    clear ho hPL
    go_wp2_with fail
    go_loopw [8, 42] (fun av i wq => ∃ (k q : Nat), k ≤ ts.length ∧ i = .int .i64 k ∧ av = .int .i64 q ∧ (k < ts.length → Placed (Bs X) q (ts.drop k)) ∧ q ≤ X.size ∧ Below w.heap.size w wq ∧ wq.ownsRow w1.heap.size 33 4 (.slice (some ⟨g, 0, none⟩) ts.length cap) ts.length (toksCells ts)) (fun _ i _ => ts.length - (intOf i).toNat)
    case atStart => exact ⟨0, 0, Nat.zero_le _, rfl, rfl, fun _ => HO.out.2, Nat.zero_le _, HB2.out, HO.out.1⟩
    case round =>
      obtain ⟨k, q, hk, rfl, rfl, hP, hq, hb, ho⟩ := hrel
      have HR := Lib.hid (And.intro hP (And.intro hb ho))
      clear hP hb ho
      by_cases hlt : k < ts.length
      · have hd : decide ((k : Int) < (ts.length : Int)) = true := by simp; omega
        obtain ⟨p0, p1, p2, p3⟩ := tok_at HR.out.2.2 k hlt
        have hdk : ts.drop k = ts[k] :: ts.drop (k + 1) := List.drop_eq_getElem_cons hlt
        have hPk := HR.out.1 hlt
        rw [hdk] at hPk
        obtain ⟨t, ht⟩ : ∃ t, t = ts[k] := ⟨_, rfl⟩
        rw [← ht] at p0 p1 p2 p3 hPk
        obtain ⟨T, hTT⟩ : ∃ T : ByteArray, T = ⟨t.text.toArray⟩ := ⟨_, rfl⟩
        rw [← hTT] at p2
        have hTs : T.size = t.text.length := by rw [hTT]; simp [ByteArray.size]
        have hBT : Bs T = t.text := by rw [hTT]
        have HTK := Lib.hid (And.intro hPk (And.intro hdk (And.intro hTs hBT)))
        obtain ⟨q1, q2, _, _, _⟩ := hPk
        obtain ⟨P, hPP⟩ : ∃ P, P = t.pos := ⟨_, rfl⟩
        obtain ⟨K, hKK⟩ : ∃ K : Int, K = (t.kind : Int) := ⟨_, rfl⟩
        obtain ⟨NN, hNN⟩ : ∃ NN : Int, NN = (t.num : Int) := ⟨_, rfl⟩
        rw [← hPP] at p1 q1 q2
        rw [← hKK] at p0
        rw [← hNN] at p3
        obtain ⟨W2, hW2⟩ : ∃ W2, W2 = wr.alloc (.cells #[.int .u8 K, .int .i64 (P : Int), .string T, .int .i64 NN] 33) := ⟨_, rfl⟩
        have n0 : W2.cell? ⟨wr.heap.size, 0, none⟩ = some (.int .u8 K) := by rw [hW2, cell_of_row _ _ _ _ _ _ (heap_alloc_new wr _)]; rfl
        have n1 : W2.cell? ⟨wr.heap.size, 1, none⟩ = some (.int .i64 (P : Int)) := by rw [hW2, cell_of_row _ _ _ _ _ _ (heap_alloc_new wr _)]; rfl
        have n2 : W2.cell? ⟨wr.heap.size, 2, none⟩ = some (.string T) := by rw [hW2, cell_of_row _ _ _ _ _ _ (heap_alloc_new wr _)]; rfl
        have hbW : Below wr.heap.size wr W2 := by rw [hW2]; exact (Below.refl _ _).alloc (Nat.le_refl _) _
        have hzW : W2.heap.size = wr.heap.size + 1 := by rw [hW2]; simp
        have HW2 := Lib.hid (And.intro hW2 (And.intro hbW hzW))
        clear hW2 hNN hbW hzW
        rw [← hTs] at q2
        have q2' : (P : Int) + (T.size : Int) ≤ (X.size : Int) := by rw [bs_length] at q2; omega
        have HPP := Lib.hid (And.intro hPP (And.intro hKK ht))
        clear hdk hTT hTs hBT hPP hKK ht
        have e1 : decide (P < q) = false := by simp; omega
        have e1' : decide (X.size < P + T.size) = false := by simp; omega
        have e2 : decide ((X.size : Int) < (P : Int) + (T.size : Int)) = false := by simp; omega
        have hXT : X.extract P (P + T.size) = T := by
          rw [extract_str, show P + T.size - P = T.size by omega, HPP.out.1, HTK.out.2.2.1, HTK.out.1.2.2.1, ← HTK.out.2.2.2]
        have hsl := slice_run X P (P + T.size) (P : Int) ((P : Int) + (T.size : Int)) rfl (by omega) (by omega) (by omega)
        rw [hXT] at hsl
        have e3 : (T.toList == T.toList) = true := by simp
        have e4 : (T.toList != T.toList) = false := by simp
        have hG0 : q ≤ P ∧ P ≤ X.size := by omega
        obtain ⟨G, hG⟩ : ∃ G, G = X.extract q P := ⟨_, rfl⟩
        have hsl2 := slice_run X q P (q : Int) (P : Int) rfl rfl hG0.1 hG0.2
        rw [← hG] at hsl2
        have hGs : scan (Bs G) = .ok [⟨0, P - q, [], 0⟩] := by
          rw [hG, extract_str]
          have := HTK.out.1.2.2.2.1
          rw [← HPP.out.1] at this
          exact this
        have hGl : G.size ≤ 3000 := by
          rw [hG, extract_str]
          show (((Bs X).drop q).take (P - q)).toArray.size ≤ 3000
          rw [List.size_toArray, List.length_take, List.length_drop, bs_length]
          omega
        have HG := Lib.hid (And.intro hGs hGl)
        clear hG hGs hGl hXT hG0
        rcases HTK.out.1.2.2.2.2 with ⟨hk0, hk1, hk2⟩ | ⟨hk0, _, hk1, hk2⟩
        · have e6 : (K == 0) = true := by rw [HPP.out.2.1, hk0]; rfl
          have e7 : (K != 0) = false := by rw [HPP.out.2.1, hk0]; rfl
          have hlast : k + 1 = ts.length := by
            have := congrArg List.length hk2
            simp at this
            omega
          have e5 : ((k : Int) == (ts.length : Int) - 1) = true := by simp; omega
          have HL : Hid (k + 1 < ts.length → Placed (Bs X) (P + T.size) (ts.drop (k + 1))) := by
            intro h
            omega
          clear hlast hk0 hk1 hk2
          go_wp2_with fail
          change Code.wp _ _ _ _ (wr.alloc (.cells #[.int .u8 K, .int .i64 (P : Int), .string T, .int .i64 NN] 33))
          rw [← HW2.out.1]
          go_quiet (fail)
          have HB3 : Hid (Below w.heap.size w (W2.drewN nq)) := by
            have h3 := HR.out.2.1.trans (HW2.out.2.1.mono HR.out.2.1.size)
            exact ⟨h3.os, h3.tape, h3.output, h3.size, h3.block⟩
          have HO3 : Hid ((W2.drewN nq).ownsRow w1.heap.size 33 4 (.slice (some ⟨g, 0, none⟩) ts.length cap) ts.length (toksCells ts)) := (show W2.ownsRow _ _ _ _ _ _ from owns_below HR.out.2.2 HW2.out.2.1)
          go_wp2_with fail
          refine (scan_any G (by have := HG.out.2; omega) _ ?_).mono ?_
          · exact (HT.out.below HB3.out).mono HB3.out.size
          rintro e w4 ⟨hb4, hp4⟩
          rw [HG.out.1] at hp4
          obtain ⟨v4, rfl, ho4⟩ := hp4
          have hv4 : ∃ g4 cap4, v4 = .slice (some ⟨g4, 0, none⟩) 1 cap4 := by
            rcases ho4.2 with ⟨_, h⟩ | ⟨g4, cap4, cur, h, _⟩
            · simp at h
            · exact ⟨g4, cap4, h⟩
          obtain ⟨g4, cap4, rfl⟩ := hv4
          have m1 := cell_below hb4 (g := wr.heap.size) (i := 1) (by show wr.heap.size < W2.heap.size; rw [HW2.out.2.2]; omega) (show (W2.drewN nq).cell? ⟨wr.heap.size, 1, none⟩ = some (.int .i64 (P : Int)) from n1)
          have m2 := cell_below hb4 (g := wr.heap.size) (i := 2) (by show wr.heap.size < W2.heap.size; rw [HW2.out.2.2]; omega) (show (W2.drewN nq).cell? ⟨wr.heap.size, 2, none⟩ = some (.string T) from n2)
          have HB4 := Lib.hid (HB3.out.trans (hb4.mono HB3.out.size))
          have HO4 := Lib.hid (owns_below HO3.out hb4)
          clear hb4 ho4
          go_wp2_with fail
          go_roundw
          case rel => exact ⟨k + 1, P + T.size, by omega, by go_num, by go_num, fun h => HL.out h, by omega, HB4.out, HO4.out⟩
          case measure => simp [intOf]; omega
        · have e6 : (K == 0) = false := by rw [HPP.out.2.1]; simp; omega
          have e7 : (K != 0) = true := by rw [HPP.out.2.1]; simp; omega
          have hlast : k + 1 < ts.length := by
            rcases Nat.lt_or_ge (k + 1) ts.length with h | h
            · exact h
            · rw [List.drop_of_length_le h] at hk2
              exact hk2.elim
          have e5 : ((k : Int) == (ts.length : Int) - 1) = false := by simp; omega
          have e8 : T.toList.isEmpty = false := by
            rw [List.isEmpty_eq_false_iff, Lib.toList_data]
            intro e
            exact hk1 (HTK.out.2.2.2.symm.trans e)
          have HL : Hid (k + 1 < ts.length → Placed (Bs X) (P + T.size) (ts.drop (k + 1))) := by
            intro _
            rw [HPP.out.1, HTK.out.2.2.1]
            exact hk2
          clear hlast hk0 hk1 hk2
          go_wp2_with fail
          change Code.wp _ _ _ _ (wr.alloc (.cells #[.int .u8 K, .int .i64 (P : Int), .string T, .int .i64 NN] 33))
          rw [← HW2.out.1]
          go_quiet (fail)
          have HB3 : Hid (Below w.heap.size w (W2.drewN nq)) := by
            have h3 := HR.out.2.1.trans (HW2.out.2.1.mono HR.out.2.1.size)
            exact ⟨h3.os, h3.tape, h3.output, h3.size, h3.block⟩
          have HO3 : Hid ((W2.drewN nq).ownsRow w1.heap.size 33 4 (.slice (some ⟨g, 0, none⟩) ts.length cap) ts.length (toksCells ts)) := (show W2.ownsRow _ _ _ _ _ _ from owns_below HR.out.2.2 HW2.out.2.1)
          go_wp2_with fail
          refine (scan_any G (by have := HG.out.2; omega) _ ?_).mono ?_
          · exact (HT.out.below HB3.out).mono HB3.out.size
          rintro e w4 ⟨hb4, hp4⟩
          rw [HG.out.1] at hp4
          obtain ⟨v4, rfl, ho4⟩ := hp4
          have hv4 : ∃ g4 cap4, v4 = .slice (some ⟨g4, 0, none⟩) 1 cap4 := by
            rcases ho4.2 with ⟨_, h⟩ | ⟨g4, cap4, cur, h, _⟩
            · simp at h
            · exact ⟨g4, cap4, h⟩
          obtain ⟨g4, cap4, rfl⟩ := hv4
          have m1 := cell_below hb4 (g := wr.heap.size) (i := 1) (by show wr.heap.size < W2.heap.size; rw [HW2.out.2.2]; omega) (show (W2.drewN nq).cell? ⟨wr.heap.size, 1, none⟩ = some (.int .i64 (P : Int)) from n1)
          have m2 := cell_below hb4 (g := wr.heap.size) (i := 2) (by show wr.heap.size < W2.heap.size; rw [HW2.out.2.2]; omega) (show (W2.drewN nq).cell? ⟨wr.heap.size, 2, none⟩ = some (.string T) from n2)
          have HB4 := Lib.hid (HB3.out.trans (hb4.mono HB3.out.size))
          have HO4 := Lib.hid (owns_below HO3.out hb4)
          clear hb4 ho4
          go_wp2_with fail
          go_roundw
          case rel => exact ⟨k + 1, P + T.size, by omega, by go_num, by go_num, fun h => HL.out h, by omega, HB4.out, HO4.out⟩
          case measure => simp [intOf]; omega
      · have hd : decide ((k : Int) < (ts.length : Int)) = false := by simp; omega
        have HTA : Hid (Tabs wr.heap.size wr) := (HT.out.below HR.out.2.1).mono HR.out.2.1.size
        have hXY : Bs (X ++ (⟨#[10]⟩ : ByteArray) ++ Y) = Bs X ++ 10 :: Bs Y := by
          rw [bs_append, bs_append, List.append_assoc]
          rfl
        have hXYl : (X ++ (⟨#[10]⟩ : ByteArray) ++ Y).size = X.size + 1 + Y.size := by
          rw [← bs_length, hXY, List.length_append, List.length_cons, bs_length, bs_length]; omega
        have HSC2 := Lib.hid (scan_any (X ++ (⟨#[10]⟩ : ByteArray) ++ Y) (by omega) wr HTA.out)
        have hsz1 : (X.size : Int) + 1 ≤ 9223372036854775807 := by omega
        have hsz2 : (X.size : Int) + 1 + (Y.size : Int) ≤ 9223372036854775807 := by omega
        obtain ⟨ts0, en, hts, hmore⟩ := scan_more (m := Bs Y) HSC.out (by rw [bs_length, bs_length]; omega)
        rw [← hXY] at hmore
        have HTS := Lib.hid (And.intro hts hmore)
        clear hXY hXYl hts hmore
        go_wp2_with fail
        refine HSC2.out.mono ?_
        rintro e w4 ⟨hb4, hp4⟩
        have HB4 := Lib.hid (HR.out.2.1.trans (hb4.mono HR.out.2.1.size))
        have HO4 := Lib.hid (owns_below HR.out.2.2 hb4)
        clear hb4
        rcases HTS.out.2 with ⟨⟨p, n⟩, hr⟩ | ⟨t1, ht1, hr⟩
        · rw [hr] at hp4
          obtain rfl := hp4
          have hn0 : ((n : Int) != 0) = true := by
            rw [bne_iff_ne]
            have := scan_err hr
            omega
          clear hr
          go_wp2_with fail
          go_ret
          exact ⟨rfl, HB4.out⟩
        · rw [hr] at hp4
          clear hr
          obtain ⟨v5, rfl, ho5⟩ := hp4
          have hn5 : ∃ n5, n5 = (ts0 ++ t1).length := ⟨_, rfl⟩
          obtain ⟨n5, hn5⟩ := hn5
          have hv5 : ∃ g5 cap5, v5 = .slice (some ⟨g5, 0, none⟩) n5 cap5 := by
            rcases ho5.2 with ⟨_, h⟩ | ⟨g5, cap5, cur, h, _⟩
            · rw [List.length_append] at h; omega
            · exact ⟨g5, cap5, by rw [hn5]; exact h⟩
          obtain ⟨g5, cap5, rfl⟩ := hv5
          have hlt5 : ts.length ≤ n5 := by rw [hn5, HTS.out.1]; simp; omega
          have hm1 : ts.length = ts0.length + 1 := by rw [HTS.out.1]; simp
          obtain ⟨m, hm0⟩ : ∃ m, m = ts0.length := ⟨_, rfl⟩
          have pa := ownsRow_pre ho5 (m := m) hm0
          have ho4 := HO4.out
          have ho4' : w4.ownsRow w1.heap.size 33 4 (.slice (some ⟨g, 0, none⟩) ts.length cap) (ts0 ++ [en]).length (toksCells (ts0 ++ [en])) := by
            rw [← HTS.out.1]; exact ho4
          have pb := ownsRow_pre ho4' (m := m) hm0
          rw [← hm0] at hm1
          have hs1 := slice_pre g5 n5 cap5 m (m : Int) rfl (by rw [hm0]; exact pa.2)
          have hs2 := slice_pre g (m + 1) cap m (m : Int) rfl (by rw [hm0]; exact pb.2)
          have b1 : (m : Int) ≤ (cap5 : Int) := by have := pa.2; omega
          have b2 : (m : Int) ≤ (cap : Int) := by have := pb.2; omega
          have b3 : m ≤ cap5 := by omega
          have b4 : m ≤ cap := by omega
          have hwm : IntKind.i64.wrap (m : Int) = (m : Int) := IntWalk.i64_in _ (by omega)
          have d5 : decide (m + 1 ≤ n5) = true := by simp; omega
          have d6 : decide (m < n5) = true := by simp; omega
          have d7 : decide ((m : Int) + 1 ≤ (n5 : Int)) = true := by simp; omega
          have d8 : decide ((m : Int) < (n5 : Int)) = true := by simp; omega
          have HSM : Hid (Calls Tryd.prog 12 #[.slice (some ⟨g5, 0, none⟩) m cap5, .slice (some ⟨g, 0, none⟩) m cap] w4.drew fun e w' => e = .returned (.bool true) ∧ Below w4.drew.heap.size w4.drew w') :=
            same_any ts0 (by omega) _ _ _ _ w4.drew pa.1 pb.1
          have HB5 : Hid (Below w.heap.size w w4.drew) := ⟨HB4.out.os, HB4.out.tape, HB4.out.output, HB4.out.size, HB4.out.block⟩
          clear ho5 pa ho4 ho4' pb hn5 hlt5 hm0 hlen hlt hd
          go_wp2_with fail
          go_still_tail 16, (by kernel_rfl)
          change wpList _ _ _ _ _ w4.drew
          go_wp2_with (go_at_call 12; refine HSM.out.mono ?_; rintro e w5 ⟨rfl, hb5⟩)
          go_ret
          exact ⟨rfl, HB5.out.trans (hb5.mono HB5.out.size)⟩
end Go.Proofs.YtdglkfdacajalaaDoor
