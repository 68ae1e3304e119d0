/-
  Borders: the document's own answer, walked.
-/
import Derived.Test.YtomfmkddfgpmkaaFBdP
import Derived.Test.YtomfmkddfgpmkaaFDoms
import Derived.Test.YtomfmkddfgpmkaaFRefI
namespace Go.Proofs.Ytomfmkddfgpmkaa
open Go Go.RowKit Fl

namespace Fl
def brdZ (G : List (List Nat)) (b : Nat) : List (List Int) := (List.range b).map (fun a => castL (brdT G G.length a))
theorem brdZ_succ (G : List (List Nat)) (b : Nat) : brdZ G (b + 1) = brdZ G b ++ [castL (brdT G G.length b)] := by simp [brdZ, List.range_succ]
theorem brdZ_len (G : List (List Nat)) (b : Nat) : (brdZ G b).length = b := by simp [brdZ]
theorem go_q {G : List (List Nat)} {p j b : Nat} {q D : Bool} (hj : j < (row G p).length) : (q || (D && ((row G p).take (j + 1)).contains b)) = ((q || (D && ((row G p).take j).contains b)) || (D && b == (row G p)[j])) := by
  rw [take_succ_has _ _ _ hj]
  cases q <;> cases D <;> simp
end Fl
def RB1 (w1 : World) (G : List (List Nat)) (ov av : Value) (W : World) : Prop := ∃ a : Nat, a ≤ G.length ∧ av = I (a : Int) ∧ OwnG w1.heap.size (brdZ G a) ov W ∧ Below w1.heap.size w1 W
def RB2 (wo : World) (G : List (List Nat)) (a : Nat) (lv bv : Value) (W : World) : Prop := ∃ b : Nat, b ≤ G.length ∧ bv = I (b : Int) ∧ Nums W wo.heap.size lv (brdT G b a) ∧ Below wo.heap.size wo W
def BrdT (w : World) (G : List (List Nat)) (W : World) (e : Ending) : Prop := ∃ u, e = .returned u ∧ GZ W u (brdZ G G.length) ∧ Below w.heap.size w W

set_option maxRecDepth 100000 in
set_option maxHeartbeats 3200000 in
theorem RefBorders_any (bg cap N : Nat) (Z : List (List Int)) (base : Nat) (ht : TameZ Z) (he : errF Z = 0) (hN : N = Z.length) (hN0 : 0 < N) (w : World) (h : OwnG base Z (.slice (some ⟨bg, 0, none⟩) N cap) w) :
    Calls Try.prog 21 #[.slice (some ⟨bg, 0, none⟩) N cap] w fun e w' => BrdT w (natG Z) w' e := by
  obtain ⟨i0, hi, hz0, hz1, hz2⟩ := info_parts info_int'
  have HI := Lib.hid (And.intro hi (And.intro hz0 (And.intro hz1 hz2)))
  clear hi hz0 hz1 hz2
  obtain ⟨i1, hi, hz0, hz1, hz2⟩ := info_parts info_sl'
  have HI1 := Lib.hid (And.intro hi (And.intro hz0 (And.intro hz1 hz2)))
  clear hi hz0 hz1 hz2
  obtain ⟨bg2, cap2, hbg, hgr⟩ := grB_own h he (by intro e; rw [e] at hN; simp at hN; omega)
  have hbg2 : bg2 = bg := by injection hbg with e1 _ _; injection e1 with e2; injection e2 with e3; exact e3.symm
  subst hbg2
  have HCD := Lib.hid (Doms_any bg2 cap N Z base ht he hN hN0 w h)
  obtain ⟨G, hGd⟩ : ∃ G, G = natG Z := ⟨_, rfl⟩
  have hGl : G.length = N := by rw [hGd, natG_len, hN]
  have hGO : GOk G := by rw [hGd]; exact natG_ok he
  have hn24 : N ≤ 24 := by rw [hN]; exact ht.1
  have hGr : ∀ i, (row G i).length ≤ 1000 := fun i => by rw [hGd]; exact ht.row i
  rw [← hGd] at HCD hgr ⊢
  have HH := Lib.hid (And.intro hgr (And.intro hGl (And.intro hn24 (And.intro hGr (And.intro hGO (show G.length ≠ 0 by omega))))))
  clear h he hN hgr hGd hGl hGr ht hGO hn24 hN0 hbg
  go_enter Try.func21, Try.ntmps21
  go_wp2_with fail
  refine HCD.out.mono ?_
  rintro e w1 ⟨bo, vs, rfl, hD⟩
  have HGR := Lib.hid ((HH.out.1.below hD.be).up hD.be.size (Nat.le_refl _))
  have HST := Lib.hid (show RB1 w1 G (.slice none 0 0) (I 0) w1 from ⟨0, Nat.zero_le _, rfl, OwnG.start _ _, Below.refl _ _⟩)
  have HDD := Lib.hid hD
  clear hD HCD
  go_wp2_with fail
  go_loopw [4, 17] (fun ov av W => RB1 w1 G ov av W) (fun _ av _ => N - (intOf av).toNat)
  case atStart => exact HST.out
  case round =>
    obtain ⟨a, ha, rfl, hown, hbe⟩ := hrel
    obtain ⟨wo, rfl⟩ : ∃ wo : World, wo = wr := ⟨_, rfl⟩
    have H1 := Lib.hid (And.intro hown hbe)
    by_cases han : a < N
    · obtain ⟨r, hv, hrb, bsr, hkr, hlr, hdr⟩ := HDD.out.rw' a han han
      have hdb : ∀ x, x < N → bsr.getD x false = domB G a x := fun x hx => by
        rw [Bool.eq_iff_iff, domB_iff HH.out.2.2.2.2.1 HH.out.2.2.2.2.2]
        exact hdr x hx
      have HR := Lib.hid (And.intro hv (And.intro hkr (And.intro hlr (And.intro hdb han))))
      have d0 : decide (a < N) = true := by simpa using han
      have d1 : (a : Int) ≤ 24 := by have := HH.out.2.2.1; omega
      have d2 : (0 : Int) ≤ (a : Int) := by omega
      have d3 : (a : Int) < (N : Int) := by omega
      clear hown hbe han ha hv hrb hkr hlr hdr hdb HST
      go_wp2_with fail
      go_loopw [6, 22] (fun lv bv W => RB2 wo G a lv bv W) (fun _ bv _ => N - (intOf bv).toNat)
      case atStart => exact ⟨0, Nat.zero_le _, rfl, World.ownsRow_nil _ _ _ _, Below.refl _ _⟩
      case round =>
        obtain ⟨b, hb, rfl, hno, hbe⟩ := hrel
        by_cases hbn : b < N
        · have hb1 := belowB H1.out.2 hbe
          have y1 := (HDD.out.ko.below hb1 HDD.out.ko.lt).get a (.slice (some ⟨r, 0, none⟩) N N) (by simp [HR.out.1])
          have HRW := Lib.hid (HR.out.2.1.below hb1 HR.out.2.1.lt)
          have hgb := HGR.out.below hb1
          have HG := Lib.hid hgb
          have HB := Lib.hid (And.intro hno (And.intro hbe hbn))
          have e0 : decide (b < N) = true := by simpa using hbn
          have e1 : (b : Int) ≤ 24 := by have := HH.out.2.2.1; omega
          have e2 : (0 : Int) ≤ (b : Int) := by omega
          have e3 : (b : Int) < (N : Int) := by omega
          clear hb1 hgb hno hbe hbn hb
          go_wp2_with fail
          go_loop [8, 27] (fun gv pv => ∃ p : Nat, p ≤ N ∧ pv = I (p : Int) ∧ gv = .bool (goesB G a b p)) (fun _ pv => N - (intOf pv).toNat)
          case atStart => exact ⟨0, Nat.zero_le _, rfl, rfl⟩
          case round =>
            obtain ⟨p, hp, rfl, rfl⟩ := hrel
            by_cases hpn : p < N
            · obtain ⟨rv, c0, hrv⟩ := HG.out.row p (by rw [HH.out.2.1]; exact hpn)
              obtain ⟨L, hL⟩ : ∃ L, L = (row G p).length := ⟨_, rfl⟩
              obtain ⟨ra, rc, rfl⟩ : ∃ a c, rv = .slice a L c := by
                rcases hrv with ⟨e, e2⟩ | ⟨g, c, e, _⟩
                · exact ⟨_, _, by rw [e, hL, e2]; rfl⟩
                · exact ⟨_, _, by rw [e, hL]⟩
              have hLb : (L : Int) ≤ 1000 := by have := HH.out.2.2.2.1 p; omega
              obtain ⟨D, hDd⟩ : ∃ D, D = domB G a p := ⟨_, rfl⟩
              have y2 := HRW.out.get p (.bool D) (by rw [hDd, ← HR.out.2.2.2.1 p hpn]; exact arrB_getD bsr p false (by rw [HR.out.2.2.1]; exact hpn))
              have f0 : decide (p < N) = true := by simpa using hpn
              have f1 : (0 : Int) ≤ (p : Int) := by omega
              have f2 : (p : Int) < (N : Int) := by omega
              have f3 : (p : Int) ≤ 24 := by have := HH.out.2.2.1; omega
              obtain ⟨q0, hq0⟩ : ∃ q, q = goesB G a b p := ⟨_, rfl⟩
              rw [← hq0]
              have HP := Lib.hid (And.intro hrv (And.intro hL (And.intro hpn (And.intro hDd hq0))))
              clear hrv hL hpn hDd hp hq0
              go_wp2_with fail
              go_loop [8, 34] (fun gv jv => ∃ j : Nat, j ≤ L ∧ jv = I (j : Int) ∧ gv = .bool (q0 || (D && ((row G p).take j).contains b))) (fun _ jv => L - (intOf jv).toNat)
              case atStart => exact ⟨0, Nat.zero_le _, rfl, by simp⟩
              case round =>
                obtain ⟨j, hj, rfl, rfl⟩ := hrel
                by_cases hjl : j < L
                · have hjr : j < (row G p).length := by rw [← HP.out.2.1]; exact hjl
                  obtain ⟨g, hra, c1⟩ : ∃ g, ra = some ⟨g, 0, none⟩ ∧ wr.cell? ⟨g, j, none⟩ = some (I (((row G p)[j] : Nat) : Int)) := by
                    rcases HP.out.1 with ⟨e, e2⟩ | ⟨g, c, e, h1, h2⟩
                    · rw [e2] at hjr; exact absurd hjr (by simp)
                    · cases e; exact ⟨g, rfl, h2 j hjr⟩
                  subst hra
                  obtain ⟨x, hx⟩ : ∃ x, x = (row G p)[j] := ⟨_, rfl⟩
                  rw [← hx] at c1
                  have hsu := go_q (q := q0) (D := D) (b := b) hjr
                  rw [← hx] at hsu
                  have k6 : decide (j < L) = true := by simpa using hjl
                  have k7 : (0 : Int) ≤ (j : Int) := by omega
                  have k8 : (j : Int) < (L : Int) := by omega
                  obtain ⟨q, hq⟩ : ∃ q, q = (q0 || (D && ((row G p).take j).contains b)) := ⟨_, rfl⟩
                  rw [← hq] at hsu ⊢
                  have HX := Lib.hid (And.intro hsu hjl)
                  clear hx hsu hjl hjr hq hj
                  cases q
                  · by_cases hxb : x = b
                    · have g1 : ((x : Int) == (b : Int)) = true := by rw [hxb]; simp
                      cases D
                      · have HN := Lib.hid (show Value.bool false = .bool (q0 || (false && ((row G p).take (j + 1)).contains b)) by rw [HX.out.1]; rfl)
                        clear hxb
                        go_wp2_with fail
                        go_round
                        case rel => exact ⟨j + 1, HX.out.2, by go_num, HN.out⟩
                        case measure => have := HX.out.2; simp [intOf]; omega
                      · have HN := Lib.hid (show Value.bool true = .bool (q0 || (true && ((row G p).take (j + 1)).contains b)) by rw [HX.out.1, hxb]; simp)
                        clear hxb
                        go_wp2_with fail
                        go_round
                        case rel => exact ⟨j + 1, HX.out.2, by go_num, HN.out⟩
                        case measure => have := HX.out.2; simp [intOf]; omega
                    · have g1 : ((x : Int) == (b : Int)) = false := by simp; omega
                      have HN := Lib.hid (show Value.bool false = .bool (q0 || (D && ((row G p).take (j + 1)).contains b)) by
                        rw [HX.out.1, show (b == x) = false by simp; exact fun e => hxb e.symm]
                        simp)
                      clear hxb
                      go_wp2_with fail
                      go_round
                      case rel => exact ⟨j + 1, HX.out.2, by go_num, HN.out⟩
                      case measure => have := HX.out.2; simp [intOf]; omega
                  · have HN := Lib.hid (show Value.bool true = .bool (q0 || (D && ((row G p).take (j + 1)).contains b)) by rw [HX.out.1]; rfl)
                    go_wp2_with fail
                    go_round
                    case rel => exact ⟨j + 1, HX.out.2, by go_num, HN.out⟩
                    case measure => have := HX.out.2; simp [intOf]; omega
                · have k6 : decide (j < L) = false := by simpa using hjl
                  have hte : (row G p).take j = row G p := List.take_of_length_le (by rw [← HP.out.2.1]; omega)
                  have HN := Lib.hid (show Value.bool (q0 || (D && ((row G p).take j).contains b)) = .bool (goesB G a b (p + 1)) by rw [goesB_succ, hte, ← HP.out.2.2.2.1, ← HP.out.2.2.2.2])
                  obtain ⟨q, hq⟩ : ∃ q, q = (q0 || (D && ((row G p).take j).contains b)) := ⟨_, rfl⟩
                  rw [← hq] at HN ⊢
                  clear hjl hte hj hq
                  go_wp2_with fail
                  go_round
                  case rel => exact ⟨p + 1, HP.out.2.2.1, by go_num, HN.out⟩
                  case measure => have := HP.out.2.2.1; simp [intOf]; omega
            · have f0 : decide (p < N) = false := by simpa using hpn
              obtain rfl : p = N := by omega
              obtain ⟨D, hDd⟩ : ∃ D, D = domB G a b := ⟨_, rfl⟩
              have y2 := HRW.out.get b (.bool D) (by rw [hDd, ← HR.out.2.2.2.1 b HB.out.2.2]; exact arrB_getD bsr b false (by rw [HR.out.2.2.1]; exact HB.out.2.2))
              obtain ⟨q, hq⟩ : ∃ q, q = goesB G a b p := ⟨_, rfl⟩
              have hbd : bdB G a b = (q && (a == b || !D)) := by rw [hq, hDd]; unfold bdB; rw [HH.out.2.1]
              rw [← hq]
              have HBD := Lib.hid hbd
              clear hq hbd hDd hpn hp
              have HNO : Hid (bdB G a b = false → RB2 wo G a u6 (I ((b : Int) + 1)) wr) := fun hf => ⟨b + 1, by have h1 := HB.out.2.2; have h2 := HH.out.2.1; omega, rfl, by rw [brdT_no hf]; exact HB.out.1, HB.out.2.1⟩
              by_cases hyes : bdB G a b = true
              · have hq : q = true ∧ (a = b ∨ D = false) := by
                  rw [HBD.out, Bool.and_eq_true, Bool.or_eq_true, beq_iff_eq, Bool.not_eq_true'] at hyes
                  exact hyes
                have HY := Lib.hid hyes
                obtain ⟨rfl, hab⟩ := hq
                obtain ⟨s5, m5, k5, hu5⟩ : ∃ a m c, u6 = .slice a m c := by
                  rcases own_slice HB.out.1 with ⟨h, _⟩ | ⟨g, cap, h⟩
                  · exact ⟨_, _, _, h⟩
                  · exact ⟨_, _, _, h⟩
                obtain ⟨r5, hr⟩ : ∃ r, r = brdT G b a := ⟨_, rfl⟩
                have hrl : r5.length ≤ 24 := by rw [hr]; have h1 := brdT_len G b a; have h2 := HB.out.2.2; have h3 := HH.out.2.2.1; omega
                have HPr : Hid (Nums wr wo.heap.size u6 r5) := by rw [hr]; exact HB.out.1
                have HR5 := Lib.hid (And.intro hr hrl)
                rw [hu5] at HPr
                have HB2 := Lib.hid HB.out.2
                clear HB HNO
                subst hu5
                clear hr hrl hyes
                have APP : Hid (∀ v' w4, Nums w4 wo.heap.size v' (r5 ++ [b]) → (wr.alloc (.cells #[I (b : Int)] 3)).grownBy w4 (Value.slice s5 m5 k5).ownBlock → RB2 wo G a v' (I ((b : Int) + 1)) w4) := fun v' w4 hn4 hg => ⟨b + 1, by have h1 := HB2.out.2; have h2 := HH.out.2.1; omega, rfl, by
                  rw [brdT_yes HY.out, ← HR5.out.1]
                  exact hn4, (HB2.out.1.alloc HB2.out.1.size _).grown hg (by have := HB2.out.1.size; simp; omega) (fun k hk => (HPr.out.lt k hk).1)⟩
                by_cases heq : a = b
                · have g0 : ((a : Int) == (b : Int)) = true := by simp; omega
                  clear hab heq
                  go_wp2_with (first | (at_builtin; refine Hid.out ?_) | go_in)
                  unfold Hid
                  refine wpList_append_own_at _ rfl _ _ 25 rfl wo.heap.size 3 i0 (I 0) 1 8 Try.underlying25 HI.out.1 HI.out.2.1 HI.out.2.2.1 HI.out.2.2.2 rfl (by decide) (.slice s5 m5 k5) r5.length (ints r5) rfl (HPr.out.alloc _) ⟨wr.heap.size, 0, none⟩ 1 1 [I (b : Int)] rfl rfl (cell_one_new _ _ _) (by simp [Value.oneCell']) (by have := HR5.out.2; unfold maxLen; omega) (by have := HR5.out.2; omega) (by have := HB2.out.1.size; simp; omega) ?_
                  intro v' w4 hn4 hg _ hat
                  have HN := Lib.hid (APP.out v' w4 (by
                    show World.ownsRow _ _ _ _ _ _ _
                    rw [List.length_append]
                    simpa using hn4) hg)
                  clear hn4 hg hat
                  go_wp2_with fail
                  exact ⟨HN.out, by have h1 := HB2.out.2; simp [intOf]; omega⟩
                · have g0 : ((a : Int) == (b : Int)) = false := by simp; omega
                  obtain rfl := hab.resolve_left heq
                  clear hab heq
                  go_wp2_with (first | (at_builtin; refine Hid.out ?_) | go_in)
                  unfold Hid
                  refine wpList_append_own_at _ rfl _ _ 25 rfl wo.heap.size 3 i0 (I 0) 1 8 Try.underlying25 HI.out.1 HI.out.2.1 HI.out.2.2.1 HI.out.2.2.2 rfl (by decide) (.slice s5 m5 k5) r5.length (ints r5) rfl (HPr.out.alloc _) ⟨wr.heap.size, 0, none⟩ 1 1 [I (b : Int)] rfl rfl (cell_one_new _ _ _) (by simp [Value.oneCell']) (by have := HR5.out.2; unfold maxLen; omega) (by have := HR5.out.2; omega) (by have := HB2.out.1.size; simp; omega) ?_
                  intro v' w4 hn4 hg _ hat
                  have HN := Lib.hid (APP.out v' w4 (by
                    show World.ownsRow _ _ _ _ _ _ _
                    rw [List.length_append]
                    simpa using hn4) hg)
                  clear hn4 hg hat
                  go_wp2_with fail
                  exact ⟨HN.out, by have h1 := HB2.out.2; simp [intOf]; omega⟩
              · have hno2 : bdB G a b = false := by simpa using hyes
                have HN := Lib.hid (HNO.out hno2)
                clear HNO
                cases q
                · clear hyes hno2
                  go_wp2_with fail
                  exact ⟨HN.out, by have h1 := HB.out.2.2; simp [intOf]; omega⟩
                · have h3 : a ≠ b ∧ D = true := by
                    rw [HBD.out, Bool.true_and, Bool.or_eq_false_iff, beq_eq_false_iff_ne, Bool.not_eq_false'] at hno2
                    exact hno2
                  obtain ⟨h4, rfl⟩ := h3
                  have g0 : ((a : Int) == (b : Int)) = false := by simp; omega
                  clear hyes hno2 h4
                  go_wp2_with fail
                  exact ⟨HN.out, by have h1 := HB.out.2.2; simp [intOf]; omega⟩
        · have e0 : decide (b < N) = false := by simpa using hbn
          have hbe2 : b = G.length := by have := HH.out.2.1; omega
          rw [hbe2] at hno
          have hN2 : NumZ wr w1.heap.size u6 (castL (brdT G G.length a)) := nums_numZ (own_lower H1.out.2.size hno)
          have hO2 := H1.out.1.below hbe
          have hne1 : u6.ownBlock = none ∨ u6.ownBlock ≠ u4.ownBlock := by
            cases hob : u6.ownBlock with
            | none => exact Or.inl rfl
            | some g =>
              right
              intro e
              have h5 := (hno.lt g hob).1
              obtain ⟨vs0, z1, z2, z3⟩ := H1.out.1
              have := (z2.lt g e.symm).2
              omega
          obtain ⟨s5, m5, k5, hu5⟩ : ∃ a m c, u6 = .slice a m c := by
            rcases own_slice hno with ⟨h, _⟩ | ⟨g, cap, h⟩
            · exact ⟨_, _, _, h⟩
            · exact ⟨_, _, _, h⟩
          obtain ⟨vs9, q1, q2, q3⟩ := hO2
          obtain ⟨s3, m3, k3, hu3⟩ : ∃ a m c, u4 = .slice a m c := by
            rcases own_slice q2 with ⟨h, _⟩ | ⟨g, cap, h⟩
            · exact ⟨_, _, _, h⟩
            · exact ⟨_, _, _, h⟩
          obtain ⟨lj, hlj⟩ : ∃ k, k = (brdZ G a).length := ⟨_, rfl⟩
          have hljb : lj ≤ 1000 := by rw [hlj, brdZ_len]; have := HR.out.2.2.2.2; have := HH.out.2.2.1; omega
          rw [← hlj] at q2
          have H2 := Lib.hid (And.intro hbe (And.intro hN2 (And.intro hne1 (And.intro hlj (And.intro hljb (And.intro q2 (H1.out.1.below hbe)))))))
          rw [hu5, hu3] at H2
          subst hu5 hu3
          clear hbe hN2 hne1 hlj hljb q1 q2 q3 hno hbn hb hbe2
          go_wp2_with (first | (at_builtin; refine Hid.out ?_) | go_in)
          unfold Hid
          refine wpList_append_own_at _ rfl _ _ 22 rfl w1.heap.size 25 i1 (.slice none 0 0) 1 24 Try.underlying22 HI1.out.1 HI1.out.2.1 HI1.out.2.2.1 HI1.out.2.2.2 rfl (by decide) (.slice s3 m3 k3) lj vs9 rfl (H2.out.2.2.2.2.2.1.alloc _) ⟨wr.heap.size, 0, none⟩ 1 1 [.slice s5 m5 k5] rfl rfl (cell_one_new _ _ _) (by simp [Value.oneCell']) (by have := H2.out.2.2.2.2.1; unfold maxLen; omega) (by have := H2.out.2.2.2.2.1; omega) (by have h1 := H2.out.1.size; have h2 := H1.out.2.size; simp; omega) ?_
          intro v' w4 ho hg _ hat
          have HN := Lib.hid (show RB1 w1 G v' (I ((a : Int) + 1)) w4 by
            refine ⟨a + 1, by have h1 := HH.out.2.1; have h2 := HR.out.2.2.2.2; omega, rfl, ?_, ?_⟩
            · rw [brdZ_succ]
              refine OwnG.app H2.out.2.2.2.2.2.2 H2.out.2.1 H2.out.2.2.1 hg (fun vs' _ h2 => ?_) hat
              rw [← H2.out.2.2.2.1] at h2 ⊢
              rw [own_same' h2 H2.out.2.2.2.2.2.1]
              exact ho
            · have hw2 := belowB H1.out.2 H2.out.1
              exact (hw2.alloc hw2.size _).grown hg (by have := hw2.size; simp; omega) (fun k hk => (H2.out.2.2.2.2.2.1.lt k hk).1))
          clear ho hg hat
          go_wp2_with fail
          exact ⟨HN.out, by have h2 := HR.out.2.2.2.2; simp [intOf]; omega⟩
    · have d0 : decide (a < N) = false := by simpa using han
      have hae : a = G.length := by have := HH.out.2.1; omega
      have FIN := Lib.hid (show BrdT w G wo (.returned u4) from ⟨_, rfl, by rw [hae] at hown; exact hown.gz, belowB HDD.out.be hbe⟩)
      clear hown hbe han ha hae
      go_wp2_with fail
      go_ret
      exact FIN.out
end Go.Proofs.Ytomfmkddfgpmkaa
