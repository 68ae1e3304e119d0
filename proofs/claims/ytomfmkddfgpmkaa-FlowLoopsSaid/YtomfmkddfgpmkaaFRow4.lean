/-
  FlowTree: the walk of its body.
-/
import Derived.Test.YtomfmkddfgpmkaaFTreeP
import Derived.Test.YtomfmkddfgpmkaaFDoms
import Derived.BigQuiet
import Derived.Deep.Cut
namespace Go.Proofs.Ytomfmkddfgpmkaa
open Go Go.RowKit Fl

/-- The worlds that have grown out of one. -/
structure WCls (W : World) where
  w : World
  below : Below W.heap.size W w
instance (W : World) : Nonempty (WCls W) := ⟨⟨W, Below.refl _ _⟩⟩
theorem wp_region_cls {P : Program} {id : Nat} {Q : Exit → Act → World → Prop} {a : Act} {w : World} {l : List Oper} (hm : P.follows .mixedOrders = true) (hB : Region.lexB .any l.toArray = true)
    (h : wpQuiet P l.toArray (fun w' => ∃ x : WCls w, w' = x.w) (fun a' => ∀ x : WCls w, Q .normal a' x.w) l a) : (Code.region id l.toArray true).wp P Q a w := by
  have h2 : wpQuiet P l.toArray (fun w' => ∃ x : WCls w, w' = x.w) (fun a' => ∀ w', (∃ x : WCls w, w' = x.w) → Q .normal a' w') l a := by
    have he : (fun a' : Act => ∀ x : WCls w, Q .normal a' x.w) = (fun a' => ∀ w', (∃ x : WCls w, w' = x.w) → Q .normal a' w') := by
      funext a'
      apply propext
      exact ⟨fun h w' ⟨x, hx⟩ => by rw [hx]; exact h x, fun h x => h x.w ⟨x, rfl⟩⟩
    rw [← he]
    exact h
  exact wp_region_quiet (C := fun w' => ∃ x : WCls w, w' = x.w) hm hB ⟨⟨w.drewN 1, below_drewN (Below.refl _ _) 1⟩, rfl⟩ (by simpa using h2)

set_option maxRecDepth 100000 in
set_option maxHeartbeats 3200000 in
theorem flowTree_any (v : Value) (Z : List (List Int)) (ht : Z.length ≤ 9223372036854775807 ∧ ∀ i (h : i < Z.length), Z[i].length ≤ 9223372036854775807) (w : World) (h : GZc w v Z) :
    Calls Try.prog 6 #[v] w fun e w' => e = .returned (.bool true) ∧ Below w.heap.size w w' := by
  obtain ⟨T, hT⟩ : ∃ T, T = tameF Z := ⟨_, rfl⟩
  have hTt : TameZ T := by rw [hT]; exact tameF_ok Z
  have HT := Lib.hid (And.intro hTt hT)
  obtain ⟨er, her⟩ : ∃ er, er = errF T := ⟨_, rfl⟩
  have HE := Lib.hid her
  have HH := Lib.hid (And.intro ht h)
  clear ht h hT hTt her
  go_enter Try.func6, Try.ntmps6
  go_wp2_with fail
  refine (awake_any w).mono ?_
  rintro e w1 ⟨rfl, b1⟩
  have HC := Lib.hid (tame_any v Z HH.out.1 w1 (HH.out.2.below b1))
  have H1 := Lib.hid b1
  clear b1
  go_wp2_with fail
  refine HC.out.mono ?_
  rintro e w2 ⟨u, rfl, o2, b2⟩
  rw [← HT.out.2] at o2
  obtain ⟨ua, uc, hu⟩ := o2.size
  obtain ⟨n, hn⟩ : ∃ n, n = T.length := ⟨_, rfl⟩
  rw [← hn] at hu
  subst hu
  have HN := Lib.hid (And.intro hn (show n ≤ 24 by rw [hn]; exact HT.out.1.1))
  have HC2 := Lib.hid (Twin_any (.slice ua n uc) T ⟨by have := HT.out.1.1; omega, HT.out.1.2⟩ w2 o2.gz)
  have H2 := Lib.hid (And.intro o2 (belowB H1.out b2))
  clear o2 b2 HC H1 hn
  go_wp2_with fail
  refine HC2.out.mono ?_
  rintro e w3 ⟨m, rfl, o3, b3⟩
  have HC3 := Lib.hid (Above_own m T _ HT.out.1 w3 o3)
  rw [← HE.out] at HC3
  have H3 := Lib.hid (And.intro (H2.out.1.below b3) (belowB H2.out.2 b3))
  clear o3 b3 HC2 H2
  go_wp2_with fail
  refine HC3.out.mono ?_
  rintro e w4 ⟨va, rfl, n4, b4⟩
  have H4 := Lib.hid (And.intro n4 (And.intro (H3.out.1.below b4) (belowB H3.out.2 b4)))
  clear n4 b4 HC3 H3
  by_cases h0 : er = 0
  · subst h0
    have h0 : errF T = 0 := HE.out.symm
    by_cases hn0 : n = 0
    · obtain ⟨s1, k1, e1⟩ : ∃ a c, va = .slice a 0 c := by
        obtain ⟨a, c, e, _⟩ := H4.out.1
        have h2 : (if (0 : Int) = 0 then abvL (natG T) else []) = [] := by rw [if_pos rfl]; unfold abvL; rw [if_pos (by rw [natG_len, ← HN.out.1]; exact hn0)]
        rw [h2] at e
        exact ⟨_, _, e⟩
      have g0 : ((n : Int) == 0) = true := by rw [hn0]; rfl
      have FIN := Lib.hid H4.out.2.2
      subst e1
      clear h0 hn0 H4
      go_wp2_with fail
      go_ret
      exact ⟨rfl, FIN.out⟩
    · obtain ⟨G, hGd⟩ : ∃ G, G = natG T := ⟨_, rfl⟩
      have hGl : G.length = n := by rw [hGd, natG_len, HN.out.1]
      have hGO : GOk G := by rw [hGd]; exact natG_ok h0
      have hTne : T ≠ [] := by intro e; have := HN.out.1; rw [e] at this; exact hn0 this
      obtain ⟨bg, cc, hbg, _⟩ := grB_own H4.out.2.1 h0 hTne
      have hua : ua = some ⟨bg, 0, none⟩ := by injection hbg
      subst hua
      have hva : RowZ w4 va (abvL G) := by have := H4.out.1; rw [if_pos rfl, ← hGd] at this; exact this
      have hab := (abv_facts hGO (by omega)).1.1
      have HCD := Lib.hid (Doms_any bg uc n T _ HT.out.1 h0 HN.out.1 (by omega) w4 H4.out.2.1)
      rw [← hGd] at HCD
      have g0 : ((n : Int) == 0) = false := by simp; omega
      have H5 := Lib.hid (And.intro hva (And.intro H4.out.2.1 (And.intro H4.out.2.2 (And.intro h0 (And.intro hGd (And.intro hGl (And.intro hGO (And.intro hn0 (show (abvL G).length = n by rw [hab, hGl])))))))))
      clear h0 hn0 hGd hGl hGO hTne hbg hva hab H4
      go_wp2_with fail
      refine HCD.out.mono ?_
      rintro e w5 ⟨bo, vs, rfl, hD⟩
      have HCR := Lib.hid (Reach_dom bg uc n 0 (-1) T _ HT.out.1 H5.out.2.2.2.1 HN.out.1 (by have := H5.out.2.2.2.2.2.2.2.1; omega) w5 (H5.out.2.1.below hD.be))
      rw [← H5.out.2.2.2.2.1] at HCR
      have H6 := Lib.hid (And.intro hD (And.intro (H5.out.1.below hD.be) (belowB H5.out.2.2.1 hD.be)))
      clear hD HCD
      go_wp2_with fail
      refine HCR.out.mono ?_
      rintro e w6 ⟨ba, bs, rfl, ka, la, hA, _, b6⟩
      obtain ⟨sa, sc, hva, hrw⟩ := H6.out.2.1.below b6
      rw [H5.out.2.2.2.2.2.2.2.2] at hva
      subst hva
      have H7 := Lib.hid (And.intro (H6.out.1.below b6) (And.intro hrw (And.intro ka (And.intro la (And.intro hA (And.intro (belowB H6.out.2.2 b6) (H6.out.2.1.below b6)))))))
      have HS := Lib.hid (show Q4 w6 n (I 0) w6 from ⟨0, Nat.zero_le _, rfl, Below.refl _ _⟩)
      clear hrw ka la hA b6 HCR H6
      go_wp2_with fail
      go_loopw [35] (fun bv W => Q4 w6 n bv W) (fun bv _ => n - (intOf bv).toNat)
      case atStart => exact HS.out
      case round =>
        obtain ⟨b, hb, rfl, hbe⟩ := hrel
        by_cases hbn : b < n
        · obtain ⟨B, hB⟩ : ∃ B, B = bs.getD b false := ⟨_, rfl⟩
          have y0 := (H7.out.2.2.1.below hbe H7.out.2.2.1.lt).get b (.bool B) (by rw [hB]; exact arrB_getD bs b false (by rw [H7.out.2.2.2.1]; exact hbn))
          obtain ⟨g, hsa, hgl, c1w⟩ := H7.out.2.1 b (by rw [H5.out.2.2.2.2.2.2.2.2]; exact hbn)
          have c1 := cell_below hbe hgl c1w
          subst hsa
          obtain ⟨y, hy⟩ : ∃ y, y = (abvL G).getD b 0 := ⟨_, rfl⟩
          rw [← getD_of (abvL G) b 0 (by rw [H5.out.2.2.2.2.2.2.2.2]; exact hbn), ← hy] at c1
          have hBr : B = true ↔ Rch G b := by rw [hB, H7.out.2.2.2.2.1 b, av_all]; exact Iff.rfl
          have hBy : B = true ↔ (b = 0 ∨ 0 ≤ y) := by rw [hBr, hy]; exact (abv_rch H5.out.2.2.2.2.2.2.1 (by have := H5.out.2.2.2.2.2.1; have := H5.out.2.2.2.2.2.2.2.1; omega) (by rw [H5.out.2.2.2.2.2.1]; exact hbn)).symm
          have e0 : decide (b < n) = true := by simpa using hbn
          have e1 : (0 : Int) ≤ (b : Int) := by omega
          have e2 : (b : Int) < (n : Int) := by omega
          have e3 : (b : Int) ≤ 24 := by have := HN.out.2; omega
          have HP := Lib.hid (And.intro hbn (And.intro hBr (And.intro hbe hB)))
          have HBY := Lib.hid hBy
          clear hB hgl c1w hy hBr hBy hbn hbe hb HS
          go_upto_region 12 with (fail)
          go_cut [51] from 38 (fun c W => c = .bool false ∧ Below w6.heap.size w6 W)
          case first =>
            by_cases hb0 : b = 0
            · have hBt : B = true := HBY.out.2 (Or.inl hb0)
              have e4 : ((b : Int) == 0) = true := by simp; omega
              subst hBt
              subst hb0
              have HF := Lib.hid (fun k => below_drewN HP.out.2.2.1 k)
              go_quiet (fail)
              go_wp2_with fail
              go_meet
              case rel => exact ⟨rfl, HF.out _⟩
            · have e4 : ((b : Int) == 0) = false := by simp; omega
              have e5 : ¬ ((b : Int) = 0) := by omega
              have HF := Lib.hid (fun k => below_drewN HP.out.2.2.1 k)
              by_cases hy0 : (0 : Int) ≤ y
              · have hBt : B = true := HBY.out.2 (Or.inr hy0)
                subst hBt
                go_quiet (fail)
                go_wp2_with fail
                go_meet
                case rel => exact ⟨rfl, HF.out _⟩
              · have hBt : B = false := by
                  cases hB2 : B with
                  | false => rfl
                  | true => exact absurd (HBY.out.1 hB2) (by omega)
                subst hBt
                have e6 : decide ((0 : Int) ≤ y) = false := by simpa using hy0
                go_quiet (fail)
                go_wp2_with fail
                go_meet
                case rel => exact ⟨rfl, HF.out _⟩
          case rest =>
            obtain ⟨rfl, hbc⟩ := hcut
            have HS3 := Lib.hid (show Q4 w6 n (I 0) wc from ⟨0, Nat.zero_le _, rfl, hbc⟩)
            clear hbc y0 c1
            go_wp2_with fail
            go_loopw [54] (fun av W => Q4 w6 n av W) (fun av _ => n - (intOf av).toNat)
            case atStart => exact HS3.out
            case round =>
              obtain ⟨a, ha, rfl, hae⟩ := hrel
              by_cases han : a < n
              · obtain ⟨A, hA⟩ : ∃ A, A = bs.getD a false := ⟨_, rfl⟩
                obtain ⟨r, hv, hrb, bsr, hkr, hlr, hdr⟩ := H7.out.1.rw' a han han
                obtain ⟨D, hDd⟩ : ∃ D, D = bsr.getD b false := ⟨_, rfl⟩
                have hDi : D = true ↔ DomG G a b := by rw [hDd]; exact hdr b HP.out.1
                have hAi : A = true ↔ Rch G a := by rw [hA, H7.out.2.2.2.2.1 a, av_all]; exact Iff.rfl
                have up : ∀ x : WCls wr, Below w6.heap.size w6 x.w := fun x => belowB hae x.below
                have y1 : ∀ x : WCls wr, x.w.cell? ⟨ba, b, none⟩ = some (.bool B) := fun x => (H7.out.2.2.1.below (up x) H7.out.2.2.1.lt).get b (.bool B) (by rw [HP.out.2.2.2]; exact arrB_getD bs b false (by rw [H7.out.2.2.2.1]; exact HP.out.1))
                have y2 : ∀ x : WCls wr, x.w.cell? ⟨ba, a, none⟩ = some (.bool A) := fun x => (H7.out.2.2.1.below (up x) H7.out.2.2.1.lt).get a (.bool A) (by rw [hA]; exact arrB_getD bs a false (by rw [H7.out.2.2.2.1]; exact han))
                have y3 : ∀ x : WCls wr, x.w.cell? ⟨bo, a, none⟩ = some (.slice (some ⟨r, 0, none⟩) n n) := fun x => (H7.out.1.ko.below (up x) H7.out.1.ko.lt).get a (.slice (some ⟨r, 0, none⟩) n n) (by simp [hv])
                have y4 : ∀ x : WCls wr, x.w.cell? ⟨r, b, none⟩ = some (.bool D) := fun x => (hkr.below (up x) hkr.lt).get b (.bool D) (by rw [hDd]; exact arrB_getD bsr b false (by rw [hlr]; exact HP.out.1))
                have hOV : A = true → B = true → ∀ x : WCls wr, Calls Try.prog 26 #[.slice (some ⟨g, 0, none⟩) n sc, I (a : Int), I (b : Int)] x.w fun e w'' => e = .returned (.bool D) ∧ ∃ y : WCls wr, w'' = y.w := fun q1 q2 x => by
                  have hov : ovW (abvL G) n (a : Int) (b : Int) = D := by
                    have h1 := ov_dom H5.out.2.2.2.2.2.2.1 (by have := H5.out.2.2.2.2.2.1; have := H5.out.2.2.2.2.2.2.2.1; omega) (hAi.1 q1) (HP.out.2.1.1 q2)
                    rw [H5.out.2.2.2.2.2.1, ← hDi] at h1
                    exact Bool.eq_iff_iff.2 h1
                  refine (OverW_any _ (abvL G) n (a : Int) (b : Int) H5.out.2.2.2.2.2.2.2.2.symm (by have := HN.out.2; omega) x.w (H7.out.2.2.2.2.2.2.below (up x))).mono ?_
                  rintro e w'' ⟨rfl, hb9⟩
                  exact ⟨by rw [hov], ⟨w'', belowB x.below hb9⟩, rfl⟩
                have HOV := Lib.hid hOV
                have HAN := Lib.hid (And.intro han (And.intro hae hA))
                have d0 : decide (a < n) = true := by simpa using han
                have d1 : (0 : Int) ≤ (a : Int) := by omega
                have d2 : (a : Int) < (n : Int) := by omega
                have d3 : (a : Int) ≤ 24 := by have := HN.out.2; omega
                clear hOV hA hv hrb hkr hlr hdr hDd hDi hAi up hae han ha HS3
                go_upto_region 17 with (fail)
                cases A
                · refine wp_region_cls (by kernel_rfl) (by kernel_rfl) ?_
                  repeat (go_big_quiet_step (fail))
                  refine wpQuiet_nil ?_
                  intro x
                  obtain ⟨W8, hb8⟩ := x
                  have FIN := Lib.hid (show Q4 w6 n (I ((a : Int) + 1)) W8 from ⟨a + 1, HAN.out.1, rfl, belowB HAN.out.2.1 hb8⟩)
                  dsimp only
                  clear hb8 y1 y2 y3 y4
                  go_wp2_with fail
                  exact ⟨FIN.out, by have h1 := HAN.out.1; simp [intOf]; omega⟩
                · cases B
                  · refine wp_region_cls (by kernel_rfl) (by kernel_rfl) ?_
                    repeat (go_big_quiet_step (fail))
                    refine wpQuiet_nil ?_
                    intro x
                    obtain ⟨W8, hb8⟩ := x
                    have FIN := Lib.hid (show Q4 w6 n (I ((a : Int) + 1)) W8 from ⟨a + 1, HAN.out.1, rfl, belowB HAN.out.2.1 hb8⟩)
                    dsimp only
                    clear hb8 y1 y2 y3 y4
                    go_wp2_with fail
                    exact ⟨FIN.out, by have h1 := HAN.out.1; simp [intOf]; omega⟩
                  · have HOV2 := Lib.hid (HOV.out rfl rfl)
                    cases D
                    · refine wp_region_cls (by kernel_rfl) (by kernel_rfl) ?_
                      repeat (go_big_quiet_step ((go_at_call 26; exact HOV2.out _)))
                      refine wpQuiet_nil ?_
                      intro x
                      obtain ⟨W8, hb8⟩ := x
                      have FIN := Lib.hid (show Q4 w6 n (I ((a : Int) + 1)) W8 from ⟨a + 1, HAN.out.1, rfl, belowB HAN.out.2.1 hb8⟩)
                      dsimp only
                      clear hb8 y1 y2 y3 y4
                      go_wp2_with fail
                      exact ⟨FIN.out, by have h1 := HAN.out.1; simp [intOf]; omega⟩
                    · refine wp_region_cls (by kernel_rfl) (by kernel_rfl) ?_
                      repeat (go_big_quiet_step ((go_at_call 26; exact HOV2.out _)))
                      refine wpQuiet_nil ?_
                      intro x
                      obtain ⟨W8, hb8⟩ := x
                      have FIN := Lib.hid (show Q4 w6 n (I ((a : Int) + 1)) W8 from ⟨a + 1, HAN.out.1, rfl, belowB HAN.out.2.1 hb8⟩)
                      dsimp only
                      clear hb8 y1 y2 y3 y4
                      go_wp2_with fail
                      exact ⟨FIN.out, by have h1 := HAN.out.1; simp [intOf]; omega⟩
              · have d0 : decide (a < n) = false := by simpa using han
                have FIN := Lib.hid (show Q4 w6 n (I ((b : Int) + 1)) wr from ⟨b + 1, HP.out.1, rfl, hae⟩)
                have hbn := HP.out.1
                clear han hae ha HS3
                go_wp2_with fail
                exact ⟨FIN.out, by simp [intOf]; omega⟩
        · have e0 : decide (b < n) = false := by simpa using hbn
          have FIN := Lib.hid (belowB H7.out.2.2.2.2.2.1 hbe)
          clear hbn hbe hb HS
          go_wp2_with fail
          go_ret
          exact ⟨rfl, FIN.out⟩
  · have g0 : (er != 0) = true := by simp; exact h0
    obtain ⟨s1, k1, e1⟩ : ∃ a c, va = .slice a 0 c := by
      obtain ⟨a, c, e, _⟩ := H4.out.1
      rw [if_neg h0] at e
      exact ⟨_, _, e⟩
    have FIN := Lib.hid H4.out.2.2
    subst e1
    clear h0 H4
    go_wp2_with fail
    go_ret
    exact ⟨rfl, FIN.out⟩
end Go.Proofs.Ytomfmkddfgpmkaa
