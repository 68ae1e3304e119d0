/-
  The nearest above: the document's own answer, walked.
-/
import Derived.Test.YtomfmkddfgpmkaaFTreeP
import Derived.Test.YtomfmkddfgpmkaaFDoms
namespace Go.Proofs.Ytomfmkddfgpmkaa
open Go Go.RowKit Fl

namespace Fl
/-- The best of the first nodes that dominate another. -/
def BestA (G : List (List Nat)) (N b a : Nat) (best : Int) : Prop := (best = -1 ∧ ∀ a', a' < a → ¬ SD G a' b) ∨ ∃ c : Nat, best = (c : Int) ∧ c < N ∧ SD G c b ∧ ∀ a', a' < a → SD G a' b → DomG G a' c
theorem best_keep {G : List (List Nat)} {N b a : Nat} {best : Int} (h : BestA G N b a best) (hn : ¬ SD G a b) : BestA G N b (a + 1) best := by
  rcases h with ⟨h1, h2⟩ | ⟨c, h1, h2, h3, h4⟩
  · exact Or.inl ⟨h1, fun a' ha => by
      rcases Nat.lt_or_ge a' a with h | h
      · exact h2 a' h
      · have e : a' = a := by omega
        rw [e]; exact hn⟩
  · exact Or.inr ⟨c, h1, h2, h3, fun a' ha hs => by
      rcases Nat.lt_or_ge a' a with h | h
      · exact h4 a' h hs
      · have e : a' = a := by omega
        rw [e] at hs; exact absurd hs hn⟩
theorem best_first {G : List (List Nat)} {N b a : Nat} (ha : a < N) (h : ∀ a', a' < a → ¬ SD G a' b) (hs : SD G a b) : BestA G N b (a + 1) (a : Int) :=
  Or.inr ⟨a, rfl, ha, hs, fun a' h1 h2 => by
    rcases Nat.lt_or_ge a' a with h3 | h3
    · exact absurd h2 (h a' h3)
    · have e : a' = a := by omega
      rw [e]; exact dom_refl hs.1.1⟩
theorem best_new {G : List (List Nat)} (hG : GOk G) (h0 : G.length ≠ 0) {N b a c : Nat} (ha : a < N) (h : ∀ a', a' < a → SD G a' b → DomG G a' c) (hs : SD G a b) (hd : DomG G c a) : BestA G N b (a + 1) (a : Int) := by
  obtain ⟨_, ⟨P, hP⟩, hok, hc⟩ := wlk_inv hG (Nat.pos_of_ne_zero h0)
  exact Or.inr ⟨a, rfl, ha, hs, fun a' h1 h2 => by
    rcases Nat.lt_or_ge a' a with h3 | h3
    · exact dom_trans hP hok hc (h a' h3 h2) hd
    · have e : a' = a := by omega
      rw [e]; exact dom_refl hs.1.1⟩
theorem best_old {G : List (List Nat)} (hG : GOk G) (h0 : G.length ≠ 0) {N b a c : Nat} (hcN : c < N) (hcs : SD G c b) (h : ∀ a', a' < a → SD G a' b → DomG G a' c) (hs : SD G a b) (hd : ¬ DomG G c a) : BestA G N b (a + 1) (c : Int) := by
  obtain ⟨_, ⟨P, hP⟩, hok, hc⟩ := wlk_inv hG (Nat.pos_of_ne_zero h0)
  exact Or.inr ⟨c, rfl, hcN, hcs, fun a' h1 h2 => by
    rcases Nat.lt_or_ge a' a with h3 | h3
    · exact h a' h3 h2
    · have e : a' = a := by omega
      rw [e]; exact (dom_chain hP hok hc hs.1 hcs.1).resolve_right hd⟩
theorem best_is {G : List (List Nat)} (hG : GOk G) (h0 : G.length ≠ 0) {b : Nat} {best : Int} (hb : b < G.length) (h : BestA G G.length b G.length best) : (abvL G).getD b 0 = best := by
  obtain ⟨_, ⟨P, hP⟩, hok, hc⟩ := wlk_inv hG (Nat.pos_of_ne_zero h0)
  have hlt : ∀ x, SD G x b → x < G.length := fun x hx => hP.lo x (hP.ls x ((left_all hP hc x).2 hx.1.1)).1
  rcases (abv_facts hG h0).1.2 b hb with ⟨e, h1⟩ | ⟨a, e, h1, h2⟩
  · rcases h with ⟨h3, _⟩ | ⟨c, _, _, h3, _⟩
    · rw [e, h3]
    · exact absurd h3 (h1 c)
  · rcases h with ⟨_, h3⟩ | ⟨c, h3, _, h4, h5⟩
    · exact absurd h1 (h3 a (hlt a h1))
    · have h6 := h5 a (hlt a h1) h1
      have h7 := h2 c h4
      rw [e, h3, dom_anti hP hok hc h6 h7]
end Fl
def AB1 (w1 : World) (G : List (List Nat)) (N : Nat) (lv iv : Value) (W : World) : Prop :=
  ∃ b : Nat, b ≤ N ∧ iv = I (b : Int) ∧ NumZ W w1.heap.size lv ((abvL G).take b) ∧ Below w1.heap.size w1 W
def AB2 (G : List (List Nat)) (wb : World) (N b : Nat) (bv av : Value) (W : World) : Prop :=
  ∃ (a : Nat) (best : Int), a ≤ N ∧ av = I (a : Int) ∧ bv = I best ∧ BestA G N b a best ∧ W = wb
def AbvRT (w : World) (l : List Int) (W : World) (e : Ending) : Prop := ∃ v, e = .returned v ∧ NumZ W w.heap.size v l ∧ Below w.heap.size w W

set_option maxRecDepth 100000 in
set_option maxHeartbeats 1600000 in
theorem RefAbove_any (bg cap N : Nat) (Z : List (List Int)) (base : Nat) (ht : TameZ Z) (he : errF Z = 0) (hN : N = Z.length) (hN0 : 0 < N) (w : World) (h : OwnG base Z (.slice (some ⟨bg, 0, none⟩) N cap) w) :
    Calls Try.prog 20 #[.slice (some ⟨bg, 0, none⟩) N cap] w fun e w' => AbvRT w (abvL (natG Z)) w' e := by
  obtain ⟨G, hGd⟩ : ∃ G, G = natG Z := ⟨_, rfl⟩
  have hGl : G.length = N := by rw [hGd, natG_len, hN]
  have hGO : GOk G := by rw [hGd]; exact natG_ok he
  have hn24 : N ≤ 24 := by rw [hN]; exact ht.1
  obtain ⟨i0, hi, hz0, hz1, hz2⟩ := info_parts info_int'
  have HI := Lib.hid (And.intro hi (And.intro hz0 (And.intro hz1 hz2)))
  clear hi hz0 hz1 hz2
  have HCD := Lib.hid (Doms_any bg cap N Z base ht he hN hN0 w h)
  rw [← hGd] at HCD ⊢
  have h0 : G.length ≠ 0 := by omega
  have hal : (abvL G).length = N := by rw [(abv_facts hGO h0).1.1, hGl]
  have HH := Lib.hid (And.intro hGl (And.intro hGO (And.intro hn24 (And.intro h0 hal))))
  clear h ht he hN hGd hGl hGO hn24 hN0 h0 hal
  go_enter Try.func20, Try.ntmps20
  go_wp2_with fail
  refine HCD.out.mono ?_
  rintro e w1 ⟨bo, vs, rfl, hD⟩
  have HST := Lib.hid (show AB1 w1 G N (.slice none 0 0) (I 0) w1 from ⟨0, Nat.zero_le _, rfl, World.ownsRow_nil _ _ _ _, Below.refl _ _⟩)
  have HDD := Lib.hid hD
  clear hD HCD
  go_wp2_with fail
  go_loopw [4, 12] (fun lv iv W => AB1 w1 G N lv iv W) (fun _ iv _ => N - (intOf iv).toNat)
  case atStart => exact HST.out
  case round =>
    obtain ⟨b, hb, rfl, hnz, hbe⟩ := hrel
    obtain ⟨wb, rfl⟩ : ∃ W : World, W = wr := ⟨_, rfl⟩
    by_cases hbn : b < N
    · have H1 := Lib.hid (And.intro hnz (And.intro hbe hbn))
      have HS2 := Lib.hid (show AB2 G wb N b (I (-1)) (I 0) wb from ⟨0, -1, Nat.zero_le _, rfl, rfl, Or.inl ⟨rfl, fun a' h => absurd h (by omega)⟩, rfl⟩)
      have d0 : decide (b < N) = true := by simpa using hbn
      have d1 : (0 : Int) ≤ (b : Int) := by omega
      have d2 : (b : Int) < (N : Int) := by omega
      have d3 : (b : Int) ≤ 24 := by have := HH.out.2.2.1; omega
      clear hnz hbe hbn hb HST
      go_wp2_with fail
      go_loopw [6, 17] (fun bv av W => AB2 G wb N b bv av W) (fun _ av _ => N - (intOf av).toNat)
      case atStart => exact HS2.out
      case round =>
        obtain ⟨a, best, ha, rfl, rfl, hbs, rfl⟩ := hrel
        by_cases han : a < N
        · obtain ⟨r, hv, hrb, bsr, hkr, hlr, hdr⟩ := HDD.out.rw' a han han
          obtain ⟨D, hDd⟩ : ∃ D, D = bsr.getD b false := ⟨_, rfl⟩
          have hDi : D = true ↔ DomG G a b := by rw [hDd]; exact hdr b H1.out.2.2
          have y1 := (HDD.out.ko.below H1.out.2.1 HDD.out.ko.lt).get a (.slice (some ⟨r, 0, none⟩) N N) (by simp [hv])
          have y2 := (hkr.below H1.out.2.1 hkr.lt).get b (.bool D) (by rw [hDd]; exact arrB_getD bsr b false (by rw [hlr]; exact H1.out.2.2))
          have HB := Lib.hid (And.intro hbs (And.intro han hDi))
          have f0 : decide (a < N) = true := by simpa using han
          have f1 : (0 : Int) ≤ (a : Int) := by omega
          have f2 : (a : Int) < (N : Int) := by omega
          have f3 : (a : Int) ≤ 24 := by have := HH.out.2.2.1; omega
          clear hv hrb hkr hlr hdr hDd hDi han ha HS2
          by_cases hab : a = b
          · have g0 : ((a : Int) != (b : Int)) = false := by simp; omega
            have FIN := Lib.hid (show AB2 G wr N b (I best) (I ((a : Int) + 1)) wr from ⟨a + 1, best, HB.out.2.1, rfl, rfl, best_keep HB.out.1 (fun h => h.2 hab), rfl⟩)
            subst hab
            clear hbs
            go_wp2_with fail
            exact ⟨FIN.out, by have := HB.out.2.1; simp [intOf]; omega⟩
          · have g0 : ((a : Int) != (b : Int)) = true := by simp; omega
            have HAB := Lib.hid hab
            cases D
            · have FIN := Lib.hid (show AB2 G wr N b (I best) (I ((a : Int) + 1)) wr from ⟨a + 1, best, HB.out.2.1, rfl, rfl, best_keep HB.out.1 (fun h => by have := HB.out.2.2.2 h.1; cases this), rfl⟩)
              clear hbs
              go_wp2_with fail
              exact ⟨FIN.out, by have := HB.out.2.1; simp [intOf]; omega⟩
            · rcases hbs with ⟨rfl, h2⟩ | ⟨c, rfl, h2, h3, h4⟩
              · have FIN := Lib.hid (show AB2 G wr N b (I (a : Int)) (I ((a : Int) + 1)) wr from ⟨a + 1, a, HB.out.2.1, rfl, rfl, best_first HB.out.2.1 h2 ⟨HB.out.2.2.1 rfl, HAB.out⟩, rfl⟩)
                clear h2
                go_wp2_with fail
                exact ⟨FIN.out, by have := HB.out.2.1; simp [intOf]; omega⟩
              · obtain ⟨r2, hv, hrb, bsr2, hkr, hlr, hdr⟩ := HDD.out.rw' c h2 h2
                obtain ⟨D2, hDd⟩ : ∃ D, D = bsr2.getD a false := ⟨_, rfl⟩
                have hDi : D2 = true ↔ DomG G c a := by rw [hDd]; exact hdr a HB.out.2.1
                have y3 := (HDD.out.ko.below H1.out.2.1 HDD.out.ko.lt).get c (.slice (some ⟨r2, 0, none⟩) N N) (by simp [hv])
                have y4 := (hkr.below H1.out.2.1 hkr.lt).get a (.bool D2) (by rw [hDd]; exact arrB_getD bsr2 a false (by rw [hlr]; exact HB.out.2.1))
                have g1 : decide ((c : Int) < 0) = false := by simp
                have g2 : (0 : Int) ≤ (c : Int) := by omega
                have g3 : (c : Int) < (N : Int) := by omega
                have g4 : (c : Int) ≤ 24 := by have := HH.out.2.2.1; omega
                have HC := Lib.hid (And.intro h2 (And.intro h3 (And.intro h4 hDi)))
                clear hv hrb hkr hlr hdr hDd hDi h2 h3 h4
                cases D2
                · have FIN := Lib.hid (show AB2 G wr N b (I (c : Int)) (I ((a : Int) + 1)) wr from ⟨a + 1, c, HB.out.2.1, rfl, rfl, best_old HH.out.2.1 HH.out.2.2.2.1 HC.out.1 HC.out.2.1 HC.out.2.2.1 ⟨HB.out.2.2.1 rfl, HAB.out⟩ (fun h => by have := HC.out.2.2.2.2 h; cases this), rfl⟩)
                  go_wp2_with fail
                  exact ⟨FIN.out, by have := HB.out.2.1; simp [intOf]; omega⟩
                · have FIN := Lib.hid (show AB2 G wr N b (I (a : Int)) (I ((a : Int) + 1)) wr from ⟨a + 1, a, HB.out.2.1, rfl, rfl, best_new HH.out.2.1 HH.out.2.2.2.1 HB.out.2.1 HC.out.2.2.1 ⟨HB.out.2.2.1 rfl, HAB.out⟩ (HC.out.2.2.2.1 rfl), rfl⟩)
                  go_wp2_with fail
                  exact ⟨FIN.out, by have := HB.out.2.1; simp [intOf]; omega⟩
        · have e : a = N := by omega
          subst e
          have f0 : decide (a < a) = false := by simp
          have hbst := best_is HH.out.2.1 HH.out.2.2.2.1 (by rw [HH.out.1]; exact H1.out.2.2) (by rw [HH.out.1]; exact hbs)
          obtain ⟨s5, m5, k5, hu5⟩ : ∃ x m c, u4 = .slice x m c := by
            rcases own_slice H1.out.1 with ⟨h, _⟩ | ⟨g, cap, h⟩
            · exact ⟨_, _, _, h⟩
            · exact ⟨_, _, _, h⟩
          obtain ⟨ls, hls⟩ : ∃ ls, ls = (abvL G).take b := ⟨_, rfl⟩
          have hll : ls.length ≤ 24 := by rw [hls, List.length_take]; have := H1.out.2.2; have := HH.out.2.2.1; omega
          have htk : (abvL G).take (b + 1) = ls ++ [best] := by
            have hb2 : b < (abvL G).length := by rw [HH.out.2.2.2.2]; exact H1.out.2.2
            rw [List.take_add_one, ← hls, List.getElem?_eq_getElem hb2, ← hbst, getD_of _ _ _ hb2]
            rfl
          rw [← hls] at H1
          have HT := Lib.hid (And.intro hll htk)
          rw [hu5] at H1
          subst hu5
          clear hbst hls hll htk hbs ha han HS2
          go_wp2_with (first | (at_builtin; refine Hid.out ?_) | go_in)
          unfold Hid
          refine wpList_append_own_at _ rfl _ _ 25 rfl w1.heap.size 3 i0 (I 0) 1 8 Try.underlying25 HI.out.1 HI.out.2.1 HI.out.2.2.1 HI.out.2.2.2 rfl (by decide) (.slice s5 m5 k5) ls.length (ls.map (Value.int .i64)) rfl (H1.out.1.alloc _) ⟨wr.heap.size, 0, none⟩ 1 1 [I best] rfl rfl (cell_one_new _ _ _) (by simp [Value.oneCell']) (by have := HT.out.1; unfold maxLen; omega) (by have := HT.out.1; omega) (by have := H1.out.2.1.size; simp; omega) ?_
          intro v' w4 ho hg _ hat
          have HN2 := Lib.hid (show AB1 w1 G a v' (I ((b : Int) + 1)) w4 from ⟨b + 1, H1.out.2.2, rfl, by
            rw [HT.out.2]
            show World.ownsRow _ _ _ _ _ _ _
            simpa using ho, (H1.out.2.1.alloc H1.out.2.1.size _).grown hg (by have := H1.out.2.1.size; simp; omega) (fun k hk => (H1.out.1.lt k hk).1)⟩)
          clear ho hg hat
          go_wp2_with fail
          exact ⟨HN2.out, by have := H1.out.2.2; simp [intOf]; omega⟩
    · have d0 : decide (b < N) = false := by simpa using hbn
      obtain rfl : b = N := by omega
      have FIN := Lib.hid (show AbvRT w (abvL G) wb (.returned u4) from ⟨_, rfl, by rw [List.take_of_length_le (by rw [HH.out.2.2.2.2]; exact Nat.le_refl _)] at hnz; exact own_lower HDD.out.be.size hnz, belowB HDD.out.be hbe⟩)
      clear hnz hbe hbn hb HST
      go_wp2_with fail
      go_ret
      exact FIN.out
end Go.Proofs.Ytomfmkddfgpmkaa
