/-
  The document's own answer to who goes on to whom: the walk.
-/
import Derived.Test.YtomfmkddfgpmkaaFRefO
namespace Go.Proofs.Ytomfmkddfgpmkaa
open Go Go.RowKit Fl

namespace Fl
def castL (l : List Nat) : List Int := l.map fun n : Nat => (n : Int)
def intoZ (G : List (List Nat)) (b : Nat) : List (List Int) := (List.range b).map (fun t => castL (rowSt G G.length 0 t))
theorem intoZ_succ (G : List (List Nat)) (b : Nat) : intoZ G (b + 1) = intoZ G b ++ [castL (rowSt G G.length 0 b)] := by simp [intoZ, List.range_succ]
def inP (G : List (List Nat)) (p t : Nat) : List Nat := (List.range p).filter (fun q => (row G q).contains t)
theorem inP_rowSt (G : List (List Nat)) (t : Nat) : inP G G.length t = rowSt G G.length 0 t := by simp [inP, rowSt]
theorem inP_yes {G : List (List Nat)} {p t : Nat} (h : (row G p).contains t = true) : inP G (p + 1) t = inP G p t ++ [p] := by
  unfold inP
  rw [List.range_succ, List.filter_append, List.filter_cons, if_pos h]
  rfl
theorem inP_no {G : List (List Nat)} {p t : Nat} (h : (row G p).contains t = false) : inP G (p + 1) t = inP G p t := by
  unfold inP
  rw [List.range_succ, List.filter_append, List.filter_cons, if_neg (by rw [h]; decide)]
  simp
theorem inP_len (G : List (List Nat)) (p t : Nat) : (inP G p t).length ≤ p := by
  have := List.length_filter_le (fun q => (row G q).contains t) (List.range p)
  rw [List.length_range] at this
  exact this
end Fl
theorem nums_numZ {w : World} {base : Nat} {v : Value} {l : List Nat} (h : Nums w base v l) : NumZ w base v (castL l) := by
  have e1 : (castL l).length = l.length := by simp [castL]
  have e2 : (castL l).map (Value.int .i64) = ints l := by simp [castL, List.map_map]
  show World.ownsRow _ _ _ _ _ _ _
  rw [e1, e2]
  exact h

def RI1 (w : World) (G : List (List Nat)) (ov iv : Value) (W : World) : Prop := ∃ b : Nat, b ≤ G.length ∧ iv = I (b : Int) ∧ OwnG w.heap.size (intoZ G b) ov W ∧ Below w.heap.size w W
def RI2 (wo : World) (G : List (List Nat)) (b : Nat) (lv pv : Value) (W : World) : Prop := ∃ p : Nat, p ≤ G.length ∧ pv = I (p : Int) ∧ Nums W wo.heap.size lv (inP G p b) ∧ Below wo.heap.size wo W

set_option maxRecDepth 100000 in
set_option maxHeartbeats 1600000 in
theorem refInto_any (v : Value) (Z : List (List Int)) (base0 : Nat) (ht : TameZ Z) (he : errF Z = 0) (w : World) (h : OwnG base0 Z v w) :
    Calls Try.prog 17 #[v] w fun e w' => ∃ u, e = .returned u ∧ OwnG w.heap.size (intoZ (natG Z) (natG Z).length) u w' ∧ Below w.heap.size w w' := by
  obtain ⟨i0, hi, hz0, hz1, hz2⟩ := info_parts info_int'
  have HI := Lib.hid (And.intro hi (And.intro hz0 (And.intro hz1 hz2)))
  clear hi hz0 hz1 hz2
  obtain ⟨i1, hi, hz0, hz1, hz2⟩ := info_parts info_sl'
  have HI1 := Lib.hid (And.intro hi (And.intro hz0 (And.intro hz1 hz2)))
  clear hi hz0 hz1 hz2
  by_cases hz : Z = []
  · obtain ⟨vs, _, h2, _⟩ := h
    obtain ⟨sa, sc, rfl⟩ : ∃ a c, v = .slice a 0 c := by
      rcases own_slice h2 with ⟨e, _⟩ | ⟨g, c, e⟩
      · exact ⟨_, _, e⟩
      · exact ⟨_, _, by rw [e, hz]; rfl⟩
    have HZ := Lib.hid (show intoZ (natG Z) (natG Z).length = [] by rw [natG_len, hz]; rfl)
    clear h2 he ht hz
    go_enter Try.func17, Try.ntmps17
    go_wp2_with fail
    go_loop [3, 13] (fun ov iv => ov = .slice none 0 0 ∧ iv = I 0) (fun _ _ => 0)
    case atStart => exact ⟨rfl, rfl⟩
    case round =>
      obtain ⟨rfl, rfl⟩ := hrel
      go_wp2_with fail
      go_ret
      exact ⟨_, rfl, by rw [HZ.out]; exact OwnG.start _ _, Below.refl _ _⟩
  · obtain ⟨bg, cap, rfl, hgr⟩ := grB_own h he hz
    obtain ⟨G, hGd⟩ : ∃ G, G = natG Z := ⟨_, rfl⟩
    obtain ⟨n, hn⟩ : ∃ n, n = Z.length := ⟨_, rfl⟩
    have hGl : G.length = n := by rw [hGd, natG_len, hn]
    have hn24 : n ≤ 24 := by rw [hn]; exact ht.1
    have hGr : ∀ i, (row G i).length ≤ 1000 := fun i => by rw [hGd]; exact ht.row i
    rw [← hGd] at hgr ⊢
    rw [← hn]
    have HH := Lib.hid (And.intro hgr (And.intro hGl (And.intro hn24 hGr)))
    clear h he hz hgr hGd hn hGl hGr ht
    go_enter Try.func17, Try.ntmps17
    go_wp2_with fail
    go_loopw [3, 13] (fun ov iv W => RI1 w G ov iv W) (fun _ iv _ => n - (intOf iv).toNat)
    case atStart => exact ⟨0, Nat.zero_le _, rfl, OwnG.start _ _, Below.refl _ _⟩
    case round =>
      obtain ⟨b, hb, rfl, hown, hbe⟩ := hrel
      obtain ⟨wo, rfl⟩ : ∃ wo : World, wo = wr := ⟨_, rfl⟩
      have H1 := Lib.hid (And.intro hown hbe)
      by_cases hbn : b < n
      · have d0 : decide (b < n) = true := by simpa using hbn
        have d1 : (b : Int) ≤ 24 := by omega
        have HB := Lib.hid hbn
        clear hown hbe hbn hb
        go_wp2_with fail
        go_loopw [5, 18] (fun lv pv W => RI2 wo G b lv pv W) (fun _ pv _ => n - (intOf pv).toNat)
        case atStart => exact ⟨0, Nat.zero_le _, rfl, World.ownsRow_nil _ _ _ _, Below.refl _ _⟩
        case round =>
          obtain ⟨p, hp, rfl, hno, hbe⟩ := hrel
          by_cases hpn : p < n
          · have hgb := (HH.out.1.below H1.out.2).up H1.out.2.size (Nat.le_refl _) |>.below hbe
            obtain ⟨rv, c0, hrv⟩ := hgb.row p (by rw [HH.out.2.1]; exact hpn)
            obtain ⟨L, hL⟩ : ∃ L, L = (row G p).length := ⟨_, rfl⟩
            obtain ⟨ra, rc, rfl⟩ : ∃ a c, rv = .slice a L c := by
              rcases hrv with ⟨e, e2⟩ | ⟨g, c, e, _⟩
              · exact ⟨_, _, by rw [e, hL, e2]; rfl⟩
              · exact ⟨_, _, by rw [e, hL]⟩
            have hLb : (L : Int) ≤ 1000 := by have := HH.out.2.2.2 p; omega
            have d2 : decide (p < n) = true := by simpa using hpn
            have d3 : (0 : Int) ≤ (p : Int) := by omega
            have d4 : (p : Int) < (n : Int) := by omega
            have d5 : (p : Int) ≤ 24 := by omega
            have HP := Lib.hid (And.intro hno (And.intro hbe (And.intro hrv (And.intro hL hpn))))
            clear hno hbe hgb hrv hL hpn hp
            go_wp2_with fail
            go_loop [8, 25] (fun gv jv => ∃ j : Nat, j ≤ L ∧ jv = I (j : Int) ∧ gv = .bool (((row G p).take j).contains b)) (fun _ jv => L - (intOf jv).toNat)
            case atStart => exact ⟨0, Nat.zero_le _, rfl, by simp⟩
            case round =>
              obtain ⟨j, hj, rfl, rfl⟩ := hrel
              by_cases hjl : j < L
              · have hjr : j < (row G p).length := by rw [← HP.out.2.2.2.1]; exact hjl
                obtain ⟨g, hra, c1⟩ : ∃ g, ra = some ⟨g, 0, none⟩ ∧ wr.cell? ⟨g, j, none⟩ = some (I (((row G p)[j] : Nat) : Int)) := by
                  rcases HP.out.2.2.1 with ⟨e, e2⟩ | ⟨g, c, e, h1, h2⟩
                  · rw [e2] at hjr; exact absurd hjr (by simp)
                  · cases e; exact ⟨g, rfl, h2 j hjr⟩
                subst hra
                obtain ⟨x, hx⟩ : ∃ x, x = (row G p)[j] := ⟨_, rfl⟩
                rw [← hx] at c1
                have hsu := take_succ_has (row G p) j b hjr
                rw [← hx] at hsu
                have d6 : decide (j < L) = true := by simpa using hjl
                have d7 : (0 : Int) ≤ (j : Int) := by omega
                have d8 : (j : Int) < (L : Int) := by omega
                have HX := Lib.hid (And.intro hsu hjl)
                obtain ⟨q, hq⟩ : ∃ q, q = ((row G p).take j).contains b := ⟨_, rfl⟩
                rw [← hq] at HX ⊢
                clear hx hsu hjl hjr hq hj
                cases q
                · by_cases hxb : x = b
                  · have g1 : ((x : Int) == (b : Int)) = true := by rw [hxb]; simp
                    have HN := Lib.hid (show Value.bool true = .bool (((row G p).take (j + 1)).contains b) by rw [HX.out.1, hxb]; simp)
                    clear hxb
                    go_wp2_with fail
                    go_round
                    case rel => exact ⟨j + 1, HX.out.2, by go_num, HN.out⟩
                    case measure => have := HX.out.2; simp [intOf]; omega
                  · have g1 : ((x : Int) == (b : Int)) = false := by simp; omega
                    have HN := Lib.hid (show Value.bool false = .bool (((row G p).take (j + 1)).contains b) by rw [HX.out.1]; simp; exact fun e => hxb e.symm)
                    clear hxb
                    go_wp2_with fail
                    go_round
                    case rel => exact ⟨j + 1, HX.out.2, by go_num, HN.out⟩
                    case measure => have := HX.out.2; simp [intOf]; omega
                · have HN := Lib.hid (show Value.bool true = .bool (((row G p).take (j + 1)).contains b) by rw [HX.out.1]; simp)
                  go_wp2_with fail
                  go_round
                  case rel => exact ⟨j + 1, HX.out.2, by go_num, HN.out⟩
                  case measure => have := HX.out.2; simp [intOf]; omega
              · have d6 : decide (j < L) = false := by simpa using hjl
                have hte : (row G p).take j = row G p := List.take_of_length_le (by rw [← HP.out.2.2.2.1]; omega)
                rw [hte]
                obtain ⟨q, hq⟩ : ∃ q, q = (row G p).contains b := ⟨_, rfl⟩
                rw [← hq]
                have HQ := Lib.hid hq.symm
                clear hjl hte hq hj
                cases q
                · have HN := Lib.hid (show RI2 wo G b u5 (I ((p : Int) + 1)) wr from ⟨p + 1, by have h1 := HP.out.2.2.2.2; have h2 := HH.out.2.1; omega, rfl, by rw [inP_no HQ.out]; exact HP.out.1, HP.out.2.1⟩)
                  go_wp2_with fail
                  exact ⟨HN.out, by have h1 := HP.out.2.2.2.2; simp [intOf]; omega⟩
                · obtain ⟨s5, m5, k5, hu5⟩ : ∃ a m c, u5 = .slice a m c := by
                    rcases own_slice HP.out.1 with ⟨h, _⟩ | ⟨g, cap, h⟩
                    · exact ⟨_, _, _, h⟩
                    · exact ⟨_, _, _, h⟩
                  obtain ⟨r, hr⟩ : ∃ r, r = inP G p b := ⟨_, rfl⟩
                  have hrl : r.length ≤ 24 := by rw [hr]; have h1 := inP_len G p b; have h2 := HP.out.2.2.2.2; have h3 := HH.out.2.2.1; omega
                  have HPr : Hid (Nums wr wo.heap.size u5 r) := by rw [hr]; exact HP.out.1
                  have HR := Lib.hid (And.intro hr hrl)
                  rw [hu5] at HPr
                  have HP2 := Lib.hid HP.out.2
                  clear HP
                  subst hu5
                  clear hr hrl
                  go_wp2_with (first | (at_builtin; refine Hid.out ?_) | go_in)
                  unfold Hid
                  refine wpList_append_own_at _ rfl _ _ 25 rfl wo.heap.size 3 i0 (I 0) 1 8 Try.underlying25 HI.out.1 HI.out.2.1 HI.out.2.2.1 HI.out.2.2.2 rfl (by decide) (.slice s5 m5 k5) r.length (ints r) rfl (HPr.out.alloc _) ⟨wr.heap.size, 0, none⟩ 1 1 [I (p : Int)] rfl rfl (cell_one_new _ _ _) (by simp [Value.oneCell']) (by have := HR.out.2; unfold maxLen; omega) (by have := HR.out.2; omega) (by have := HP2.out.1.size; simp; omega) ?_
                  intro v' w4 hn4 hg _ hat
                  have HN := Lib.hid (show RI2 wo G b v' (I ((p : Int) + 1)) w4 from ⟨p + 1, by have h1 := HP2.out.2.2.2; have h2 := HH.out.2.1; omega, rfl, by
                    rw [inP_yes HQ.out, ← HR.out.1]
                    show World.ownsRow _ _ _ _ _ _ _
                    rw [List.length_append]
                    simpa using hn4, (HP2.out.1.alloc HP2.out.1.size _).grown hg (by have := HP2.out.1.size; simp; omega) (fun k hk => (HPr.out.lt k hk).1)⟩)
                  clear hn4 hg hat
                  go_wp2_with fail
                  exact ⟨HN.out, by have h1 := HP2.out.2.2.2; simp [intOf]; omega⟩
          · have d2 : decide (p < n) = false := by simpa using hpn
            have hpe : p = G.length := by have := HH.out.2.1; omega
            rw [hpe, inP_rowSt] at hno
            have hN2 : NumZ wr w.heap.size u5 (castL (rowSt G G.length 0 b)) := nums_numZ (own_lower H1.out.2.size hno)
            have hO2 := H1.out.1.below hbe
            have hne1 : u5.ownBlock = none ∨ u5.ownBlock ≠ u3.ownBlock := by
              cases hob : u5.ownBlock with
              | none => exact Or.inl rfl
              | some g =>
                right
                intro e
                have h5 := (hno.lt g hob).1
                obtain ⟨vs0, z1, z2, z3⟩ := H1.out.1
                have := (z2.lt g e.symm).2
                omega
            obtain ⟨s5, m5, k5, hu5⟩ : ∃ a m c, u5 = .slice a m c := by
              rcases own_slice hno with ⟨h, _⟩ | ⟨g, cap, h⟩
              · exact ⟨_, _, _, h⟩
              · exact ⟨_, _, _, h⟩
            obtain ⟨vs, q1, q2, q3⟩ := hO2
            obtain ⟨s3, m3, k3, hu3⟩ : ∃ a m c, u3 = .slice a m c := by
              rcases own_slice q2 with ⟨h, _⟩ | ⟨g, cap, h⟩
              · exact ⟨_, _, _, h⟩
              · exact ⟨_, _, _, h⟩
            obtain ⟨lj, hlj⟩ : ∃ k, k = (intoZ G b).length := ⟨_, rfl⟩
            have hljb : lj ≤ 1000 := by rw [hlj]; simp [intoZ]; have := HB.out; omega
            rw [← hlj] at q2
            have H2 := Lib.hid (And.intro hbe (And.intro hN2 (And.intro hne1 (And.intro hlj (And.intro hljb (And.intro q2 (H1.out.1.below hbe)))))))
            rw [hu5, hu3] at H2
            subst hu5 hu3
            clear hbe hN2 hne1 hlj hljb q1 q2 q3 hno hpe hpn hp
            go_wp2_with (first | (at_builtin; refine Hid.out ?_) | go_in)
            unfold Hid
            refine wpList_append_own_at _ rfl _ _ 22 rfl w.heap.size 25 i1 (.slice none 0 0) 1 24 Try.underlying22 HI1.out.1 HI1.out.2.1 HI1.out.2.2.1 HI1.out.2.2.2 rfl (by decide) (.slice s3 m3 k3) lj vs rfl (H2.out.2.2.2.2.2.1.alloc _) ⟨wr.heap.size, 0, none⟩ 1 1 [.slice s5 m5 k5] rfl rfl (cell_one_new _ _ _) (by simp [Value.oneCell']) (by have := H2.out.2.2.2.2.1; unfold maxLen; omega) (by have := H2.out.2.2.2.2.1; omega) (by have h1 := H2.out.1.size; have h2 := H1.out.2.size; simp; omega) ?_
            intro v' w4 ho hg _ hat
            have HN := Lib.hid (show RI1 w G v' (I ((b : Int) + 1)) w4 by
              refine ⟨b + 1, by have h1 := HH.out.2.1; have h2 := HB.out; omega, rfl, ?_, ?_⟩
              · rw [intoZ_succ]
                refine OwnG.app H2.out.2.2.2.2.2.2 H2.out.2.1 H2.out.2.2.1 hg (fun vs' _ h2 => ?_) hat
                rw [← H2.out.2.2.2.1] at h2 ⊢
                rw [own_same' h2 H2.out.2.2.2.2.2.1]
                exact ho
              · have hw2 := belowB H1.out.2 H2.out.1
                exact (hw2.alloc hw2.size _).grown hg (by have := hw2.size; simp; omega) (fun k hk => (H2.out.2.2.2.2.2.1.lt k hk).1))
            clear ho hg hat
            go_wp2_with fail
            exact ⟨HN.out, by have h2 := HB.out; simp [intOf]; omega⟩
      · have d0 : decide (b < n) = false := by simpa using hbn
        have hbe' : b = G.length := by have := HH.out.2.1; omega
        have FIN := Lib.hid (show OwnG w.heap.size (intoZ G G.length) u3 wo ∧ Below w.heap.size w wo by rw [← hbe']; exact ⟨hown, hbe⟩)
        clear hown hbe hbn hb hbe'
        go_wp2_with fail
        go_ret
        exact ⟨_, rfl, FIN.out⟩
end Go.Proofs.Ytomfmkddfgpmkaa
