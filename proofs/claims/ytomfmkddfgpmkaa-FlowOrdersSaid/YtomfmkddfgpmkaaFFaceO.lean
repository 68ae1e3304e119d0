/-
  Order and Into of any graph of few nodes: the walks.
-/
import Derived.Test.YtomfmkddfgpmkaaFFaceP
namespace Go.Proofs.Ytomfmkddfgpmkaa
open Go Go.RowKit Fl

theorem natG_ne {Z : List (List Int)} (h : Z ≠ []) : 0 < (natG Z).length := by rw [natG_len]; exact List.length_pos_iff.2 h
/-- What an order is answered as. -/
def OrderF (w : World) (Z : List (List Int)) (W : World) (e : Ending) : Prop :=
  ∃ v, e = .returned (.tuple #[v, I (errF Z)]) ∧ Nums W w.heap.size v (if errF Z = 0 then orderL (natG Z) else []) ∧ Below w.heap.size w W
def IntoF (w : World) (Z : List (List Int)) (W : World) (e : Ending) : Prop :=
  ∃ v, e = .returned (.tuple #[v, I (errF Z)]) ∧ (errF Z = 0 → ∃ bl, v = .slice (some ⟨bl, 0, none⟩) Z.length Z.length ∧ IntoW w.heap.size bl Z.length (fun t => Fl.rowSt (natG Z) Z.length 0 t) W) ∧ (errF Z ≠ 0 → v = .slice none 0 0) ∧ Below w.heap.size w W

set_option maxRecDepth 100000 in
set_option maxHeartbeats 800000 in
theorem Into_any (bg cap : Nat) (Z : List (List Int)) (ht : TameZ Z) (w : World) (h : GrZ w bg Z) :
    Calls Try.prog 12 #[.slice (some ⟨bg, 0, none⟩) Z.length cap] w fun e w' => IntoF w Z w' e := by
  have HFA := Lib.hid (fault_any bg cap Z (by have := ht.1; omega) (fun i hi => by have := ht.2 i hi; omega) w h)
  have HH := Lib.hid (And.intro ht h)
  obtain ⟨er, her⟩ : ∃ er, er = errF Z := ⟨_, rfl⟩
  obtain ⟨n, hn⟩ : ∃ n, n = Z.length := ⟨_, rfl⟩
  rw [← her] at HFA
  rw [← hn] at HFA ⊢
  have HE := Lib.hid (And.intro her hn)
  by_cases he : er = 0
  · have hz : errF Z = 0 := by rw [← her]; exact he
    have HI := Lib.hid (into_any bg cap (natG Z) (by rw [natG_len]; have := ht.1; omega) (natG_ok hz) (fun i => by have := ht.row i; omega) w (gr_nat h hz))
    rw [natG_len, ← hn] at HI
    have HZ := Lib.hid hz
    clear ht h her hn hz
    subst he
    go_enter Try.func12, Try.ntmps12
    go_wp2_with fail
    refine HFA.out.mono ?_
    rintro e w' ⟨rfl, rfl⟩
    go_wp2_with fail
    refine HI.out.mono ?_
    rintro e w1 ⟨bl, rfl, hi, hb⟩
    have FIN := Lib.hid (show IntoF w Z w1 (.returned (.tuple #[.slice (some ⟨bl, 0, none⟩) n n, I 0])) from
      ⟨_, by rw [HZ.out], fun _ => ⟨bl, by rw [HE.out.2], by rw [natG_len] at hi; exact hi⟩, fun e => absurd HZ.out e, hb⟩)
    clear hi hb
    rw [natG_len, ← HE.out.2]
    go_wp2_with fail
    go_ret2
    exact FIN.out
  · have g0 : (er != 0) = true := by simp; exact he
    have HZ := Lib.hid (show errF Z ≠ 0 by rw [← her]; exact he)
    have FIN := Lib.hid (show IntoF w Z w (.returned (.tuple #[.slice none 0 0, I er])) from ⟨_, by rw [her], fun e => absurd e HZ.out, fun _ => rfl, Below.refl _ _⟩)
    clear ht h her hn he
    go_enter Try.func12, Try.ntmps12
    go_wp2_with fail
    refine HFA.out.mono ?_
    rintro e w' ⟨rfl, rfl⟩
    go_wp2_with fail
    go_ret2
    exact FIN.out

/-- A walk, as it stands in memory. -/
def WlkT (w : World) (G : List (List Nat)) (W : World) (e : Ending) : Prop := ∃ bw bf br bn v0 v1, e = .returned (.pointer (some ⟨bw, 0, none⟩)) ∧ WalkS w.heap.size bw bf br bn G (wlk G) v0 v1 W ∧ Below w.heap.size w W
theorem wlk_any (bg cap : Nat) (G : List (List Nat)) (hn0 : 0 < G.length) (hn : G.length ≤ 24) (hG : GOk G) (hrow : ∀ i, (row G i).length ≤ 1000) (w : World) (h : Gr w bg G) :
    Calls Try.prog 28 #[.slice (some ⟨bg, 0, none⟩) G.length cap] w fun e w' => WlkT w G w' e := by
  have hw := wlk_inv hG hn0
  refine (newWalk_any bg cap (fuelG G) G hn0 (by omega) hG (fuel_small hn hrow) (by rw [hw.1]; simp) (fun i => by have := hrow i; omega) w h).mono ?_
  rintro e w' ⟨bw, bf, br, bn, s, v0, v1, h1, h2, _, h4, h5⟩
  rw [hw.1] at h2
  cases h2
  exact ⟨bw, bf, br, bn, v0, v1, h1, h4, h5⟩

set_option maxRecDepth 100000 in
set_option maxHeartbeats 800000 in
theorem Order_any (bg cap : Nat) (Z : List (List Int)) (ht : TameZ Z) (hz0 : Z ≠ []) (w : World) (h : GrZ w bg Z) :
    Calls Try.prog 11 #[.slice (some ⟨bg, 0, none⟩) Z.length cap] w fun e w' => OrderF w Z w' e := by
  have HFA := Lib.hid (fault_any bg cap Z (by have := ht.1; omega) (fun i hi => by have := ht.2 i hi; omega) w h)
  obtain ⟨er, her⟩ : ∃ er, er = errF Z := ⟨_, rfl⟩
  obtain ⟨n, hn⟩ : ∃ n, n = Z.length := ⟨_, rfl⟩
  rw [← her] at HFA
  rw [← hn] at HFA ⊢
  have HE := Lib.hid (And.intro her hn)
  by_cases he : er = 0
  · have hz : errF Z = 0 := by rw [← her]; exact he
    have HI := Lib.hid (wlk_any bg cap (natG Z) (natG_ne hz0) (by rw [natG_len]; exact ht.1) (natG_ok hz) ht.row w (gr_nat h hz))
    rw [natG_len, ← hn] at HI
    obtain ⟨_, ⟨P, hP⟩, _, hc⟩ := wlk_inv (natG_ok hz) (natG_ne hz0)
    have HZ := Lib.hid (And.intro hz (And.intro (left_ne hP hc) (And.intro (show (wlk (natG Z)).left.length ≤ 24 by have := left_le hP; rw [natG_len] at this; have := ht.1; omega) (show (natG Z).length ≠ 0 by have := natG_ne hz0; omega))))
    clear ht h her hn hz hz0 hP hc
    subst he
    go_enter Try.func11, Try.ntmps11
    go_wp2_with fail
    refine HFA.out.mono ?_
    rintro e w' ⟨rfl, rfl⟩
    go_wp2_with fail
    refine HI.out.mono ?_
    rintro e w1 ⟨bw, bf, br, bn, v0, v1, rfl, hS, hb⟩
    obtain ⟨g, cp, hv1⟩ : ∃ g c, v1 = .slice (some ⟨g, 0, none⟩) (wlk (natG Z)).left.length c := by
      rcases own_slice hS.le with ⟨_, h⟩ | ⟨g, c, h⟩
      · exact absurd (List.length_eq_zero_iff.1 h) HZ.out.2.1
      · exact ⟨g, c, h⟩
    subst hv1
    have HO := Lib.hid (order_any bw v0 (.slice (some ⟨bf, 0, none⟩) (natG Z).length (natG Z).length) (.slice (some ⟨br, 0, none⟩) (natG Z).length (natG Z).length) w.heap.size g cp (wlk (natG Z)).left (by have := HZ.out.2.2.1; omega) HZ.out.2.1 w1 hS.wk.blk hS.le)
    have HB := Lib.hid hb
    clear hS hb
    go_wp2_with fail
    refine HO.out.mono ?_
    rintro e w2 ⟨v, rfl, ho, hb2⟩
    have FIN := Lib.hid (show OrderF w Z w2 (.returned (.tuple #[v, I 0])) from
      ⟨v, by rw [HZ.out.1], by rw [if_pos HZ.out.1]; unfold orderL; rw [if_neg HZ.out.2.2.2]; exact own_lower HB.out.size ho, below_of HB.out hb2⟩)
    clear ho hb2
    go_wp2_with fail
    go_ret2
    exact FIN.out
  · have g0 : (er != 0) = true := by simp; exact he
    have HZ := Lib.hid (show errF Z ≠ 0 by rw [← her]; exact he)
    have FIN := Lib.hid (show OrderF w Z w (.returned (.tuple #[.slice none 0 0, I er])) from ⟨_, by rw [her], by rw [if_neg HZ.out]; exact World.ownsRow_nil _ _ _ _, Below.refl _ _⟩)
    clear ht h her hn he
    go_enter Try.func11, Try.ntmps11
    go_wp2_with fail
    refine HFA.out.mono ?_
    rintro e w' ⟨rfl, rfl⟩
    go_wp2_with fail
    go_ret2
    exact FIN.out
end Go.Proofs.Ytomfmkddfgpmkaa
