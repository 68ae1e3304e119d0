/-
  FlowAbove: the walk of its body.
-/
import Derived.Test.YtomfmkddfgpmkaaFBdA
namespace Go.Proofs.Ytomfmkddfgpmkaa
open Go Go.RowKit Fl

set_option maxRecDepth 100000 in
theorem Doms_nil (a : Option Addr) (c : Nat) (w : World) :
    Calls Try.prog 24 #[.slice a 0 c] w fun e w' => ∃ b, e = .returned (.slice (some ⟨b, 0, none⟩) 0 0) ∧ Below w.heap.size w w' := by
  have hmk : ∀ u : World, (Instr.makeSlice 44 (.int .i64 0) (.int .i64 0)).run Try.prog u = .ok (.slice (some ⟨u.heap.size, 0, none⟩) 0 0) (u.alloc (.cells #[] 46)) := fun u => mkBBn 0 (by omega) u
  have HC := Lib.hid (Reach_nil a c w)
  go_enter Try.func24, Try.ntmps24
  go_wp2_with fail
  refine HC.out.mono ?_
  rintro e w1 ⟨b, rfl, hk, hb⟩
  obtain ⟨W2, hW2⟩ : ∃ W, W = w1.alloc (.cells #[] 46) := ⟨_, rfl⟩
  obtain ⟨bo, hbo⟩ : ∃ b, b = w1.heap.size := ⟨_, rfl⟩
  have FIN := Lib.hid (show Below w.heap.size w W2 by rw [hW2]; exact hb.alloc hb.size _)
  have HW2 := Lib.hid (And.intro hW2 hbo)
  clear hk hb HC hW2 hbo
  go_upto_region 3 with (fail)
  rw [← HW2.out.2]
  change Code.wp _ _ _ _ (w1.alloc (.cells #[] 46))
  rw [← HW2.out.1]
  go_wp2_with fail
  go_loopw [15] (fun iv W => iv = I 0 ∧ W = W2) (fun _ _ => 0)
  case atStart => exact ⟨rfl, rfl⟩
  case round =>
    obtain ⟨rfl, rfl⟩ := hrel
    go_wp2_with fail
    go_ret
    exact ⟨_, rfl, FIN.out⟩
set_option maxRecDepth 100000 in
theorem RefAbove_nil (a : Option Addr) (c : Nat) (w : World) :
    Calls Try.prog 20 #[.slice a 0 c] w fun e w' => AbvRT w [] w' e := by
  have HC := Lib.hid (Doms_nil a c w)
  go_enter Try.func20, Try.ntmps20
  go_wp2_with fail
  refine HC.out.mono ?_
  rintro e w1 ⟨b, rfl, hb⟩
  have FIN := Lib.hid (show AbvRT w [] w1 (.returned (.slice none 0 0)) from ⟨_, rfl, World.ownsRow_nil _ _ _ _, hb⟩)
  clear hb HC
  go_wp2_with fail
  go_loopw [4, 12] (fun lv iv W => lv = .slice none 0 0 ∧ iv = I 0 ∧ W = w1) (fun _ _ _ => 0)
  case atStart => exact ⟨rfl, rfl, rfl⟩
  case round =>
    obtain ⟨rfl, rfl, rfl⟩ := hrel
    go_wp2_with fail
    go_ret
    exact FIN.out
set_option maxRecDepth 100000 in
theorem RefBorders_nil (a : Option Addr) (c : Nat) (w : World) :
    Calls Try.prog 21 #[.slice a 0 c] w fun e w' => BrdT w [] w' e := by
  have HC := Lib.hid (Doms_nil a c w)
  go_enter Try.func21, Try.ntmps21
  go_wp2_with fail
  refine HC.out.mono ?_
  rintro e w1 ⟨b, rfl, hb⟩
  have FIN := Lib.hid (show BrdT w [] w1 (.returned (.slice none 0 0)) from ⟨_, rfl, gz_nil _ _ _, hb⟩)
  clear hb HC
  go_wp2_with fail
  go_loopw [4, 17] (fun lv iv W => lv = .slice none 0 0 ∧ iv = I 0 ∧ W = w1) (fun _ _ _ => 0)
  case atStart => exact ⟨rfl, rfl, rfl⟩
  case round =>
    obtain ⟨rfl, rfl, rfl⟩ := hrel
    go_wp2_with fail
    go_ret
    exact FIN.out
theorem RefAbove_own (v : Value) (Z : List (List Int)) (base : Nat) (ht : TameZ Z) (he : errF Z = 0) (w : World) (h : OwnG base Z v w) :
    Calls Try.prog 20 #[v] w fun e w' => AbvRT w (abvL (natG Z)) w' e := by
  by_cases hz : Z = []
  · subst hz
    obtain ⟨a, c, rfl⟩ := h.size
    exact RefAbove_nil a c w
  · obtain ⟨bg, c, e, _⟩ := grB_own h he hz
    subst e
    exact RefAbove_any bg c Z.length Z base ht he rfl (List.length_pos_iff.2 hz) w h
theorem RefBorders_own (v : Value) (Z : List (List Int)) (base : Nat) (ht : TameZ Z) (he : errF Z = 0) (w : World) (h : OwnG base Z v w) :
    Calls Try.prog 21 #[v] w fun e w' => BrdT w (natG Z) w' e := by
  by_cases hz : Z = []
  · subst hz
    obtain ⟨a, c, rfl⟩ := h.size
    exact RefBorders_nil a c w
  · obtain ⟨bg, c, e, _⟩ := grB_own h he hz
    subst e
    exact RefBorders_any bg c Z.length Z base ht he rfl (List.length_pos_iff.2 hz) w h
theorem abv_len (T : List (List Int)) (h : TameZ T) (he : errF T = 0) : (abvL (natG T)).length ≤ 24 := by
  by_cases h0 : (natG T).length = 0
  · unfold abvL; rw [if_pos h0]; simp
  · rw [(abv_facts (natG_ok he) h0).1.1, natG_len]; exact h.1
theorem brd_small (T : List (List Int)) (h : TameZ T) : (brdZ (natG T) (natG T).length).length ≤ 9223372036854775806 ∧ ∀ i (hi : i < (brdZ (natG T) (natG T).length).length), (brdZ (natG T) (natG T).length)[i].length ≤ 9223372036854775806 := by
  have h24 : (natG T).length ≤ 24 := by rw [natG_len]; exact h.1
  refine ⟨by rw [brdZ_len]; omega, fun i hi => ?_⟩
  have e : (brdZ (natG T) (natG T).length)[i] = castL (brdT (natG T) (natG T).length i) := by simp [brdZ]
  rw [e]
  have := brdT_len (natG T) (natG T).length i
  simp only [castL, List.length_map]
  omega

set_option maxRecDepth 100000 in
set_option maxHeartbeats 3200000 in
theorem flowAbove_any (v : Value) (Z : List (List Int)) (ht : Z.length ≤ 9223372036854775807 ∧ ∀ i (h : i < Z.length), Z[i].length ≤ 9223372036854775807) (w : World) (h : GZc w v Z) :
    Calls Try.prog 4 #[v] w fun e w' => e = .returned (.bool true) ∧ Below w.heap.size w w' := by
  obtain ⟨T, hT⟩ : ∃ T, T = tameF Z := ⟨_, rfl⟩
  have hTt : TameZ T := by rw [hT]; exact tameF_ok Z
  have HT := Lib.hid (And.intro hTt hT)
  obtain ⟨er, her⟩ : ∃ er, er = errF T := ⟨_, rfl⟩
  have HE := Lib.hid her
  have HH := Lib.hid (And.intro ht h)
  clear ht h hT hTt her
  go_enter Try.func4, Try.ntmps4
  go_wp2_with fail
  refine (awake_any w).mono ?_
  rintro e w1 ⟨rfl, b1⟩
  have HC := Lib.hid (tame_any v Z HH.out.1 w1 (HH.out.2.below b1))
  have H1 := Lib.hid b1
  clear b1
  go_wp2_with fail
  refine HC.out.mono ?_
  rintro e w2 ⟨u, rfl, o2, b2⟩
  rw [← HT.out.2] at o2
  have HTW := Lib.hid (fun (W : World) (hW : OwnG w1.heap.size T u W) => Twin_any u T ⟨by have := HT.out.1.1; omega, HT.out.1.2⟩ W hW.gz)
  have HC2 := Lib.hid (HTW.out w2 o2)
  have H2 := Lib.hid (And.intro o2 (belowB H1.out b2))
  clear o2 b2 HC H1
  go_wp2_with fail
  refine HC2.out.mono ?_
  rintro e w3 ⟨m, rfl, o3, b3⟩
  have HC3 := Lib.hid (Above_own m T _ HT.out.1 w3 o3)
  rw [← HE.out] at HC3
  have H3 := Lib.hid (And.intro (H2.out.1.below b3) (belowB H2.out.2 b3))
  clear o3 b3 HC2 H2
  go_wp2_with fail
  refine HC3.out.mono ?_
  rintro e w4 ⟨va, rfl, n4, b4⟩
  have HC4 := Lib.hid (HTW.out w4 (H3.out.1.below b4))
  have H4 := Lib.hid (And.intro n4 (And.intro (H3.out.1.below b4) (belowB H3.out.2 b4)))
  clear n4 b4 HC3 H3 HTW
  go_wp2_with fail
  refine HC4.out.mono ?_
  rintro e w5 ⟨m2, rfl, o5, b5⟩
  have HC5 := Lib.hid (Borders_own m2 T _ HT.out.1 w5 o5)
  have H5 := Lib.hid (And.intro (H4.out.1.below b5) (And.intro (H4.out.2.1.below b5) (belowB H4.out.2.2 b5)))
  clear o5 b5 HC4 H4
  go_wp2_with fail
  refine HC5.out.mono ?_
  rintro e w6 ⟨vb, rfl, n6, b6⟩
  rw [← HE.out] at n6 ⊢
  have HC6 := Lib.hid (check_gz u T (by have := HT.out.1.1; omega) (fun i hi => by have := HT.out.1.2 i hi; omega) w6 (H5.out.2.1.below b6).gz)
  rw [← HE.out] at HC6
  have H6 := Lib.hid (And.intro (H5.out.1.below b6) (And.intro n6 (And.intro (H5.out.2.1.below b6) (belowB H5.out.2.2 b6))))
  clear n6 b6 HC5 H5
  go_wp2_with fail
  refine HC6.out.mono ?_
  rintro e w' ⟨rfl, rfl⟩
  have hne : (er != er) = false := by simp
  clear HC6
  by_cases h0 : er = 0
  · subst h0
    have h0 : errF T = 0 := HE.out.symm
    have hva : RowZ w6 va (abvL (natG T)) := by have := H6.out.1; rw [if_pos rfl] at this; exact this
    have hvb : GZ w6 vb (brdZ (natG T) (natG T).length) := by have := H6.out.2.1; rw [if_pos rfl] at this; exact this
    have hal := abv_len T HT.out.1 h0
    have HC7 := Lib.hid (RefAbove_own u T _ HT.out.1 h0 w6 H6.out.2.2.1)
    have H7 := Lib.hid (And.intro hva (And.intro hvb (And.intro h0 (show (abvL (natG T)).length ≤ 9223372036854775806 by omega))))
    clear h0 hva hvb hal hne
    go_wp2_with fail
    refine HC7.out.mono ?_
    rintro e w7 ⟨r, rfl, n7, b7⟩
    have HC8 := Lib.hid (Same_any va r _ _ H7.out.2.2.2 H7.out.2.2.2 w7 (H7.out.1.below b7) (numZ_row n7))
    have H8 := Lib.hid (And.intro (H7.out.2.1.below b7) (And.intro (H6.out.2.2.1.below b7) (belowB H6.out.2.2.2 b7)))
    rw [show decide (abvL (natG T) = abvL (natG T)) = true by simp] at HC8
    clear n7 b7 HC7
    go_wp2_with fail
    refine HC8.out.mono ?_
    rintro e w8 ⟨rfl, b8⟩
    have HC9 := Lib.hid (RefBorders_own u T _ HT.out.1 H7.out.2.2.1 w8 (H8.out.2.1.below b8))
    have H9 := Lib.hid (And.intro (H8.out.1.below b8) (belowB H8.out.2.2 b8))
    clear b8 HC8 H8
    go_wp2_with fail
    refine HC9.out.mono ?_
    rintro e w9 ⟨r2, rfl, o9, b9⟩
    have HC10 := Lib.hid (SameLists_any vb r2 _ _ (brd_small T HT.out.1).1 (brd_small T HT.out.1).1 (brd_small T HT.out.1).2 (brd_small T HT.out.1).2 w9 (H9.out.1.below b9) o9)
    have H10 := Lib.hid (belowB H9.out.2 b9)
    rw [show decide (brdZ (natG T) (natG T).length = brdZ (natG T) (natG T).length) = true by simp] at HC10
    clear o9 b9 HC9 H9
    go_wp2_with fail
    refine HC10.out.mono ?_
    rintro e w10 ⟨rfl, b10⟩
    have FIN := Lib.hid (belowB H10.out b10)
    clear b10 HC10 H10
    go_wp2_with fail
    go_ret
    exact ⟨rfl, FIN.out⟩
  · have g0 : (er != 0) = true := by simp; exact h0
    obtain ⟨s1, k1, e1⟩ : ∃ a c, va = .slice a 0 c := by
      obtain ⟨a, c, e, _⟩ := H6.out.1
      rw [if_neg h0] at e
      exact ⟨_, _, e⟩
    obtain ⟨s2, k2, e2⟩ : ∃ a c, vb = .slice a 0 c := by
      obtain ⟨a, c, e, _⟩ := H6.out.2.1
      rw [if_neg h0] at e
      exact ⟨_, _, e⟩
    have FIN := Lib.hid H6.out.2.2.2
    subst e1 e2
    clear h0 H6
    go_wp2_with fail
    go_ret
    exact ⟨rfl, FIN.out⟩
end Go.Proofs.Ytomfmkddfgpmkaa
