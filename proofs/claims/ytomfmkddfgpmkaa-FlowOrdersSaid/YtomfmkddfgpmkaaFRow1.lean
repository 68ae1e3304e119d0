/-
  FlowOrders: the walk of its body.
-/
import Derived.Test.YtomfmkddfgpmkaaFAwk
namespace Go.Proofs.Ytomfmkddfgpmkaa
open Go Go.RowKit Fl

theorem GZc.below {w w' : World} {v : Value} {Z : List (List Int)} (h : GZc w v Z) (hb : Below w.heap.size w w') : GZc w' v Z := by
  obtain ⟨a, c, e, h⟩ := h
  refine ⟨a, c, e, fun j hj => ?_⟩
  obtain ⟨g, rv, h1, h2, h3, h4, h5⟩ := h j hj
  exact ⟨g, rv, h1, Nat.lt_of_lt_of_le h2 hb.size, cell_belowA hb h2 h3, h4.below hb, h5⟩
theorem tameF_ok (Z : List (List Int)) : TameZ (tameF Z) := by
  refine ⟨?_, fun i hi => ?_⟩
  · unfold tameF
    rw [List.length_map, List.length_take]
    omega
  · obtain ⟨l, _, e⟩ := List.mem_map.1 (show (tameF Z)[i] ∈ (Z.take 24).map (fun l => l.take 6) from List.getElem_mem hi)
    rw [← e, List.length_take]
    omega
theorem OwnG.size {base : Nat} {Z : List (List Int)} {v : Value} {W : World} (h : OwnG base Z v W) : ∃ a c, v = .slice a Z.length c := by
  obtain ⟨vs, _, h2, _⟩ := h
  rcases own_slice h2 with ⟨e, e2⟩ | ⟨g, c, e⟩
  · exact ⟨_, _, by rw [e, e2]⟩
  · exact ⟨_, _, e⟩
theorem order_small {T : List (List Int)} (h : TameZ T) (he : errF T = 0) : (orderL (natG T)).length ≤ 24 := by
  unfold orderL
  split
  · simp
  · rename_i h0
    obtain ⟨_, ⟨P, hP⟩, _, _⟩ := wlk_inv (natG_ok he) (Nat.pos_of_ne_zero h0)
    have := left_le hP
    rw [natG_len] at this
    rw [List.length_reverse]
    have := h.1
    omega
theorem into_small {T : List (List Int)} (h : TameZ T) : (intoZ (natG T) (natG T).length).length ≤ 9223372036854775806 ∧ ∀ i (hi : i < (intoZ (natG T) (natG T).length).length), (intoZ (natG T) (natG T).length)[i].length ≤ 9223372036854775806 := by
  have h24 : (natG T).length ≤ 24 := by rw [natG_len]; exact h.1
  refine ⟨by simp [intoZ]; omega, fun i hi => ?_⟩
  have e : (intoZ (natG T) (natG T).length)[i] = castL (rowSt (natG T) (natG T).length 0 i) := by simp [intoZ]
  rw [e]
  have := rowSt_len (natG T) (natG T).length 0 i
  simp only [castL, List.length_map]
  omega
/-- An order, of whatever graph of one's own. -/
theorem Order_own (v : Value) (Z : List (List Int)) (base : Nat) (ht : TameZ Z) (w : World) (h : OwnG base Z v w) :
    Calls Try.prog 11 #[v] w fun e w' => ∃ u, e = .returned (.tuple #[u, I (errF Z)]) ∧ Nums w' w.heap.size u (if errF Z = 0 then orderL (natG Z) else []) ∧ Below w.heap.size w w' := by
  by_cases hz : Z = []
  · subst hz
    obtain ⟨a, c, rfl⟩ := h.size
    refine (Order_nil a c w).mono ?_
    rintro e w' ⟨rfl, hb⟩
    exact ⟨_, rfl, World.ownsRow_nil _ _ _ _, hb⟩
  · obtain ⟨bg, c, rfl, hg⟩ := h.gz.grZ hz
    exact (Order_any bg c Z ht hz w hg).mono fun e w' h => h
theorem intoW_gz {base bl : Nat} {G : List (List Nat)} {W : World} (h : IntoW base bl G.length (fun t => Fl.rowSt G G.length 0 t) W) : GZ W (.slice (some ⟨bl, 0, none⟩) G.length G.length) (intoZ G G.length) := by
  obtain ⟨_, vs, h1, h2, h3, _, _⟩ := h
  refine ⟨some ⟨bl, 0, none⟩, G.length, by simp [intoZ], fun i hi => ?_⟩
  have hi1 : i < G.length := by simpa [intoZ] using hi
  have hi' : i < vs.length := by omega
  refine ⟨bl, vs[i], rfl, h2.lt, h2.get i _ (by simp [hi']), ?_⟩
  have e : (intoZ G G.length)[i] = castL (rowSt G G.length 0 i) := by simp [intoZ]
  rw [e]
  exact nums_rowZ (h3 i hi')
theorem Into_own (v : Value) (Z : List (List Int)) (base : Nat) (ht : TameZ Z) (w : World) (h : OwnG base Z v w) :
    Calls Try.prog 12 #[v] w fun e w' => ∃ u, e = .returned (.tuple #[u, I (errF Z)]) ∧ GZ w' u (if errF Z = 0 then intoZ (natG Z) (natG Z).length else []) ∧ Below w.heap.size w w' := by
  by_cases hz : Z = []
  · subst hz
    obtain ⟨a, c, rfl⟩ := h.size
    refine (Into_nil a c w).mono ?_
    rintro e w' ⟨bl, rfl, hb⟩
    exact ⟨_, rfl, gz_nil _ _ _, hb⟩
  · obtain ⟨bg, c, rfl, hg⟩ := h.gz.grZ hz
    refine (Into_any bg c Z ht w hg).mono ?_
    rintro e w' ⟨u, rfl, h1, h2, hb⟩
    refine ⟨u, rfl, ?_, hb⟩
    by_cases he : errF Z = 0
    · rw [if_pos he]
      obtain ⟨bl, rfl, hi⟩ := h1 he
      rw [← natG_len] at hi ⊢
      exact intoW_gz hi
    · rw [if_neg he, h2 he]
      exact gz_nil _ _ _

set_option maxRecDepth 100000 in
set_option maxHeartbeats 1600000 in
theorem flowOrders_any (v : Value) (Z : List (List Int)) (ht : Z.length ≤ 9223372036854775807 ∧ ∀ i (h : i < Z.length), Z[i].length ≤ 9223372036854775807) (w : World) (h : GZc w v Z) :
    Calls Try.prog 3 #[v] w fun e w' => e = .returned (.bool true) ∧ Below w.heap.size w w' := by
  obtain ⟨T, hT⟩ : ∃ T, T = tameF Z := ⟨_, rfl⟩
  have hTt : TameZ T := by rw [hT]; exact tameF_ok Z
  have HT := Lib.hid (And.intro hTt hT)
  obtain ⟨er, her⟩ : ∃ er, er = errF T := ⟨_, rfl⟩
  have HE := Lib.hid her
  have HH := Lib.hid (And.intro ht h)
  clear ht h hT hTt her
  go_enter Try.func3, Try.ntmps3
  go_wp2_with fail
  refine (awake_any w).mono ?_
  rintro e w1 ⟨rfl, b1⟩
  have HC := Lib.hid (tame_any v Z HH.out.1 w1 (HH.out.2.below b1))
  have H1 := Lib.hid b1
  clear b1
  go_wp2_with fail
  refine HC.out.mono ?_
  rintro e w2 ⟨u, rfl, o2, b2⟩
  rw [← HT.out.2] at o2
  have HC2 := Lib.hid (Twin_any u T ⟨by have := HT.out.1.1; omega, HT.out.1.2⟩ w2 o2.gz)
  have H2 := Lib.hid (And.intro o2 (belowB H1.out b2))
  clear o2 b2 HC H1
  go_wp2_with fail
  refine HC2.out.mono ?_
  rintro e w3 ⟨m, rfl, o3, b3⟩
  have HC3 := Lib.hid (Order_own m T _ HT.out.1 w3 o3)
  rw [← HE.out] at HC3
  have H3 := Lib.hid (And.intro o3 (And.intro (H2.out.1.below b3) (belowB H2.out.2 b3)))
  clear o3 b3 HC2 H2
  go_wp2_with fail
  refine HC3.out.mono ?_
  rintro e w4 ⟨va, rfl, n4, b4⟩
  have HC4 := Lib.hid (Into_own m T _ HT.out.1 w4 (H3.out.1.below b4))
  rw [← HE.out] at HC4
  have H4 := Lib.hid (And.intro n4 (And.intro (H3.out.1.below b4) (And.intro (H3.out.2.1.below b4) (belowB H3.out.2.2 b4))))
  clear n4 b4 HC3 H3
  go_wp2_with fail
  refine HC4.out.mono ?_
  rintro e w5 ⟨vb, rfl, n5, b5⟩
  have HC5 := Lib.hid (check_gz u T (by have := HT.out.1.1; omega) (fun i hi => by have := HT.out.1.2 i hi; omega) w5 (H4.out.2.2.1.below b5).gz)
  rw [← HE.out] at HC5
  have H5 := Lib.hid (And.intro (own_below H4.out.1 b5) (And.intro n5 (And.intro (H4.out.2.1.below b5) (And.intro (H4.out.2.2.1.below b5) (belowB H4.out.2.2.2 b5)))))
  clear n5 b5 HC4 H4
  go_wp2_with fail
  refine HC5.out.mono ?_
  rintro e w' ⟨rfl, rfl⟩
  have hne : (er != er) = false := by simp
  have HC6 := Lib.hid (SameLists_any m u T T (by have := HT.out.1.1; omega) (by have := HT.out.1.1; omega) (fun i hi => by have := HT.out.1.2 i hi; omega) (fun i hi => by have := HT.out.1.2 i hi; omega) w5 H5.out.2.2.1.gz H5.out.2.2.2.1.gz)
  rw [show decide (T = T) = true by simp] at HC6
  clear HC5
  go_wp2_with fail
  refine HC6.out.mono ?_
  rintro e w6 ⟨rfl, b6⟩
  have H6 := Lib.hid (And.intro (own_below H5.out.1 b6) (And.intro (H5.out.2.1.below b6) (And.intro (H5.out.2.2.2.1.below b6) (belowB H5.out.2.2.2.2 b6))))
  clear b6 HC6 H5
  by_cases h0 : er = 0
  · subst h0
    have h0 : errF T = 0 := HE.out.symm
    have hva : Nums w6 w3.heap.size va (orderL (natG T)) := by have := H6.out.1; rw [if_pos rfl] at this; exact this
    have hvb : GZ w6 vb (intoZ (natG T) (natG T).length) := by have := H6.out.2.1; rw [if_pos rfl] at this; exact this
    have hol : (castL (orderL (natG T))).length ≤ 9223372036854775806 := by
      have := order_small HT.out.1 h0
      simp only [castL, List.length_map]
      omega
    have HC7 := Lib.hid (refOrder_any u T _ HT.out.1 h0 w6 H6.out.2.2.1)
    have H7 := Lib.hid (And.intro hva (And.intro hvb (And.intro h0 hol)))
    clear h0 hva hvb hol
    go_wp2_with fail
    refine HC7.out.mono ?_
    rintro e w7 ⟨r, rfl, n7, b7⟩
    have HC8 := Lib.hid (Same_any va r _ _ H7.out.2.2.2 H7.out.2.2.2 w7 (nums_rowZ (own_below H7.out.1 b7)) (nums_rowZ n7))
    have H8 := Lib.hid (And.intro (H7.out.2.1.below b7) (And.intro (H6.out.2.2.1.below b7) (belowB H6.out.2.2.2 b7)))
    rw [show decide (castL (orderL (natG T)) = castL (orderL (natG T))) = true by simp] at HC8
    clear n7 b7 HC7
    go_wp2_with fail
    refine HC8.out.mono ?_
    rintro e w8 ⟨rfl, b8⟩
    have HC9 := Lib.hid (refInto_any u T _ HT.out.1 H7.out.2.2.1 w8 (H8.out.2.1.below b8))
    have H9 := Lib.hid (And.intro (H8.out.1.below b8) (belowB H8.out.2.2 b8))
    clear b8 HC8 H8
    go_wp2_with fail
    refine HC9.out.mono ?_
    rintro e w9 ⟨r2, rfl, o9, b9⟩
    have HC10 := Lib.hid (SameLists_any vb r2 _ _ (into_small HT.out.1).1 (into_small HT.out.1).1 (into_small HT.out.1).2 (into_small HT.out.1).2 w9 (H9.out.1.below b9) o9.gz)
    have H10 := Lib.hid (belowB H9.out.2 b9)
    rw [show decide (intoZ (natG T) (natG T).length = intoZ (natG T) (natG T).length) = true by simp] at HC10
    clear o9 b9 HC9 H9
    go_wp2_with fail
    refine HC10.out.mono ?_
    rintro e w10 ⟨rfl, b10⟩
    have FIN := Lib.hid (belowB H10.out b10)
    clear b10 HC10 H10
    go_wp2_with fail
    go_ret
    exact ⟨rfl, FIN.out⟩
  · have g0 : (er != 0) = true := by simp; exact h0
    obtain ⟨s1, k1, e1⟩ : ∃ a c, va = .slice a 0 c := by
      have h1 := H6.out.1
      rw [if_neg h0] at h1
      rcases own_slice h1 with ⟨e, _⟩ | ⟨g, c, e⟩
      · exact ⟨_, _, e⟩
      · exact ⟨_, _, e⟩
    obtain ⟨s2, k2, e2⟩ : ∃ a c, vb = .slice a 0 c := by
      have h1 := H6.out.2.1
      rw [if_neg h0] at h1
      obtain ⟨a, c, e, _⟩ := h1
      exact ⟨_, _, e⟩
    have FIN := Lib.hid H6.out.2.2.2
    subst e1 e2
    clear h0 H6
    go_wp2_with fail
    go_ret
    exact ⟨rfl, FIN.out⟩
end Go.Proofs.Ytomfmkddfgpmkaa
