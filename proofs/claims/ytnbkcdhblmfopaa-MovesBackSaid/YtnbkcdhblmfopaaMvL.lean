/-
  The document's examples of moves; and how many circles there are, walked.
-/
import Derived.Test.YtnbkcdhblmfopaaMvE
import Derived.Test.YtnbkcdhblmfopaaMvR
import Derived.Laws.StructEq
namespace Go.Proofs.Ytnbkcdhblmfopaa
open Go Go.RowKit Go.Maps Mv

def exL1 : List M := [(1, 2), (2, 1)]
def exL2 : List M := [(1, 2), (2, 3)]
theorem two_dis {a b c d : Int} (h : a ≠ c) : Dis [(a, b), (c, d)] := fun i j hi hj e => by
  have h1 : i = 0 ∨ i = 1 := by simp at hi; omega
  have h2 : j = 0 ∨ j = 1 := by simp at hj; omega
  rcases h1 with rfl | rfl <;> rcases h2 with rfl | rfl
  · rfl
  · exact absurd e h
  · exact absurd e.symm h
  · rfl
theorem two_bad {a b c d s : Int} (h : a ≠ c) (hs : a ≠ s ∧ b ≠ s ∧ c ≠ s ∧ d ≠ s) : ¬ Bad [(a, b), (c, d)] s true := by
  rintro (⟨i, hi, _, h1⟩ | h1)
  · have h2 : i = 0 ∨ i = 1 := by simp at hi; omega
    obtain ⟨s1, s2, s3, s4⟩ := hs
    rcases h2 with rfl | rfl
    · rcases h1 with e | e
      · exact s1 e
      · exact s2 e
    · rcases h1 with e | e
      · exact s3 e
      · exact s4 e
  · exact h1 (two_dis h)
theorem two_wf {a b c d : Int} (h : (Lit.int .i64 a).wf = true ∧ (Lit.int .i64 b).wf = true ∧ (Lit.int .i64 c).wf = true ∧ (Lit.int .i64 d).wf = true) : WfL [(a, b), (c, d)] := fun m hm => by
  rcases List.mem_cons.1 hm with rfl | hm
  · exact ⟨h.1, h.2.1⟩
  · rw [List.mem_singleton.1 hm]; exact ⟨h.2.2.1, h.2.2.2⟩
theorem ex1_count : ct exL1.length (counted exL1) = 1 := by decide
theorem ex2_count : ct exL2.length (counted exL2) = 0 := by decide
theorem ex1_len {out : List M} (h : OrdOK exL1 9 out) : out.length = 3 := by
  obtain ⟨css, h1, h2⟩ := h
  have h3 : ct exL1.length (counted exL1) = css.length := counted_len (two_dis (by decide)) h1
  rw [ex1_count] at h3
  have h4 := h2.ln
  rw [← h3] at h4
  rw [h4]
  decide
theorem ex2_out {out : List M} (h : OrdOK exL2 9 out) : ∃ y, out = [(1, 2), y] := by
  obtain ⟨css, h1, h2⟩ := h
  have h3 : ct exL2.length (counted exL2) = css.length := counted_len (two_dis (by decide)) h1
  rw [ex2_count] at h3
  have hc : css = [] := List.length_eq_zero_iff.1 h3.symm
  have h4 : out.length = 2 := by rw [h2.ln, ← h3]; decide
  have hm := h2.mo hc
  have e0 := h2.ed 0 (by decide)
  have e1 := h2.ed 1 (by decide)
  match out, h4 with
  | [x, y], _ =>
    have hx := hm x (by simp)
    have hy := hm y (by simp)
    have hx' : x = (1, 2) ∨ x = (2, 3) := by simpa [exL2] using hx
    have hy' : y = (1, 2) ∨ y = (2, 3) := by simpa [exL2] using hy
    rcases hx' with rfl | rfl
    · exact ⟨y, rfl⟩
    · exfalso
      rcases hy' with rfl | rfl
      · revert e0; decide
      · revert e0; decide
theorem lit_z {w : World} {bx : Nat} {l : List M} {n : Nat} (hn : n = l.length) {T : TypeId} {c : Nat} (h : w.heap[bx]? = some (.cells (cellsM l).toArray T (0, 0))) : MovZ w (.slice (some ⟨bx, 0, none⟩) n c) l := by
  subst hn
  refine ⟨_, c, rfl, fun i hi => ⟨⟨bx, 0, none⟩, encM l[i], rfl, (Array.getElem?_eq_some_iff.1 h).1, fun k v hk => ?_, rfl⟩⟩
  have hk2 : k < 2 := by have := (List.getElem?_eq_some_iff.1 hk).1; simpa [encM] using this
  rw [add_own, add_own2]
  unfold World.cell?
  rw [h]
  have h9 := flat_at (l.map encM) (k := 2) (fun c hc => by obtain ⟨x, _, rfl⟩ := List.mem_map.1 hc; rfl) i k hk2
  rw [List.getElem?_map, List.getElem?_eq_getElem hi] at h9
  show (if (none : Option Nat).isSome then _ else (cellsM l).toArray[i * 2 + k]?) = some v
  simp only [Option.isSome_none, Bool.false_eq_true, if_false, List.getElem?_toArray]
  unfold cellsM
  rw [h9]
  exact hk
def AwakeT (w : World) (W : World) (e : Ending) : Prop := e = .returned (.bool true) ∧ Below w.heap.size w W

set_option maxRecDepth 100000 in
set_option maxHeartbeats 1600000 in
theorem awake_any (w : World) : Calls Try.prog 7 #[] w fun e w' => AwakeT w w' e := by
  obtain ⟨b1, hb1⟩ : ∃ b, b = w.heap.size := ⟨_, rfl⟩
  obtain ⟨W1, hW1⟩ : ∃ W, W = w.alloc (.cells #[I 1, I 2, I 2, I 1] 32) := ⟨_, rfl⟩
  have hz1 : MovZ W1 (.slice (some ⟨b1, 0, none⟩) 2 2) exL1 := lit_z (w := W1) (l := exL1) (T := 32) rfl (by rw [hb1, hW1]; exact heap_alloc_new w _)
  have hB1 : Below w.heap.size w W1 := by rw [hW1]; exact (Below.refl _ _).alloc (Nat.le_refl _) _
  have HO1 := Lib.hid (order_any (.slice (some ⟨b1, 0, none⟩) 2 2) exL1 (by decide) (two_wf (by decide)) 9 W1 hz1)
  have H1 := Lib.hid (And.intro hB1 (And.intro hW1 hb1))
  clear hb1 hW1 hz1 hB1
  go_enter Try.func7, Try.ntmps7
  go_wp2_with fail
  rw [← H1.out.2.2, ← H1.out.2.1]
  refine HO1.out.mono ?_
  rintro e w2 ⟨v2, c2, rfl, hor, hb2⟩
  rcases hor with ⟨hbad, _⟩ | ⟨_, rfl, out, hol, ho2, hok⟩
  · exact absurd hbad (two_bad (by decide) (by decide))
  have hl3 := ex1_len hok
  obtain ⟨sa, sc, hsv⟩ := ho2.row
  rw [hl3] at hsv
  subst hsv
  have hB2 := below_tr H1.out.1 hb2
  obtain ⟨b3, hb3⟩ : ∃ b, b = w2.heap.size := ⟨_, rfl⟩
  obtain ⟨W3, hW3⟩ : ∃ W, W = w2.alloc (.cells #[I 1, I 2, I 2, I 3] 32) := ⟨_, rfl⟩
  have hz3 : MovZ W3 (.slice (some ⟨b3, 0, none⟩) 2 2) exL2 := lit_z (w := W3) (l := exL2) (T := 32) rfl (by rw [hb3, hW3]; exact heap_alloc_new w2 _)
  have hB3 : Below w.heap.size w W3 := by rw [hW3]; exact hB2.alloc hB2.size _
  have HO3 := Lib.hid (order_any (.slice (some ⟨b3, 0, none⟩) 2 2) exL2 (by decide) (two_wf (by decide)) 9 W3 hz3)
  have H3 := Lib.hid (And.intro hB3 (And.intro hW3 hb3))
  clear hb3 hW3 hz3 hB3 hb2 hol ho2 hok hl3 hB2
  go_wp2_with fail
  rw [← H3.out.2.2, ← H3.out.2.1]
  refine HO3.out.mono ?_
  rintro e w4 ⟨v4, c4, rfl, hor, hb4⟩
  rcases hor with ⟨hbad, _⟩ | ⟨_, rfl, out, hol, ho4, hok⟩
  · exact absurd hbad (two_bad (by decide) (by decide))
  obtain ⟨y, rfl⟩ := ex2_out hok
  have hB4 := below_tr H3.out.1 hb4
  obtain ⟨g4, k4, hsv⟩ : ∃ g k, v4 = .slice (some ⟨g, 0, none⟩) 2 k := by
    rcases own_slice ho4 with ⟨_, h⟩ | ⟨g, k, h⟩
    · cases h
    · exact ⟨g, k, h⟩
  subst hsv
  have c0 : w4.cell? ⟨g4, 0, none⟩ = some (I 1) := World.ownsRow.cellAt ho4 0 (by decide)
  have c1 : w4.cell? ⟨g4, 1, none⟩ = some (I 2) := World.ownsRow.cellAt ho4 1 (by decide)
  obtain ⟨b5, hb5⟩ : ∃ b, b = w4.heap.size := ⟨_, rfl⟩
  obtain ⟨W5, hW5⟩ : ∃ W, W = w4.alloc (.cells #[I 1, I 2, I 2, I 1] 32) := ⟨_, rfl⟩
  have hz5 : MovZ W5 (.slice (some ⟨b5, 0, none⟩) 2 2) exL1 := lit_z (w := W5) (l := exL1) (T := 32) rfl (by rw [hb5, hW5]; exact heap_alloc_new w4 _)
  have hB5 : Below w.heap.size w W5 := by rw [hW5]; exact hB4.alloc hB4.size _
  have HO5 := Lib.hid (progCircles_any (.slice (some ⟨b5, 0, none⟩) 2 2) exL1 (by decide) (two_wf (by decide)) W5 hz5)
  have H5 := Lib.hid (And.intro hB5 (And.intro hW5 hb5))
  have heq : ∀ W, (binOp .eql 32 (.agg #[I 1, I 2]) (.agg #[I 1, I 2])).run Try.prog W = .ok (.bool true) W := fun W => by kernel_rfl
  clear hb5 hW5 hz5 hB5 hb4 hol ho4 hok hB4
  go_wp2_with fail
  rw [← H5.out.2.2]
  change Calls _ _ _ (w4.alloc (.cells #[I 1, I 2, I 2, I 1] 32)) _
  rw [← H5.out.2.1]
  refine HO5.out.mono ?_
  rintro e w6 ⟨c6, rfl, hci, _, hb6⟩
  have hc6 : c6 = 1 := by
    obtain ⟨css, h1, h2⟩ := hci (two_dis (by decide))
    have h3 : ct exL1.length (counted exL1) = css.length := counted_len (two_dis (by decide)) h1
    rw [ex1_count] at h3
    omega
  subst hc6
  have FIN := Lib.hid (show AwakeT w w6 (.returned (.bool true)) from ⟨rfl, below_tr H5.out.1 hb6⟩)
  clear hci hb6 c0 c1 heq
  go_wp2_with fail
  go_ret
  exact FIN.out

theorem take_mem {l : List M} {k : Nat} (h : WfL l) : WfL (l.take k) := fun m hm => h m (List.mem_of_mem_take hm)
theorem take_z {W : World} {b : Option Addr} {n c : Nat} {l : List M} (h : MovZ W (.slice b n c) l) (k : Nat) (hk : k ≤ l.length) : MovZ W (.slice b k c) (l.take k) := by
  have hl : (l.take k).length = k := by rw [List.length_take]; omega
  refine ⟨b, c, by rw [hl], fun i hi => ?_⟩
  obtain ⟨b', vs, h1, h2, h3, h4⟩ := h.at i (by omega)
  exact ⟨b', vs, h1, h2, h3, by rw [List.getElem_take]; exact h4⟩
def LawT (w : World) (W : World) (e : Ending) : Prop := e = .returned (.bool true) ∧ Below w.heap.size w W

theorem list_own {W : World} {base g c : Nat} {l : List M} (h : W.ownsRow base 32 2 (.slice (some ⟨g, 0, none⟩) (l.length + 1) c) (l.length + 1) (cellsM (l ++ [(77, 77)]))) : MovO W base 32 (.slice (some ⟨g, 0, none⟩) l.length c) l := by
  rw [cellsM_app] at h
  exact ownsRow_pop (cellsM_len l) h

set_option maxRecDepth 100000 in
set_option maxHeartbeats 1600000 in
theorem movesCircles_body (a : Option Addr) (n c : Nat) (l : List M) (hn : n = l.length) (hnc : n ≤ c) (hwf : WfL l) (w : World) (h : MovZ w (.slice a n c) l) :
    Calls Try.prog 4 #[.slice a n c] w fun e w' => LawT w w' e := by
  have HAW := Lib.hid (awake_any w)
  by_cases h60 : n ≤ 60
  · obtain ⟨l', hl'⟩ : ∃ l' : List M, l' = l := ⟨_, rfl⟩
    rw [← hl'] at h hn hwf
    have HH := Lib.hid (And.intro h (And.intro hn.symm hwf))
    have e0 : (n : Int) ≤ 60 := by omega
    have e1 : (n : Int) ≤ (c : Int) := by omega
    have e2 : (0 : Int) ≤ (n : Int) := by omega
    clear h hn hwf hl'
    go_enter Try.func4, Try.ntmps4
    go_wp2_with fail
    refine HAW.out.mono ?_
    rintro e w1 ⟨rfl, hb1⟩
    have hz1 := HH.out.1.below movV_stays hb1
    have HL := Lib.hid (list_any (.slice a n c) l' (by rw [HH.out.2.1]; omega) w1 hz1)
    have H1 := Lib.hid (And.intro hb1 hz1)
    clear hb1 hz1
    go_wp2_with fail
    refine HL.out.mono ?_
    rintro e w2 ⟨g, cg, rfl, hcg, hown, hb2⟩
    have hmo := list_own hown
    have HP := Lib.hid (progCircles_any _ l' (by rw [HH.out.2.1]; omega) HH.out.2.2 w2 hmo.z)
    have H2 := Lib.hid (And.intro (below_tr H1.out.1 hb2) (H1.out.2.below movV_stays hb2))
    rw [HH.out.2.1] at HP ⊢
    clear hcg hown hb2 hmo
    go_wp2_with fail
    refine HP.out.mono ?_
    rintro e w3 ⟨c3, rfl, hc3, hn3, hb3⟩
    have HR := Lib.hid (refCircles_any a c l' (by rw [HH.out.2.1]; omega) (by rw [HH.out.2.1]; omega) w3 (by rw [HH.out.2.1]; exact H2.out.2.below movV_stays hb3))
    have H3 := Lib.hid (And.intro hc3 (And.intro hn3 (below_tr H2.out.1 hb3)))
    rw [HH.out.2.1] at HR
    clear hc3 hn3 hb3
    go_wp2_with fail
    refine HR.out.mono ?_
    rintro e w4 ⟨c4, rfl, hc4, hn4, hb4⟩
    have hcc : c3 = c4 := by
      by_cases hd : Dis l'
      · obtain ⟨css, h1, h2⟩ := H3.out.1 hd
        rw [h2, hc4 hd, counted_len hd h1]
      · rw [H3.out.2.1 hd, hn4 hd]
    have FIN := Lib.hid (show LawT w w4 (.returned (.bool true)) from ⟨rfl, below_tr H3.out.2.2 hb4⟩)
    subst hcc
    clear hc4 hn4 hb4
    go_wp2_with fail
    go_ret
    exact FIN.out
  · obtain ⟨l', hl'⟩ : ∃ l' : List M, l' = l.take 60 := ⟨_, rfl⟩
    have hz := take_z h 60 (by omega)
    have hlk : (l.take 60).length = 60 := by rw [List.length_take]; omega
    have hwf' : WfL l' := by rw [hl']; exact take_mem hwf
    rw [← hl'] at hz hlk
    have HH := Lib.hid (And.intro hz (And.intro hlk hwf'))
    have e0 : (60 : Int) < (n : Int) := by omega
    have e1 : (60 : Int) ≤ (c : Int) := by omega
    clear h hn hwf hl' hz hlk hwf'
    go_enter Try.func4, Try.ntmps4
    go_wp2_with fail
    refine HAW.out.mono ?_
    rintro e w1 ⟨rfl, hb1⟩
    have hz1 := HH.out.1.below movV_stays hb1
    have HL := Lib.hid (list_any (.slice a 60 c) l' (by rw [HH.out.2.1]; omega) w1 hz1)
    have H1 := Lib.hid (And.intro hb1 hz1)
    clear hb1 hz1
    go_wp2_with fail
    refine HL.out.mono ?_
    rintro e w2 ⟨g, cg, rfl, hcg, hown, hb2⟩
    have hmo := list_own hown
    have HP := Lib.hid (progCircles_any _ l' (by rw [HH.out.2.1]; omega) HH.out.2.2 w2 hmo.z)
    have H2 := Lib.hid (And.intro (below_tr H1.out.1 hb2) (H1.out.2.below movV_stays hb2))
    rw [HH.out.2.1] at HP ⊢
    clear hcg hown hb2 hmo
    go_wp2_with fail
    refine HP.out.mono ?_
    rintro e w3 ⟨c3, rfl, hc3, hn3, hb3⟩
    have HR := Lib.hid (refCircles_any a c l' (by rw [HH.out.2.1]; omega) (by rw [HH.out.2.1]; omega) w3 (by rw [HH.out.2.1]; exact H2.out.2.below movV_stays hb3))
    have H3 := Lib.hid (And.intro hc3 (And.intro hn3 (below_tr H2.out.1 hb3)))
    rw [HH.out.2.1] at HR
    clear hc3 hn3 hb3
    go_wp2_with fail
    refine HR.out.mono ?_
    rintro e w4 ⟨c4, rfl, hc4, hn4, hb4⟩
    have hcc : c3 = c4 := by
      by_cases hd : Dis l'
      · obtain ⟨css, h1, h2⟩ := H3.out.1 hd
        rw [h2, hc4 hd, counted_len hd h1]
      · rw [H3.out.2.1 hd, hn4 hd]
    have FIN := Lib.hid (show LawT w w4 (.returned (.bool true)) from ⟨rfl, below_tr H3.out.2.2 hb4⟩)
    subst hcc
    clear hc4 hn4 hb4
    go_wp2_with fail
    go_ret
    exact FIN.out
end Go.Proofs.Ytnbkcdhblmfopaa
