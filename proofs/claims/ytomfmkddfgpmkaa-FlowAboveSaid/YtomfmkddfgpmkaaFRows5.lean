/-
  Joined: FRchP, FRow5.
-/
import Derived.Test.YtomfmkddfgpmkaaFNils
/-! What FlowReached speaks of, plainly: places in the order, ways round, and that there are no loops without them. -/

namespace Go.Proofs.Ytomfmkddfgpmkaa
open Go Go.RowKit Fl

namespace Fl
/-- The places of the first i of an order. -/
def plF (l : List Nat) (N i : Nat) : List Int := (List.range N).map (fun n => if n ∈ l.take i then ((l.idxOf n : Nat) : Int) + 1 else 0)
theorem plF_len (l : List Nat) (N i : Nat) : (plF l N i).length = N := by simp [plF]
theorem plF_at (l : List Nat) {N i n : Nat} (h : n < N) : (plF l N i).getD n 0 = if n ∈ l.take i then ((l.idxOf n : Nat) : Int) + 1 else 0 := by
  rw [getD_of _ _ _ (by rw [plF_len]; exact h)]
  simp [plF]
theorem plF_zero (l : List Nat) (N : Nat) : plF l N 0 = List.replicate N 0 := by
  apply List.ext_getElem
  · simp [plF]
  · intro i h1 h2
    simp [plF]
theorem plF_next {l : List Nat} (hn : l.Nodup) {N i : Nat} (h : i < l.length) : (plF l N i).set l[i] ((i : Int) + 1) = plF l N (i + 1) := by
  have hidx : l.idxOf l[i] = i := List.Nodup.idxOf_getElem hn i h
  apply List.ext_getElem
  · simp [plF]
  · intro q h1 h2
    have hq : q < N := by rw [plF_len] at h2; exact h2
    rw [List.getElem_set]
    have e2 : (plF l N (i + 1))[q] = if q ∈ l.take (i + 1) then ((l.idxOf q : Nat) : Int) + 1 else 0 := by simp [plF]
    have e1 : (plF l N i)[q]'(by rw [plF_len]; exact hq) = if q ∈ l.take i then ((l.idxOf q : Nat) : Int) + 1 else 0 := by simp [plF]
    rw [e2, List.take_add_one, List.getElem?_eq_getElem h]
    by_cases e : l[i] = q
    · rw [if_pos e, if_pos (by simp [e]), ← e, hidx]
    · rw [if_neg e, e1]
      have : q ∈ l.take i ++ (some l[i]).toList ↔ q ∈ l.take i := by
        simp only [Option.toList_some, List.mem_append, List.mem_singleton]
        exact ⟨fun h => h.resolve_right (fun h => e h.symm), Or.inl⟩
      by_cases h3 : q ∈ l.take i
      · rw [if_pos h3, if_pos (this.2 h3)]
      · rw [if_neg h3, if_neg (fun h => h3 (this.1 h))]
theorem nodup_new {l : List Nat} (hn : l.Nodup) {i : Nat} (h : i < l.length) : l[i] ∉ l.take i := by
  intro hm
  obtain ⟨j, hj, e⟩ := List.getElem_of_mem hm
  rw [List.getElem_take] at e
  have hj' : j < i := by rw [List.length_take] at hj; omega
  have h1 := List.Nodup.idxOf_getElem hn j (by omega)
  have h2 := List.Nodup.idxOf_getElem hn i h
  rw [e, h2] at h1
  omega

/-- A way round. -/
def Rnd (G : List (List Nat)) (n b : Nat) : Prop := Rch G n ∧ b ∈ row G n ∧ Av (EG G) (fun _ => True) b n
theorem av_all {G : List (List Nat)} {a b : Nat} : Av (EG G) (okN (-1)) a b ↔ Av (EG G) (fun _ => True) a b := by
  constructor
  · intro h
    exact h.mono fun _ _ => trivial
  · intro h
    exact h.mono fun x _ => by unfold okN; omega
theorem no_loops {G : List (List Nat)} (hG : GOk G) (hno : ∀ n b, ¬ Rnd G n b) : lpsL G = [] := by
  unfold lpsL
  split
  · rfl
  · rename_i h0
    obtain ⟨_, ⟨P, hP⟩, hok, hc⟩ := wlk_inv hG (Nat.pos_of_ne_zero h0)
    have hab : AboveOk G (abvL G) := by unfold abvL; rw [if_neg h0]; exact hP.above hok hc
    have hor : orderL G = (wlk G).left.reverse := by unfold orderL; rw [if_neg h0]
    have hord : OrdOk G.length (abF (abvL G)) (orderL G) := by rw [hor]; exact ord_ok hP hok hc hab
    obtain ⟨f1, f2, f3⟩ := forest_over hord
    unfold loopL
    rw [List.filterMap_eq_nil_iff]
    intro h hh
    have hhl : h < G.length := List.mem_range.1 hh
    unfold loopAt
    rw [if_pos]
    unfold endsF
    rw [List.filter_eq_nil_iff]
    intro n hn hov
    rw [intoF_row G hhl] at hn
    obtain ⟨hnl, hne⟩ := mem_rowSt.1 hn
    have h4 := (f3 h n hhl hnl).1 (by
      unfold overB at hov
      have h5 := of_decide_eq_true hov
      have e1 : ∀ x, x < G.length → (forP (abF (abvL G)) G.length (orderL G)).getD x 0 = (forP (abF (abvL G)) G.length (orderL G)).getD x (-1) := fun x hx => by
        rw [getD_of _ _ _ (by rw [f1]; exact hx), getD_of _ _ _ (by rw [f1]; exact hx)]
      rw [e1 h hhl, e1 n hnl] at h5
      exact h5)
    obtain ⟨ho1, ho2, hup⟩ := h4
    rw [hor] at ho2
    have hr : Rch G n := (left_all hP hc n).1 (List.mem_reverse.1 ho2)
    have hd := (up_dom hP hok hc hab n hr h).1 hup
    exact hno n h ⟨hr, hne, dom_path hd⟩
theorem order_mem {G : List (List Nat)} (hG : GOk G) (h0 : G.length ≠ 0) : (orderL G).Nodup ∧ (∀ x, x ∈ orderL G ↔ Rch G x) ∧ (∀ x ∈ orderL G, x < G.length) := by
  obtain ⟨_, ⟨P, hP⟩, hok, hc⟩ := wlk_inv hG (Nat.pos_of_ne_zero h0)
  have hor : orderL G = (wlk G).left.reverse := by unfold orderL; rw [if_neg h0]
  rw [hor]
  exact ⟨List.nodup_reverse' hP.ld, fun x => by rw [List.mem_reverse]; exact left_all hP hc x, fun x hx => hP.lo x (hP.ls x (List.mem_reverse.1 hx)).1⟩
theorem order_lt {G : List (List Nat)} (hG : GOk G) (h0 : G.length ≠ 0) {x y : Nat} (hx : Rch G x) (he : y ∈ row G x) (hno : ¬ Rnd G x y) : (orderL G).idxOf x < (orderL G).idxOf y := by
  obtain ⟨_, ⟨P, hP⟩, hok, hc⟩ := wlk_inv hG (Nat.pos_of_ne_zero h0)
  have hor : orderL G = (wlk G).left.reverse := by unfold orderL; rw [if_neg h0]
  have hnd := (order_mem hG h0).1
  rcases order_on hP hc hx he with ⟨A, B, C, e⟩ | h
  · rw [← hor] at e
    rw [e] at hnd ⊢
    have hxA : x ∉ A := fun h => (List.nodup_append.1 hnd).2.2 x h x (by simp) rfl
    have hyA : y ∉ A := fun h => (List.nodup_append.1 hnd).2.2 y h y (by simp) rfl
    have hxy : y ≠ x := fun e2 => by
      have := (List.nodup_cons.1 (List.nodup_append.1 hnd).2.1).1
      exact this (by rw [← e2]; simp)
    rw [List.idxOf_append, List.idxOf_append, if_neg hxA, if_neg hyA, List.idxOf_cons_self, List.idxOf_cons, show (x == y) = false by simp; exact fun e => hxy e.symm]
    simp only [cond_false]
    omega
  · exact absurd ⟨hx, he, h⟩ hno
end Fl
end Go.Proofs.Ytomfmkddfgpmkaa

/-! FlowReached: the walk of its body. -/

namespace Go.Proofs.Ytomfmkddfgpmkaa
open Go Go.RowKit Fl

theorem mkBz (n : Nat) : Blk n #[] 4 = Blk n (arrB []) 4 := rfl
set_option maxRecDepth 100000 in
theorem Reach_nil (a : Option Addr) (c : Nat) (w : World) :
    Calls Try.prog 25 #[.slice a 0 c, I 0, I (-1)] w fun e w' => ∃ b, e = .returned (.slice (some ⟨b, 0, none⟩) 0 0) ∧ Blk b #[] 4 w' ∧ Below w.heap.size w w' := by
  have hmk : ∀ u : World, (Instr.makeSlice 46 (.int .i64 0) (.int .i64 0)).run Try.prog u = .ok (.slice (some ⟨u.heap.size, 0, none⟩) 0 0) (u.alloc (.cells #[] 4)) := fun u => mkBn 0 (by omega) u
  have FIN := Lib.hid (show Blk w.heap.size #[] 4 (w.alloc (.cells #[] 4)) ∧ Below w.heap.size w (w.alloc (.cells #[] 4)) from ⟨Blk.new _ _ _, (Below.refl _ _).alloc (Nat.le_refl _) _⟩)
  go_enter Try.func25, Try.ntmps25
  go_wp2_with fail
  go_ret
  exact ⟨_, rfl, FIN.out.1, FIN.out.2⟩

/-- What is reached, of whatever graph of one's own. -/
def ReachU (w : World) (N fr : Nat) (G : List (List Nat)) (but : Int) (W : World) (e : Ending) : Prop :=
  ∃ b bs, e = .returned (.slice (some ⟨b, 0, none⟩) N N) ∧ Blk b (arrB bs) 4 W ∧ bs.length = N ∧ (∀ x, x < N → (bs.getD x false = true ↔ Av (EG G) (okN but) fr x)) ∧ Below w.heap.size w W
theorem Reach_own (a : Option Addr) (c N fr : Nat) (but : Int) (Z : List (List Int)) (base : Nat) (ht : TameZ Z) (he : errF Z = 0) (hN : N = Z.length) (hfr : fr < N ∨ (fr = 0 ∧ but = -1)) (w : World) (h : OwnG base Z (.slice a N c) w) :
    Calls Try.prog 25 #[.slice a N c, I (fr : Int), I but] w fun e w' => ReachU w N fr (natG Z) but w' e := by
  by_cases hz : Z = []
  · subst hz
    obtain rfl : N = 0 := hN
    obtain ⟨rfl, rfl⟩ := hfr.resolve_left (by omega)
    refine (Reach_nil a c w).mono ?_
    rintro e w' ⟨b, rfl, hk, hb⟩
    exact ⟨b, [], rfl, hk, rfl, fun x hx => absurd hx (by omega), hb⟩
  · obtain ⟨bg, c', e, hg⟩ := grB_own h he hz
    have hn0 : 0 < Z.length := List.length_pos_iff.2 hz
    have hf : fr < N := by rcases hfr with h | ⟨h, _⟩ <;> omega
    rw [e, ← hN]
    refine (Reach_any bg c' N fr but (natG Z) (natG_ok he) (by rw [natG_len, hN]) (by have := ht.1; omega) ht.row hf w hg).mono ?_
    rintro e w' ⟨b, bs, rfl, h1, h2, h3, _, h4⟩
    exact ⟨b, bs, rfl, h1, h2, fun x _ => h3 x, h4⟩
/-- A graph of right numbers, in memory. -/
def GN (w : World) (a : Option Addr) (G : List (List Nat)) : Prop := ∀ i, i < G.length → ∃ bg ra rc, a = some ⟨bg, 0, none⟩ ∧ w.cell? ⟨bg, i, none⟩ = some (.slice ra (row G i).length rc) ∧ ∀ j (h : j < (row G i).length), ∃ g, ra = some ⟨g, 0, none⟩ ∧ w.cell? ⟨g, j, none⟩ = some (I (((row G i)[j] : Nat) : Int))
theorem gn_own {base : Nat} {Z : List (List Int)} {a : Option Addr} {N c : Nat} {W : World} (h : OwnG base Z (.slice a N c) W) (he : errF Z = 0) : GN W a (natG Z) := by
  intro i hi
  have hz : Z ≠ [] := by
    intro e
    rw [e] at hi
    simp [natG] at hi
  obtain ⟨bg, c', e, hg⟩ := grB_own h he hz
  cases e
  obtain ⟨rv, h1, h2⟩ := hg.row i hi
  rcases h2 with ⟨e1, e2⟩ | ⟨g, c2, e1, _, h3⟩
  · rw [e1] at h1
    exact ⟨bg, none, 0, rfl, by rw [h1, e2]; rfl, fun j hj => absurd hj (by rw [e2]; simp)⟩
  · rw [e1] at h1
    exact ⟨bg, some ⟨g, 0, none⟩, c2, rfl, h1, fun j hj => ⟨g, rfl, h3 j hj⟩⟩

/-- Places so far. -/
def P1 (w : World) (bp N : Nat) (l : List Nat) (iv : Value) (W : World) : Prop := ∃ i : Nat, i ≤ l.length ∧ iv = I (i : Int) ∧ Blk bp (arrZ (plF l N i)) 3 W ∧ Below w.heap.size w W

def Q2 (w : World) (G : List (List Nat)) (n : Nat) (mv pv : Value) (W : World) : Prop :=
  ∃ (p : Nat) (m : Bool), p ≤ n ∧ pv = I (p : Int) ∧ mv = .bool m ∧ (m = false → ∀ x, x < p → ∀ b, ¬ Rnd G x b) ∧ Below w.heap.size w W
def Q3 (w : World) (G : List (List Nat)) (p : Nat) (mv jv : Value) (W : World) : Prop :=
  ∃ (j : Nat) (m : Bool), j ≤ (row G p).length ∧ jv = I (j : Int) ∧ mv = .bool m ∧ (m = false → (∀ x, x < p → ∀ b, ¬ Rnd G x b) ∧ ∀ b ∈ (row G p).take j, ¬ Rnd G p b) ∧ Below w.heap.size w W
def Q4 (w : World) (n : Nat) (pv : Value) (W : World) : Prop := ∃ p : Nat, p ≤ n ∧ pv = I (p : Int) ∧ Below w.heap.size w W
theorem GN.below {w w' : World} {a : Option Addr} {G : List (List Nat)} (h : GN w a G) (hb : Below w.heap.size w w') : GN w' a G := by
  intro i hi
  obtain ⟨bg, ra, rc, h1, h2, h3⟩ := h i hi
  refine ⟨bg, ra, rc, h1, cell_below hb (block_lt_of_cell h2) h2, fun j hj => ?_⟩
  obtain ⟨g, h4, h5⟩ := h3 j hj
  exact ⟨g, h4, cell_below hb (block_lt_of_cell h5) h5⟩

set_option maxRecDepth 100000 in
set_option maxHeartbeats 3200000 in
theorem flowReached_any (v : Value) (Z : List (List Int)) (ht : Z.length ≤ 9223372036854775807 ∧ ∀ i (h : i < Z.length), Z[i].length ≤ 9223372036854775807) (w : World) (h : GZc w v Z) :
    Calls Try.prog 7 #[v] w fun e w' => e = .returned (.bool true) ∧ Below w.heap.size w w' := by
  obtain ⟨T, hT⟩ : ∃ T, T = tameF Z := ⟨_, rfl⟩
  have hTt : TameZ T := by rw [hT]; exact tameF_ok Z
  have HT := Lib.hid (And.intro hTt hT)
  obtain ⟨er, her⟩ : ∃ er, er = errF T := ⟨_, rfl⟩
  have HE := Lib.hid her
  have HH := Lib.hid (And.intro ht h)
  clear ht h hT hTt her
  go_enter Try.func7, Try.ntmps7
  go_wp2_with fail
  refine (awake_any w).mono ?_
  rintro e w1 ⟨rfl, b1⟩
  have HC := Lib.hid (tame_any v Z HH.out.1 w1 (HH.out.2.below b1))
  have H1 := Lib.hid b1
  clear b1
  go_wp2_with fail
  refine HC.out.mono ?_
  rintro e w2 ⟨u, rfl, o2, b2⟩
  rw [← HT.out.2] at o2
  obtain ⟨ua, uc, hu⟩ := o2.size
  obtain ⟨n, hn⟩ : ∃ n, n = T.length := ⟨_, rfl⟩
  rw [← hn] at hu
  subst hu
  have HN := Lib.hid (And.intro hn (show n ≤ 24 by rw [hn]; exact HT.out.1.1))
  have HC2 := Lib.hid (Twin_any (.slice ua n uc) T ⟨by have := HT.out.1.1; omega, HT.out.1.2⟩ w2 o2.gz)
  have H2 := Lib.hid (And.intro o2 (belowB H1.out b2))
  clear o2 b2 HC H1 hn
  go_wp2_with fail
  refine HC2.out.mono ?_
  rintro e w3 ⟨m, rfl, o3, b3⟩
  have HC3 := Lib.hid (Order_own m T _ HT.out.1 w3 o3)
  rw [← HE.out] at HC3
  have H3 := Lib.hid (And.intro (H2.out.1.below b3) (belowB H2.out.2 b3))
  clear o3 b3 HC2 H2
  go_wp2_with fail
  refine HC3.out.mono ?_
  rintro e w4 ⟨va, rfl, n4, b4⟩
  have H4 := Lib.hid (And.intro n4 (And.intro (H3.out.1.below b4) (belowB H3.out.2 b4)))
  clear n4 b4 HC3 H3
  by_cases h0 : er = 0
  · subst h0
    have h0 : errF T = 0 := HE.out.symm
    obtain ⟨G, hGd⟩ : ∃ G, G = natG T := ⟨_, rfl⟩
    have hGl : G.length = n := by rw [hGd, natG_len, HN.out.1]
    have hGO : GOk G := by rw [hGd]; exact natG_ok h0
    obtain ⟨l, hl⟩ : ∃ l, l = orderL G := ⟨_, rfl⟩
    have hva : Nums w4 w3.heap.size va l := by have := H4.out.1; rw [if_pos rfl, ← hGd, ← hl] at this; exact this
    have hll : l.length ≤ 24 := by rw [hl, hGd]; exact order_small HT.out.1 h0
    have hlm : l.Nodup ∧ (∀ x ∈ l, x < n) ∧ (∀ x, x < n → (x ∈ l ↔ Rch G x)) := by
      by_cases hn0 : G.length = 0
      · have : l = [] := by rw [hl]; unfold orderL; rw [if_pos hn0]
        rw [this]
        exact ⟨List.nodup_nil, by simp, fun x hx => by omega⟩
      · have h1 := order_mem hGO hn0
        rw [hl]
        exact ⟨h1.1, fun x hx => by rw [← hGl]; exact h1.2.2 x hx, fun x _ => h1.2.1 x⟩
    obtain ⟨k, hk⟩ : ∃ k, k = l.length := ⟨_, rfl⟩
    obtain ⟨sa, sc, hvs⟩ : ∃ a c, va = .slice a k c := by
      rcases own_slice hva with ⟨e, e2⟩ | ⟨g, c, e⟩
      · exact ⟨_, _, by rw [e, hk, e2]⟩
      · exact ⟨_, _, by rw [e, hk]⟩
    have hrow := nums_rowZ hva
    subst hvs
    obtain ⟨W5, hW5⟩ : ∃ W, W = w4.alloc (.cells (arrZ (List.replicate n 0)) 3) := ⟨_, rfl⟩
    obtain ⟨bp, hbp⟩ : ∃ b, b = w4.heap.size := ⟨_, rfl⟩
    have hb5 : Below w4.heap.size w4 W5 := by rw [hW5]; exact (Below.refl _ _).alloc (Nat.le_refl _) _
    have hk5 : Blk bp (arrZ (plF l n 0)) 3 W5 := by rw [plF_zero, hbp, hW5]; exact Blk.new _ _ _
    have hmk := mkIn n (by have := HN.out.2; omega) w4
    have HST := Lib.hid (show P1 w4 bp n l (I 0) W5 from ⟨0, Nat.zero_le _, rfl, hk5, hb5⟩)
    have HL := Lib.hid (And.intro h0 (And.intro hGd (And.intro hGl (And.intro hGO (And.intro hl (And.intro hll (And.intro hlm (And.intro hk (And.intro hrow (Nat.le_of_eq hbp.symm))))))))))
    have HW5 := Lib.hid (And.intro hW5 hbp)
    clear h0 hGd hGl hGO hl hva hll hlm hk hrow hW5 hbp hb5 hk5
    go_upto_region 8 with (fail)
    rw [← HW5.out.2]
    change Code.wp _ _ _ _ (w4.alloc (.cells (arrZ (List.replicate n 0)) 3))
    rw [← HW5.out.1]
    clear hmk
    go_wp2_with fail
    go_loopw [40] (fun iv W => P1 w4 bp n l iv W) (fun iv _ => k - (intOf iv).toNat)
    case atStart => exact HST.out
    case round =>
      obtain ⟨i, hi, rfl, hkb, hbe⟩ := hrel
      by_cases hik : i < k
      · have hil : i < l.length := by rw [← HL.out.2.2.2.2.2.2.2.1]; exact hik
        obtain ⟨a', c', e', hcs⟩ := HL.out.2.2.2.2.2.2.2.2.1
        have hic : i < (l.map fun n : Nat => (n : Int)).length := by rw [List.length_map]; exact hil
        obtain ⟨g, hg1, hg2, hg3⟩ := hcs i hic
        have hsa : sa = some ⟨g, 0, none⟩ := by injection e' with e1; rw [e1, hg1]
        subst hsa
        obtain ⟨x, hx⟩ : ∃ x, x = l[i] := ⟨_, rfl⟩
        have c1 : wr.cell? ⟨g, i, none⟩ = some (I (x : Int)) := by
          have h1 := cell_below hbe hg2 hg3
          rw [List.getElem_map] at h1
          rw [hx]
          exact h1
        have hxn : x < n := by rw [hx]; exact HL.out.2.2.2.2.2.2.1.2.1 _ (List.getElem_mem hil)
        have y0 := hkb.get x (I 0) (by rw [arrZ_getD _ x 0 (by rw [plF_len]; exact hxn), plF_at l hxn, if_neg (by rw [hx]; exact nodup_new HL.out.2.2.2.2.2.2.1.1 hil)])
        have y1 := hkb.free x
        have HN2 := Lib.hid (show P1 w4 bp n l (I ((i : Int) + 1)) (wr.setCell ⟨bp, x, none⟩ (I ((i : Int) + 1))) from ⟨i + 1, hil, rfl, by
          have h1 := hkb.set x (I ((i : Int) + 1))
          rw [arrZ_set, hx, plF_next HL.out.2.2.2.2.2.2.1.1 hil] at h1
          rw [hx]; exact h1, hbe.setCell (p := ⟨bp, x, none⟩) HL.out.2.2.2.2.2.2.2.2.2 _⟩)
        have d0 : decide (i < k) = true := by simpa using hik
        have d1 : (0 : Int) ≤ (i : Int) := by omega
        have d2 : (i : Int) < (k : Int) := by omega
        have d3 : (0 : Int) ≤ (x : Int) := by omega
        have d4 : (x : Int) < (n : Int) := by omega
        have d5 : (i : Int) ≤ 24 := by have := HL.out.2.2.2.2.2.1; omega
        have HX := Lib.hid hik
        clear hil hcs e' hic hg1 hg2 hg3 hx hxn hkb hbe hik hi HST
        go_wp2_with fail
        exact ⟨HN2.out, by have := HX.out; simp [intOf]; omega⟩
      · have d0 : decide (i < k) = false := by simpa using hik
        have hpl : plF l n i = plF l n k := by
          unfold plF
          rw [List.take_of_length_le (by rw [← HL.out.2.2.2.2.2.2.2.1]; omega), List.take_of_length_le (by rw [← HL.out.2.2.2.2.2.2.2.1]; omega)]
        rw [hpl] at hkb
        have o6 := H4.out.2.1.below hbe
        have HC6 := Lib.hid (Twin_any (.slice ua n uc) T ⟨by have := HT.out.1.1; omega, HT.out.1.2⟩ wr o6.gz)
        have H6 := Lib.hid (And.intro o6 (And.intro hkb (belowB H4.out.2.2 hbe)))
        clear hpl hkb o6 hbe hik hi HST HW5 H4
        go_wp2_with fail
        refine HC6.out.mono ?_
        rintro e w7 ⟨m2, rfl, o7, b7⟩
        have HC7 := Lib.hid (Loops_own m2 T _ HT.out.1 w7 o7)
        rw [HL.out.1] at HC7
        have H7 := Lib.hid (And.intro (H6.out.1.below b7) (And.intro (H6.out.2.1.below b7 H6.out.2.1.lt) (belowB H6.out.2.2 b7)))
        clear o7 b7 HC6 H6
        go_wp2_with fail
        refine HC7.out.mono ?_
        rintro e w8 ⟨lv, rfl, l8, b8⟩
        rw [if_pos trivial, ← HL.out.2.1] at l8
        have HC8 := Lib.hid (Reach_own ua uc n 0 (-1) T _ HT.out.1 HL.out.1 HN.out.1 (Or.inr ⟨rfl, rfl⟩) w8 (H7.out.1.below b8))
        rw [← HL.out.2.1] at HC8
        have H8 := Lib.hid (And.intro l8 (And.intro (H7.out.1.below b8) (And.intro (H7.out.2.1.below b8 H7.out.2.1.lt) (belowB H7.out.2.2 b8))))
        clear l8 b8 HC7 H7
        go_wp2_with fail
        refine HC8.out.mono ?_
        rintro e w9 ⟨ba, bs, rfl, ka, bl, hr, b9⟩
        have hok : ∀ x, x < n → bs.getD x false = decide (x ∈ l) := fun x hx => by
          have h1 := hr x hx
          rw [av_all] at h1
          have h2 := HL.out.2.2.2.2.2.2.1.2.2 x hx
          by_cases hm : x ∈ l
          · rw [h1.2 (h2.1 hm)]; simp [hm]
          · have : bs.getD x false = false := by
              cases hb : bs.getD x false with
              | false => rfl
              | true => exact absurd (h2.2 (h1.1 hb)) hm
            rw [this]; simp [hm]
        have H9 := Lib.hid (And.intro (H8.out.1.below b9) (And.intro (H8.out.2.1.below b9) (And.intro (H8.out.2.2.1.below b9 H8.out.2.2.1.lt) (And.intro ka (And.intro bl (And.intro hok (belowB H8.out.2.2.2 b9)))))))
        have HGN := Lib.hid (show GN w9 ua G by rw [HL.out.2.1]; exact gn_own (H8.out.2.1.below b9) HL.out.1)
        have HS2 := Lib.hid (show Q2 w9 G n (.bool false) (I 0) w9 from ⟨0, false, Nat.zero_le _, rfl, rfl, fun _ x hx => absurd hx (by omega), Below.refl _ _⟩)
        clear ka bl hr hok b9 HC8 H8
        go_wp2_with fail
        go_loopw [11, 66] (fun mv pv W => Q2 w9 G n mv pv W) (fun _ pv _ => n - (intOf pv).toNat)
        case atStart => exact HS2.out
        case round =>
          obtain ⟨p, m, hp, rfl, rfl, hno, hbe⟩ := hrel
          by_cases hpn : p < n
          · obtain ⟨bg, ra, rc, hua, c0w, hrw⟩ := HGN.out p (by rw [HL.out.2.2.1]; exact hpn)
            have c0 := cell_below hbe (block_lt_of_cell c0w) c0w
            subst hua
            obtain ⟨L, hL⟩ : ∃ L, L = (row G p).length := ⟨_, rfl⟩
            rw [← hL] at c0
            obtain ⟨q, hq⟩ : ∃ q, q = decide (p ∈ l) := ⟨_, rfl⟩
            have y0 := (H9.out.2.2.2.1.below hbe H9.out.2.2.2.1.lt).get p (.bool q) (by rw [arrB_getD bs p false (by rw [H9.out.2.2.2.2.1]; exact hpn), H9.out.2.2.2.2.2.1 p hpn, ← hq])
            obtain ⟨y, hy⟩ : ∃ y, y = (plF l n k).getD p 0 := ⟨_, rfl⟩
            have y1 := (H9.out.2.2.1.below hbe H9.out.2.2.1.lt).get p (I y) (by rw [hy]; exact arrZ_getD _ p 0 (by rw [plF_len]; exact hpn))
            have hyq : decide (0 < y) = q := by
              rw [hy, plF_at l hpn, List.take_of_length_le (by rw [← HL.out.2.2.2.2.2.2.2.1]; exact Nat.le_refl _), hq]
              by_cases hm : p ∈ l
              · rw [if_pos hm]; simp [hm] <;> omega
              · rw [if_neg hm]; simp [hm]
            have hLb : (L : Int) ≤ 1000 := by have h1 := HT.out.1.row p; rw [← HL.out.2.1] at h1; omega
            have e0 : decide (p < n) = true := by simpa using hpn
            have e1 : (0 : Int) ≤ (p : Int) := by omega
            have e2 : (p : Int) < (n : Int) := by omega
            have e3 : (p : Int) ≤ 24 := by have := HN.out.2; omega
            have g1 : (q != q) = false := by cases q <;> rfl
            have HP := Lib.hid (And.intro hL (And.intro hpn (And.intro hq hrw)))
            have HS3 := Lib.hid (show Q3 w9 G p (.bool m) (I 0) wr from ⟨0, m, Nat.zero_le _, rfl, rfl, fun e => ⟨hno e, fun b hb => absurd hb (by simp)⟩, hbe⟩)
            clear hL hq hy hpn hrw hno hbe hp c0w HS2
            go_wp2_with fail
            go_loopw [11, 83] (fun mv jv W => Q3 w9 G p mv jv W) (fun _ jv _ => L - (intOf jv).toNat)
            case atStart => exact HS3.out
            case round =>
              obtain ⟨j, m, hj, rfl, rfl, hno, hbe⟩ := hrel
              by_cases hjl : j < L
              · have hjr : j < (row G p).length := by rw [← HP.out.1]; exact hjl
                obtain ⟨g, hra, c1w⟩ := HP.out.2.2.2 j hjr
                have c1 := cell_below hbe (block_lt_of_cell c1w) c1w
                subst hra
                obtain ⟨x, hx⟩ : ∃ x, x = (row G p)[j] := ⟨_, rfl⟩
                rw [← hx] at c1
                have hxm : x ∈ row G p := by rw [hx]; exact List.getElem_mem hjr
                have hxn : x < n := by rw [← HL.out.2.2.1]; exact HL.out.2.2.2.1 p x hxm
                have htk : (row G p).take (j + 1) = (row G p).take j ++ [x] := by rw [List.take_add_one, List.getElem?_eq_getElem hjr, hx]; rfl
                have f0 : decide (j < L) = true := by simpa using hjl
                have f1 : (0 : Int) ≤ (j : Int) := by omega
                have f2 : (j : Int) < (L : Int) := by omega
                have f5 : (j : Int) ≤ 1000 := by omega
                have HX := Lib.hid (And.intro hjr (And.intro hno (And.intro hbe (And.intro hxm (And.intro htk hxn)))))
                clear hx hxm hxn htk hjr hjl hno hbe hj c1w HS3
                cases m
                · cases q
                  · have HN2 := Lib.hid (show Q3 w9 G p (.bool false) (I ((j : Int) + 1)) wr from ⟨j + 1, false, HX.out.1, rfl, rfl, fun e => ⟨(HX.out.2.1 e).1, fun b hb => by
                      rw [HX.out.2.2.2.2.1] at hb
                      rcases List.mem_append.1 hb with h1 | h1
                      · exact (HX.out.2.1 e).2 b h1
                      · intro hr
                        have h2 := HP.out.2.2.1
                        have h3 := (HL.out.2.2.2.2.2.2.1.2.2 p HP.out.2.1).2 hr.1
                        simp [h3] at h2⟩, HX.out.2.2.1⟩)
                    go_wp2_with fail
                    exact ⟨HN2.out, by have h1 := HX.out.1; have h2 := HP.out.1; simp [intOf]; omega⟩
                  · have HC9 := Lib.hid (Reach_own (some ⟨bg, 0, none⟩) uc n x (-1) T _ HT.out.1 HL.out.1 HN.out.1 (Or.inl HX.out.2.2.2.2.2) wr (H9.out.2.1.below HX.out.2.2.1))
                    rw [← HL.out.2.1] at HC9
                    have hpl : p ∈ l := by have h2 := HP.out.2.2.1; simpa using h2.symm
                    have HPL := Lib.hid ((HL.out.2.2.2.2.2.2.1.2.2 p HP.out.2.1).1 hpl)
                    have HNO := Lib.hid (HX.out.2.1 rfl)
                    clear hpl
                    go_wp2_with fail
                    refine HC9.out.mono ?_
                    rintro e w10 ⟨bb, bs2, rfl, kb2, bl2, hr2, b10⟩
                    obtain ⟨z, hz⟩ : ∃ z, z = bs2.getD p false := ⟨_, rfl⟩
                    have z0 := kb2.get p (.bool z) (by rw [hz]; exact arrB_getD bs2 p false (by rw [bl2]; exact HP.out.2.1))
                    have HN2 := Lib.hid (show Q3 w9 G p (.bool z) (I ((j : Int) + 1)) w10 from ⟨j + 1, z, HX.out.1, rfl, rfl, fun e => ⟨HNO.out.1, fun b hb => by
                      rw [HX.out.2.2.2.2.1] at hb
                      rcases List.mem_append.1 hb with h1 | h1
                      · exact HNO.out.2 b h1
                      · obtain rfl : b = x := List.mem_singleton.1 h1
                        intro hr
                        have h2 := (hr2 p HP.out.2.1).2 (av_all.2 hr.2.2)
                        rw [← hz, e] at h2
                        cases h2⟩, belowB HX.out.2.2.1 b10⟩)
                    clear kb2 bl2 hr2 b10 hz HC9
                    go_wp2_with fail
                    exact ⟨HN2.out, by have h1 := HX.out.1; have h2 := HP.out.1; simp [intOf]; omega⟩
                · have HN2 := Lib.hid (show Q3 w9 G p (.bool true) (I ((j : Int) + 1)) wr from ⟨j + 1, true, HX.out.1, rfl, rfl, (fun e => absurd e (by decide)), HX.out.2.2.1⟩)
                  go_wp2_with fail
                  exact ⟨HN2.out, by have h1 := HX.out.1; have h2 := HP.out.1; simp [intOf]; omega⟩
              · have f0 : decide (j < L) = false := by simpa using hjl
                have hte : (row G p).take j = row G p := List.take_of_length_le (by rw [← HP.out.1]; omega)
                rw [hte] at hno
                have HN2 := Lib.hid (show Q2 w9 G n (.bool m) (I ((p : Int) + 1)) wr from ⟨p + 1, m, HP.out.2.1, rfl, rfl, fun e x hx b => by
                  rcases Nat.lt_or_ge x p with h1 | h1
                  · exact (hno e).1 x h1 b
                  · obtain rfl : x = p := by omega
                    intro hr
                    exact (hno e).2 b hr.2.1 hr, hbe⟩)
                clear hjl hte hno hbe hj HS3
                go_wp2_with fail
                exact ⟨HN2.out, by have h1 := HP.out.2.1; simp [intOf]; omega⟩
          · have e0 : decide (p < n) = false := by simpa using hpn
            have HB := Lib.hid (And.intro hbe (belowB H9.out.2.2.2.2.2.2 hbe))
            cases m
            · have hnr : ∀ x b, ¬ Rnd G x b := fun x b hr => hno rfl x (by have := row_lt hr.2.1; have := HL.out.2.2.1; omega) b hr
              obtain ⟨s9, k9, hlv⟩ : ∃ a c, lv = .slice a 0 c := by
                have hnl := no_loops HL.out.2.2.2.1 hnr
                obtain ⟨vs, _, h2, _⟩ := H9.out.1
                rw [hnl] at h2
                rcases own_slice h2 with ⟨e, _⟩ | ⟨g, c, e⟩
                · exact ⟨_, _, e⟩
                · exact ⟨_, _, e⟩
              have HNR := Lib.hid hnr
              have HV := Lib.hid hlv
              have HS4 := Lib.hid (show Q4 w9 n (I 0) wr from ⟨0, Nat.zero_le _, rfl, hbe⟩)
              have H10 := Lib.hid H9.out.2
              clear hnr hno hbe hp hpn HS2 H9
              subst hlv
              clear HV
              go_wp2_with fail
              go_loopw [105] (fun pv W => Q4 w9 n pv W) (fun pv _ => n - (intOf pv).toNat)
              case atStart => exact HS4.out
              case round =>
                obtain ⟨p, hp, rfl, hbe⟩ := hrel
                by_cases hpn : p < n
                · obtain ⟨bg, ra, rc, hua, c0w, hrw⟩ := HGN.out p (by rw [HL.out.2.2.1]; exact hpn)
                  have c0 := cell_below hbe (block_lt_of_cell c0w) c0w
                  subst hua
                  obtain ⟨L, hL⟩ : ∃ L, L = (row G p).length := ⟨_, rfl⟩
                  rw [← hL] at c0
                  have hLb : (L : Int) ≤ 1000 := by have h1 := HT.out.1.row p; rw [← HL.out.2.1] at h1; omega
                  have e0 : decide (p < n) = true := by simpa using hpn
                  have e1 : (0 : Int) ≤ (p : Int) := by omega
                  have e2 : (p : Int) < (n : Int) := by omega
                  have e3 : (p : Int) ≤ 24 := by have := HN.out.2; omega
                  have HP := Lib.hid (And.intro hL (And.intro hpn hrw))
                  have HS5 := Lib.hid (show Q4 w9 L (I 0) wr from ⟨0, Nat.zero_le _, rfl, hbe⟩)
                  clear hL hpn hrw hbe hp c0w HS4
                  go_wp2_with fail
                  go_loopw [112] (fun jv W => Q4 w9 L jv W) (fun jv _ => L - (intOf jv).toNat)
                  case atStart => exact HS5.out
                  case round =>
                    obtain ⟨j, hj, rfl, hbe⟩ := hrel
                    by_cases hjl : j < L
                    · have hjr : j < (row G p).length := by rw [← HP.out.1]; exact hjl
                      obtain ⟨g, hra, c1w⟩ := HP.out.2.2 j hjr
                      have c1 := cell_below hbe (block_lt_of_cell c1w) c1w
                      subst hra
                      obtain ⟨x, hx⟩ : ∃ x, x = (row G p)[j] := ⟨_, rfl⟩
                      rw [← hx] at c1
                      have hxm : x ∈ row G p := by rw [hx]; exact List.getElem_mem hjr
                      have hxn : x < n := by rw [← HL.out.2.2.1]; exact HL.out.2.2.2.1 p x hxm
                      obtain ⟨q, hq⟩ : ∃ q, q = decide (p ∈ l) := ⟨_, rfl⟩
                      have y0 := (H10.out.2.2.1.below hbe H10.out.2.2.1.lt).get p (.bool q) (by rw [arrB_getD bs p false (by rw [H10.out.2.2.2.1]; exact HP.out.2.1), H10.out.2.2.2.2.1 p HP.out.2.1, ← hq])
                      obtain ⟨y, hy⟩ : ∃ y, y = (plF l n k).getD p 0 := ⟨_, rfl⟩
                      obtain ⟨z, hz⟩ : ∃ z, z = (plF l n k).getD x 0 := ⟨_, rfl⟩
                      have y1 := (H10.out.2.1.below hbe H10.out.2.1.lt).get p (I y) (by rw [hy]; exact arrZ_getD _ p 0 (by rw [plF_len]; exact HP.out.2.1))
                      have y2 := (H10.out.2.1.below hbe H10.out.2.1.lt).get x (I z) (by rw [hz]; exact arrZ_getD _ x 0 (by rw [plF_len]; exact hxn))
                      have hqz : q = true → decide (z ≤ y) = false := fun e => by
                        have hpl : p ∈ l := by rw [hq] at e; simpa using e
                        have hrp := (HL.out.2.2.2.2.2.2.1.2.2 p HP.out.2.1).1 hpl
                        have hxl : x ∈ l := (HL.out.2.2.2.2.2.2.1.2.2 x hxn).2 (.step hrp hxm trivial)
                        have hlt := order_lt HL.out.2.2.2.1 (by have := HL.out.2.2.1; have := HP.out.2.1; omega) hrp hxm (HNR.out p x)
                        rw [← HL.out.2.2.2.2.1] at hlt
                        rw [hy, hz, plF_at l HP.out.2.1, plF_at l hxn, List.take_of_length_le (by rw [← HL.out.2.2.2.2.2.2.2.1]; exact Nat.le_refl _), if_pos hpl, if_pos hxl]
                        simp
                        omega
                      have f0 : decide (j < L) = true := by simpa using hjl
                      have f1 : (0 : Int) ≤ (j : Int) := by omega
                      have f2 : (j : Int) < (L : Int) := by omega
                      have f3 : (0 : Int) ≤ (x : Int) := by omega
                      have f4 : (x : Int) < (n : Int) := by omega
                      have f5 : (j : Int) ≤ 1000 := by omega
                      have HX := Lib.hid (And.intro hjr hbe)
                      have HQZ := Lib.hid hqz
                      clear hx hxm hxn hq hy hz hjr hjl hbe hj c1w hqz HS5
                      cases q
                      · clear HQZ
                        go_wp2_with fail
                        go_quiet (fail)
                        have HN2 := Lib.hid (show Q4 w9 L (I ((j : Int) + 1)) (wr.drewN nq) from ⟨j + 1, by rw [HP.out.1]; exact HX.out.1, rfl, below_drewN HX.out.2 nq⟩)
                        go_wp2_with fail
                        exact ⟨HN2.out, by have h1 := HX.out.1; have h2 := HP.out.1; simp [intOf]; omega⟩
                      · have g5 := HQZ.out rfl
                        clear HQZ
                        go_wp2_with fail
                        go_quiet (fail)
                        have HN2 := Lib.hid (show Q4 w9 L (I ((j : Int) + 1)) (wr.drewN nq) from ⟨j + 1, by rw [HP.out.1]; exact HX.out.1, rfl, below_drewN HX.out.2 nq⟩)
                        go_wp2_with fail
                        exact ⟨HN2.out, by have h1 := HX.out.1; have h2 := HP.out.1; simp [intOf]; omega⟩
                    · have f0 : decide (j < L) = false := by simpa using hjl
                      have HN2 := Lib.hid (show Q4 w9 n (I ((p : Int) + 1)) wr from ⟨p + 1, HP.out.2.1, rfl, hbe⟩)
                      clear hjl hbe hj HS5
                      go_wp2_with fail
                      exact ⟨HN2.out, by have h1 := HP.out.2.1; simp [intOf]; omega⟩
                · have e0 : decide (p < n) = false := by simpa using hpn
                  have FIN := Lib.hid (belowB H10.out.2.2.2.2.2 hbe)
                  clear hpn hbe hp HS4
                  go_wp2_with fail
                  go_ret
                  exact ⟨rfl, FIN.out⟩
            · clear hno hbe hp hpn HS2
              go_wp2_with fail
              go_ret
              exact ⟨rfl, HB.out.2⟩
  · have g0 : (er != 0) = true := by simp; exact h0
    obtain ⟨s1, k1, e1⟩ : ∃ a c, va = .slice a 0 c := by
      have h1 := H4.out.1
      rw [if_neg h0] at h1
      rcases own_slice h1 with ⟨e, _⟩ | ⟨g, c, e⟩
      · exact ⟨_, _, e⟩
      · exact ⟨_, _, e⟩
    have FIN := Lib.hid H4.out.2.2
    subst e1
    clear h0 H4
    go_wp2_with fail
    go_ret
    exact ⟨rfl, FIN.out⟩
end Go.Proofs.Ytomfmkddfgpmkaa
