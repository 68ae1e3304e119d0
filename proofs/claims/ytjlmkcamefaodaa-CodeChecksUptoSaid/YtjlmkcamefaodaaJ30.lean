/-
  Joined: FDoms, FIntoG.
-/
import Derived.Test.YtjlmkcamefaodaaJ29
import Derived.BigQuiet
import Derived.StillTailTactics
/-! FDoms: Who dominates whom: the document's own answer, walked. -/

namespace Go.Proofs.Ytjlmkcamefaodaa
open Go Go.RowKit Fl

theorem mkBBn (n : Nat) (hn : n ≤ 1000000) (u : World) : (Instr.makeSlice 72 (I (n : Int)) (I (n : Int))).run Try.prog u = .ok (.slice (some ⟨u.heap.size, 0, none⟩) n n) (u.alloc (.cells (arrS (List.replicate n (.slice none 0 0))) 69)) := by
  obtain ⟨i0, hi, hz0, hz1, hz2⟩ := info_parts (show (Try.prog.info? 69).map (fun i => (i.zero, i.size, i.bytes)) = some (some (.slice none 0 0), 1, 24) by kernel_rfl)
  have h := run_makeSlice (P := Try.prog) (w := u) 72 69 i0 _ Try.underlying72 hi hz0 .i64 .i64 (n : Int) (n : Int) (by omega) (Int.le_refl _) (by rw [hz1]; simp; omega) (by rw [hz2]; simp; omega) (by omega)
  rw [hz1, show (Value.slice none 0 0).cells = #[.slice none 0 0] from rfl, made_one] at h
  simp at h
  rw [show arrS (List.replicate n (.slice none 0 0)) = Array.replicate n (.slice none 0 0) by apply Array.toList_inj.1; simp]
  exact h
/-- One row: whom it dominates. -/
def DomRow (G : List (List Nat)) (N a r : Nat) (W : World) : Prop := ∃ bs : List Bool, Blk r (arrB bs) 4 W ∧ bs.length = N ∧ ∀ b, b < N → (bs.getD b false = true ↔ DomG G a b)
/-- The first rows. -/
structure DS (w : World) (G : List (List Nat)) (N bo a : Nat) (vs : List Value) (W : World) : Prop where
  ko : Blk bo (arrS vs) 69 W
  vl : vs.length = N
  lo : w.heap.size ≤ bo
  be : Below w.heap.size w W
  rw' : ∀ a', a' < a → a' < N → ∃ r, vs[a']? = some (.slice (some ⟨r, 0, none⟩) N N) ∧ r ≠ bo ∧ DomRow G N a' r W
def DomsT (w : World) (G : List (List Nat)) (N : Nat) (W : World) (e : Ending) : Prop := ∃ bo vs, e = .returned (.slice (some ⟨bo, 0, none⟩) N N) ∧ DS w G N bo N vs W
def D1 (w : World) (G : List (List Nat)) (N bo : Nat) (iv : Value) (W : World) : Prop := ∃ a vs, a ≤ N ∧ iv = I (a : Int) ∧ DS w G N bo a vs W
def D2 (wo : World) (G : List (List Nat)) (N a r : Nat) (jv : Value) (W : World) : Prop :=
  ∃ (b : Nat) (bs : List Bool), b ≤ N ∧ jv = I (b : Int) ∧ Blk r (arrB bs) 4 W ∧ bs.length = N ∧ (∀ b', b' < b → b' < N → (bs.getD b' false = true ↔ DomG G a b')) ∧ wo.grownBy W (some r)
theorem DS.below {w W W' : World} {G : List (List Nat)} {N bo a : Nat} {vs : List Value} (h : DS w G N bo a vs W) (hb : Below W.heap.size W W') : DS w G N bo a vs W' :=
  ⟨h.ko.below hb h.ko.lt, h.vl, h.lo, belowB h.be hb, fun a' h1 h2 => by
    obtain ⟨r, h3, h4, bs, h5, h6, h7⟩ := h.rw' a' h1 h2
    exact ⟨r, h3, h4, bs, h5.below hb h5.lt, h6, h7⟩⟩
theorem dom_iff {G : List (List Nat)} {a b : Nat} {A B L : Bool} (hA : A = true ↔ Av (EG G) (okN (-1)) 0 a) (hB : B = true ↔ Av (EG G) (okN (-1)) 0 b) (hL : L = true ↔ Av (EG G) (okN (a : Int)) 0 b) : (A && B && (decide (a = b) || !L)) = true ↔ DomG G a b := by
  rw [av_all] at hA hB
  have hL' : L = true ↔ Av (EG G) (fun y => y ≠ a) 0 b := by
    rw [hL]
    exact ⟨fun h => h.mono (fun x hx => by unfold okN at hx; omega), fun h => h.mono (fun x hx => by unfold okN; omega)⟩
  have h0 : ¬ Av (EG G) (fun y => y ≠ a) 0 a := fun h => h.end_ok rfl
  simp only [Bool.and_eq_true, Bool.or_eq_true, decide_eq_true_eq, Bool.not_eq_true']
  constructor
  · rintro ⟨⟨h1, h2⟩, h3⟩
    refine ⟨hA.1 h1, hB.1 h2, ?_⟩
    rcases h3 with h3 | h3
    · rw [← h3]; exact h0
    · intro h4
      rw [hL'.2 h4] at h3
      cases h3
  · rintro ⟨h1, h2, h3⟩
    refine ⟨⟨hA.2 h1, hB.2 h2⟩, ?_⟩
    right
    cases hl : L with
    | false => rfl
    | true => exact absurd (hL'.1 hl) h3
theorem D2.next {wo W : World} {G : List (List Nat)} {N a r b : Nat} {bs : List Bool} {q : Bool} (hb : b < N) (hk : Blk r (arrB bs) 4 W) (hl : bs.length = N) (hd : ∀ b', b' < b → b' < N → (bs.getD b' false = true ↔ DomG G a b')) (hg : wo.grownBy W (some r)) (hq : q = true ↔ DomG G a b) :
    D2 wo G N a r (I ((b : Int) + 1)) (W.setCell ⟨r, b, none⟩ (.bool q)) := by
  refine ⟨b + 1, bs.set b q, hb, rfl, by rw [← arrB_set]; exact hk.set b _, by simp [hl], fun b' h1 h2 => ?_, ?_⟩
  · rw [List.getD_eq_getElem?_getD, List.getElem?_set]
    by_cases e : b = b'
    · subst e
      rw [if_pos rfl, if_pos (by rw [hl]; exact hb)]
      exact hq
    · rw [if_neg e, ← List.getD_eq_getElem?_getD]
      exact hd b' (by omega) h2
  · exact hg.andThen (row' := some r) ⟨rfl, rfl, rfl, by simp [World.setCell], fun k _ hne => Below.heap_setCell _ _ _ _ (fun e => hne (by rw [e]))⟩ (fun j hj => by cases hj; exact Or.inr rfl)
theorem D2.drewN {wo W : World} {G : List (List Nat)} {N a r : Nat} {jv : Value} (h : D2 wo G N a r jv W) (n : Nat) : D2 wo G N a r jv (W.drewN n) := by
  obtain ⟨b, bs, h1, h2, h3, h4, h5, h6⟩ := h
  exact ⟨b, bs, h1, h2, h3, h4, h5, ⟨h6.os, h6.tape, h6.output, h6.size, h6.block⟩⟩

/-- The quiet walk in one world is a still one. -/
theorem still_of_quiet {P : Program} {ops : Array Oper} {W : World} {Q : Act → Prop} : ∀ {l : List Oper} {a : Act}, wpQuiet P ops (fun w' => w' = W) Q l a → wpStill P ops W Q l a
  | [], _, h => h
  | o :: rest, a, h => by
    unfold wpQuiet at h
    unfold wpStill
    split
    · rename_i hw
      rw [if_pos hw] at h
      obtain ⟨v, h1, h2⟩ := h
      have h3 := h1 W rfl
      unfold Oper.quietAt at h3
      unfold Oper.still
      generalize (execOp a.eval o).run P W = r at h3 ⊢
      unfold Oper.quietUpon at h3
      unfold Oper.stillUpon
      split at h3
      · exact ⟨h3.1, by rw [h3.2]; exact still_of_quiet h2⟩
      · exact ⟨h3.1, by rw [h3.2] at h2; exact still_of_quiet h2⟩
      · exact ⟨h3.1, v, h3.2, still_of_quiet h2⟩
      · exact h3.elim
    · rename_i hw
      rw [if_neg hw] at h
      exact still_of_quiet h
theorem wp_region_quiet_tail {P : Program} {id : Nat} {Q : Exit → Act → World → Prop} {a : Act} {w : World} {l : List Oper} (n : Nat) (hm : P.follows .mixedOrders = true) (hB : Region.lexTailB .any l.toArray n = true)
    (h : wpQuiet P l.toArray (fun w' => w' = w.drewN 1) (fun a' => wpList P l.toArray Q (l.drop n) a' (w.drewN 1)) (l.take n) a) : (Code.region id l.toArray true).wp P Q a w :=
  wp_region_still_tail n hm hB (still_of_quiet h)

set_option maxRecDepth 100000 in
set_option maxHeartbeats 1600000 in
theorem DomsG_any (bg cap N : Nat) (G : List (List Nat)) (hG : GOk G) (hGl : G.length = N) (hn24 : N ≤ 150) (hN0 : 0 < N) (hrow : ∀ i, (row G i).length ≤ 1000) (w : World) (h : GrB w.heap.size w bg G) :
    Calls Try.prog 33 #[.slice (some ⟨bg, 0, none⟩) N cap] w fun e w' => DomsT w G N w' e := by
  have HH := Lib.hid (And.intro h (And.intro hG (And.intro hrow (And.intro hGl (And.intro hGl (And.intro hGl (And.intro hn24 hN0)))))))
  have HC := Lib.hid (Reach_any bg cap N 0 (-1) G hG hGl (by omega) hrow hN0 w h)
  have hmk2 : ∀ u, (Instr.makeSlice 69 (I (N : Int)) (I (N : Int))).run Try.prog u = .ok (.slice (some ⟨u.heap.size, 0, none⟩) N N) (u.alloc (.cells (arrB (List.replicate N false)) 4)) := fun u => mkBn N (by omega) u
  have hmk : ∀ u, (Instr.makeSlice 72 (I (N : Int)) (I (N : Int))).run Try.prog u = .ok (.slice (some ⟨u.heap.size, 0, none⟩) N N) (u.alloc (.cells (arrS (List.replicate N (.slice none 0 0))) 69)) := fun u => mkBBn N (by omega) u
  clear h hG hrow hGl hn24 hN0
  go_enter Try.func33, Try.ntmps33
  go_wp2_with fail
  refine HC.out.mono ?_
  rintro e w1 ⟨ba, bsA, rfl, kA, lA, hA, _, b1⟩
  obtain ⟨W2, hW2⟩ : ∃ W, W = w1.alloc (.cells (arrS (List.replicate N (.slice none 0 0))) 69) := ⟨_, rfl⟩
  obtain ⟨bo, hbo⟩ : ∃ b, b = w1.heap.size := ⟨_, rfl⟩
  have hb12 : Below w1.heap.size w1 W2 := by rw [hW2]; exact (Below.refl _ _).alloc (Nat.le_refl _) _
  have hko : Blk bo (arrS (List.replicate N (.slice none 0 0))) 69 W2 := by rw [hbo, hW2]; exact Blk.new _ _ _
  have HST := Lib.hid (show D1 w1 G N bo (I 0) W2 from ⟨0, _, Nat.zero_le _, rfl, hko, by simp, Nat.le_of_eq hbo.symm, hb12, fun a' h1 => absurd h1 (by omega)⟩)
  have HA := Lib.hid (And.intro kA (And.intro lA (And.intro hA (And.intro b1 (Nat.le_of_eq hbo.symm)))))
  have HW2 := Lib.hid (And.intro hW2 hbo)
  clear kA lA hA b1 hW2 hbo hb12 hko HC
  go_upto_region 3 with (fail)
  rw [← HW2.out.2]
  change Code.wp _ _ _ _ (w1.alloc (.cells (arrS (List.replicate N (.slice none 0 0))) 69))
  rw [← HW2.out.1]
  go_wp2_with fail
  go_loopw [15] (fun iv W => D1 w1 G N bo iv W) (fun iv _ => N - (intOf iv).toNat)
  case atStart => exact HST.out
  case round =>
    obtain ⟨a, vs, ha, rfl, hD⟩ := hrel
    by_cases haN : a < N
    · have x0 := hD.ko.get a (vs.getD a .nilIface) (by rw [List.getD_eq_getElem?_getD, List.getElem?_eq_getElem (by rw [hD.vl]; exact haN)]; simp [hD.vl, haN])
      have x1 := hD.ko.free a
      have hbol := hD.ko.lt
      have hboN : ¬ bo = wr.heap.size := by omega
      obtain ⟨r, hr⟩ : ∃ r, r = wr.heap.size := ⟨_, rfl⟩
      obtain ⟨W3, hW3⟩ : ∃ W, W = (wr.alloc (.cells (arrB (List.replicate N false)) 4)).setCell ⟨bo, a, none⟩ (.slice (some ⟨r, 0, none⟩) N N) := ⟨_, rfl⟩
      have hgr : wr.grownBy W3 (some bo) := by
        rw [hW3]
        exact (World.grownBy_alloc wr _ _).andThen (row' := some bo) ⟨rfl, rfl, rfl, by simp [World.setCell], fun k _ hne => Below.heap_setCell _ _ _ _ (fun e => hne (by rw [e]))⟩ (fun j hj => by cases hj; exact Or.inr rfl)
      have hb3 : Below w1.heap.size w1 W3 := hD.be.grown hgr hD.be.size (fun k hk => by cases hk; exact hD.lo)
      have hk3 : Blk r (arrB (List.replicate N false)) 4 W3 := by
        rw [hW3]
        exact (Blk.new' _ _ _ hr).setOther (by omega) _ _
      have hD3 : DS w1 G N bo a (vs.set a (.slice (some ⟨r, 0, none⟩) N N)) W3 := by
        refine ⟨?_, by simp [hD.vl], hD.lo, hb3, fun a' h1 h2 => ?_⟩
        · rw [hW3]
          have h1 := (hD.ko.alloc (.cells (arrB (List.replicate N false)) 4)).set a (.slice (some ⟨r, 0, none⟩) N N)
          rw [show (arrS vs).setIfInBounds a (.slice (some ⟨r, 0, none⟩) N N) = arrS (vs.set a (.slice (some ⟨r, 0, none⟩) N N)) by simp] at h1
          exact h1
        · obtain ⟨r', h3, h4, bs, h5, h6, h7⟩ := hD.rw' a' h1 h2
          exact ⟨r', by rw [List.getElem?_set, if_neg (by omega)]; exact h3, h4, bs, h5.other hgr (by simp; exact h4), h6, h7⟩
      have hv3 : (vs.set a (.slice (some ⟨r, 0, none⟩) N N))[a]? = some (.slice (some ⟨r, 0, none⟩) N N) := by rw [List.getElem?_set, if_pos rfl, if_pos (by rw [hD.vl]; exact haN)]
      have hrw3 : ∀ a', a' < a → a' < N → ∃ r', (vs.set a (.slice (some ⟨r, 0, none⟩) N N))[a']? = some (.slice (some ⟨r', 0, none⟩) N N) ∧ r' ≠ bo ∧ r' ≠ r ∧ DomRow G N a' r' W3 := fun a' h1 h2 => by
        obtain ⟨r', h3, h4, bs, h5, h6, h7⟩ := hD.rw' a' h1 h2
        exact ⟨r', by rw [List.getElem?_set, if_neg (by omega)]; exact h3, h4, by have := h5.lt; omega, bs, h5.other hgr (by simp; exact h4), h6, h7⟩
      have hrlo : w1.heap.size ≤ r := by rw [hr]; exact hD.be.size
      have HRW := Lib.hid (And.intro hrw3 hrlo)
      have hA3 := HA.out.1.below hb3 HA.out.1.lt
      have o3 : GrB W3.heap.size W3 bg G := (HH.out.1.below (belowB HA.out.2.2.2.1 hb3)).up (belowB HA.out.2.2.2.1 hb3).size (Nat.le_refl _)
      have HC2 := Lib.hid (Reach_any bg cap N 0 (a : Int) G HH.out.2.1 HH.out.2.2.2.1 (by have := HH.out.2.2.2.2.2.2.1; omega) HH.out.2.2.1 HH.out.2.2.2.2.2.2.2 W3 o3)
      have hrA : ba ≠ r := by have h1 := HA.out.1.lt; have h2 := hD.be.size; omega
      have hrO : bo ≠ r := by omega
      have d0 : decide (a < N) = true := by simpa using haN
      have d1 : (0 : Int) ≤ (a : Int) := by omega
      have d2 : (a : Int) < (N : Int) := by omega
      have d3 : (a : Int) ≤ 150 := by have := HH.out.2.2.2.2.2.2.1; omega
      have HD := Lib.hid (And.intro hD3 (And.intro hv3 (And.intro hk3 (And.intro hA3 (And.intro hrA (And.intro hrO haN))))))
      have HW3 := Lib.hid (And.intro hW3 hr)
      clear hrw3 hrlo hD hgr hb3 hk3 hD3 hv3 hA3 o3 hrA hrO hW3 hr ha HST haN
      go_upto_region 7 with (fail)
      rw [← HW3.out.2]
      change Code.wp _ _ _ _ ((wr.setCell ⟨bo, a, none⟩ (.slice (some ⟨r, 0, none⟩) N N)).alloc (.cells (arrB (List.replicate N false)) 4))
      rw [← World.setCell_alloc_past _ _ _ _ hbol, ← HW3.out.1]
      clear x0 x1 hbol hboN
      go_wp2_with fail
      refine HC2.out.mono ?_
      rintro e w5 ⟨bl, bsL, rfl, kL, lL, hL, hlo, b5⟩
      have hrL : bl ≠ r := by have := HD.out.2.2.1.lt; omega
      have HR5 := Lib.hid (show ∀ a', a' < a → a' < N → ∃ r', (vs.set a (.slice (some ⟨r, 0, none⟩) N N))[a']? = some (.slice (some ⟨r', 0, none⟩) N N) ∧ r' ≠ bo ∧ r' ≠ r ∧ DomRow G N a' r' w5 from fun a' h1 h2 => by
        obtain ⟨r', q1, q2, q3, bs', q4, q5, q6⟩ := HRW.out.1 a' h1 h2
        exact ⟨r', q1, q2, q3, bs', q4.below b5 q4.lt, q5, q6⟩)
      have H5 := Lib.hid (And.intro (HD.out.1.below b5) (And.intro (HD.out.2.2.2.1.below b5 HD.out.2.2.2.1.lt) (And.intro kL (And.intro lL (And.intro hL hrL)))))
      have HS2 := Lib.hid (show D2 w5 G N a r (I 0) w5 from ⟨0, _, Nat.zero_le _, rfl, HD.out.2.2.1.below b5 HD.out.2.2.1.lt, by simp, fun b' h1 => absurd h1 (by omega), ⟨rfl, rfl, rfl, Nat.le_refl _, fun _ _ _ => rfl⟩⟩)
      clear kL lL hL hlo b5 hrL HC2
      go_wp2_with fail
      go_loopw [29] (fun jv W => D2 w5 G N a r jv W) (fun jv _ => N - (intOf jv).toNat)
      case atStart => exact HS2.out
      case round =>
        obtain ⟨b, bs, hb, rfl, hk, hl, hd, hg⟩ := hrel
        by_cases hbN : b < N
        · obtain ⟨A, hA⟩ : ∃ A, A = bsA.getD a false := ⟨_, rfl⟩
          obtain ⟨B, hB⟩ : ∃ B, B = bsA.getD b false := ⟨_, rfl⟩
          obtain ⟨L, hL⟩ : ∃ L, L = bsL.getD b false := ⟨_, rfl⟩
          have z0 := (H5.out.1.ko.other hg (by simp; exact HD.out.2.2.2.2.2.1)).get a (.slice (some ⟨r, 0, none⟩) N N) (by simp [HD.out.2.1])
          have y0 := (H5.out.2.1.other hg (by simp; exact HD.out.2.2.2.2.1)).get a (.bool A) (by rw [hA]; exact arrB_getD bsA a false (by rw [HA.out.2.1]; exact HD.out.2.2.2.2.2.2))
          have y1 := (H5.out.2.1.other hg (by simp; exact HD.out.2.2.2.2.1)).get b (.bool B) (by rw [hB]; exact arrB_getD bsA b false (by rw [HA.out.2.1]; exact hbN))
          have y2 := (H5.out.2.2.1.other hg (by simp; exact H5.out.2.2.2.2.2)).get b (.bool L) (by rw [hL]; exact arrB_getD bsL b false (by rw [H5.out.2.2.2.1]; exact hbN))
          have z1 := hk.get b (.bool (bs.getD b false)) (arrB_getD bs b false (by rw [hl]; exact hbN))
          have z2 := hk.free b
          have hiff := dom_iff (G := G) (a := a) (b := b) (A := A) (B := B) (L := L) (by rw [hA]; exact HA.out.2.2.1 a) (by rw [hB]; exact HA.out.2.2.1 b) (by rw [hL]; exact H5.out.2.2.2.2.1 b)
          have HNX := Lib.hid (fun q => D2.next (q := q) hbN hk hl hd hg)
          have HI := Lib.hid (And.intro hiff hbN)
          have f0 : decide (b < N) = true := by simpa using hbN
          have f1 : (0 : Int) ≤ (b : Int) := by omega
          have f2 : (b : Int) < (N : Int) := by omega
          have f3 : (b : Int) ≤ 150 := by have := HH.out.2.2.2.2.2.2.1; omega
          clear hA hB hL hiff hbN hk hl hd hg hb HS2
          cases A
          · have HN2 := Lib.hid (HNX.out false (by rw [← HI.out.1]; simp))
            clear HNX
            go_wp2_with fail
            refine wp_region_quiet_tail 28 (by kernel_rfl) (by kernel_rfl) ?_
            simp only [List.take_succ_cons, List.take_zero, List.drop_succ_cons, List.drop_zero]
            repeat (go_big_quiet_step (fail))
            refine wpQuiet_nil ?_
            go_wp2_with fail
            exact ⟨HN2.out.drewN 1, by have h1 := HI.out.2; simp [intOf]; omega⟩
          · cases B
            · have HN2 := Lib.hid (HNX.out false (by rw [← HI.out.1]; simp))
              clear HNX
              go_wp2_with fail
              refine wp_region_quiet_tail 28 (by kernel_rfl) (by kernel_rfl) ?_
              simp only [List.take_succ_cons, List.take_zero, List.drop_succ_cons, List.drop_zero]
              repeat (go_big_quiet_step (fail))
              refine wpQuiet_nil ?_
              go_wp2_with fail
              exact ⟨HN2.out.drewN 1, by have h1 := HI.out.2; simp [intOf]; omega⟩
            · by_cases hab : a = b
              · subst hab
                have HN2 := Lib.hid (HNX.out true (by rw [← HI.out.1]; simp))
                clear HNX
                go_wp2_with fail
                refine wp_region_quiet_tail 28 (by kernel_rfl) (by kernel_rfl) ?_
                simp only [List.take_succ_cons, List.take_zero, List.drop_succ_cons, List.drop_zero]
                repeat (go_big_quiet_step (fail))
                refine wpQuiet_nil ?_
                go_wp2_with fail
                exact ⟨HN2.out.drewN 1, by have h1 := HI.out.2; simp [intOf]; omega⟩
              · have f4 : ((a : Int) == (b : Int)) = false := by simp; omega
                cases L
                · have HN2 := Lib.hid (HNX.out true (by rw [← HI.out.1]; simp))
                  clear HNX
                  go_wp2_with fail
                  refine wp_region_quiet_tail 28 (by kernel_rfl) (by kernel_rfl) ?_
                  simp only [List.take_succ_cons, List.take_zero, List.drop_succ_cons, List.drop_zero]
                  repeat (go_big_quiet_step (fail))
                  refine wpQuiet_nil ?_
                  go_wp2_with fail
                  exact ⟨HN2.out.drewN 1, by have h1 := HI.out.2; simp [intOf]; omega⟩
                · have HN2 := Lib.hid (HNX.out false (by rw [← HI.out.1]; simp [hab]))
                  clear HNX
                  go_wp2_with fail
                  refine wp_region_quiet_tail 28 (by kernel_rfl) (by kernel_rfl) ?_
                  simp only [List.take_succ_cons, List.take_zero, List.drop_succ_cons, List.drop_zero]
                  repeat (go_big_quiet_step (fail))
                  refine wpQuiet_nil ?_
                  go_wp2_with fail
                  exact ⟨HN2.out.drewN 1, by have h1 := HI.out.2; simp [intOf]; omega⟩
        · have f0 : decide (b < N) = false := by simpa using hbN
          have HN2 := Lib.hid (show D1 w1 G N bo (I ((a : Int) + 1)) wr from ⟨a + 1, _, HD.out.2.2.2.2.2.2, rfl, H5.out.1.ko.other hg (by simp; exact HD.out.2.2.2.2.2.1), H5.out.1.vl, H5.out.1.lo, H5.out.1.be.grown hg H5.out.1.be.size (fun k hk => by cases hk; exact HRW.out.2), fun a' h1 h2 => by
            rcases Nat.lt_or_ge a' a with h3 | h3
            · obtain ⟨r', q1, q2, q3, bs', q4, q5, q6⟩ := HR5.out a' h3 h2
              exact ⟨r', q1, q2, bs', q4.other hg (by simp; exact q3), q5, q6⟩
            · obtain rfl : a' = a := by omega
              exact ⟨r, HD.out.2.1, fun e => HD.out.2.2.2.2.2.1 e.symm, bs, hk, hl, fun b' h4 => hd b' (by omega) h4⟩⟩)
          clear hbN hk hl hd hg hb HS2
          go_wp2_with fail
          exact ⟨HN2.out, by have h1 := HD.out.2.2.2.2.2.2; simp [intOf]; omega⟩
    · have d0 : decide (a < N) = false := by simpa using haN
      obtain rfl : a = N := by omega
      have FIN := Lib.hid (show DomsT w G a wr (.returned (.slice (some ⟨bo, 0, none⟩) a a)) from ⟨bo, vs, rfl, hD.ko, hD.vl, Nat.le_trans HA.out.2.2.2.1.size hD.lo, belowB HA.out.2.2.2.1 hD.be, hD.rw'⟩)
      clear hD haN ha HST
      go_wp2_with fail
      go_ret
      exact FIN.out
theorem Doms_any (bg cap N : Nat) (Z : List (List Int)) (base : Nat) (ht : TameZ Z) (he : errF Z = 0) (hN : N = Z.length) (hN0 : 0 < N) (w : World) (h : OwnG base Z (.slice (some ⟨bg, 0, none⟩) N cap) w) :
    Calls Try.prog 33 #[.slice (some ⟨bg, 0, none⟩) N cap] w fun e w' => DomsT w (natG Z) N w' e := by
  obtain ⟨bg', c', e, hg⟩ := grB_own h he (fun e => by rw [e] at hN; simp at hN; omega)
  cases e
  exact DomsG_any bg cap _ (natG Z) (natG_ok he) (natG_len Z) ht.1 hN0 ht.row w hg
end Go.Proofs.Ytjlmkcamefaodaa

/-! FIntoG: The document's own answer to who goes on to whom: the walk. -/

namespace Go.Proofs.Ytjlmkcamefaodaa
open Go Go.RowKit Fl

namespace Fl
def castL (l : List Nat) : List Int := l.map fun n : Nat => (n : Int)
def intoZ (G : List (List Nat)) (b : Nat) : List (List Int) := (List.range b).map (fun t => castL (rowSt G G.length 0 t))
theorem intoZ_succ (G : List (List Nat)) (b : Nat) : intoZ G (b + 1) = intoZ G b ++ [castL (rowSt G G.length 0 b)] := by simp [intoZ, List.range_succ]
def inP (G : List (List Nat)) (p t : Nat) : List Nat := (List.range p).filter (fun q => (row G q).contains t)
theorem inP_rowSt (G : List (List Nat)) (t : Nat) : inP G G.length t = rowSt G G.length 0 t := by simp [inP, rowSt]
theorem inP_yes {G : List (List Nat)} {p t : Nat} (h : (row G p).contains t = true) : inP G (p + 1) t = inP G p t ++ [p] := by
  unfold inP
  rw [List.range_succ, List.filter_append, List.filter_cons, if_pos h]
  rfl
theorem inP_no {G : List (List Nat)} {p t : Nat} (h : (row G p).contains t = false) : inP G (p + 1) t = inP G p t := by
  unfold inP
  rw [List.range_succ, List.filter_append, List.filter_cons, if_neg (by rw [h]; decide)]
  simp
theorem inP_len (G : List (List Nat)) (p t : Nat) : (inP G p t).length ≤ p := by
  have := List.length_filter_le (fun q => (row G q).contains t) (List.range p)
  rw [List.length_range] at this
  exact this
end Fl
theorem nums_numZ {w : World} {base : Nat} {v : Value} {l : List Nat} (h : Nums w base v l) : NumZ w base v (castL l) := by
  have e1 : (castL l).length = l.length := by simp [castL]
  have e2 : (castL l).map (Value.int .i64) = ints l := by simp [castL, List.map_map]
  show World.ownsRow _ _ _ _ _ _ _
  rw [e1, e2]
  exact h

def RI1 (w : World) (G : List (List Nat)) (ov iv : Value) (W : World) : Prop := ∃ b : Nat, b ≤ G.length ∧ iv = I (b : Int) ∧ OwnG w.heap.size (intoZ G b) ov W ∧ Below w.heap.size w W
def RI2 (wo : World) (G : List (List Nat)) (b : Nat) (lv pv : Value) (W : World) : Prop := ∃ p : Nat, p ≤ G.length ∧ pv = I (p : Int) ∧ Nums W wo.heap.size lv (inP G p b) ∧ Below wo.heap.size wo W

set_option maxRecDepth 100000 in
set_option maxHeartbeats 1600000 in
theorem refIntoG_any (bg cap n : Nat) (G : List (List Nat)) (hGl : G.length = n) (hn24 : n ≤ 150) (hGr : ∀ i, (row G i).length ≤ 1000) (w : World) (hgr : GrB w.heap.size w bg G) :
    Calls Try.prog 32 #[.slice (some ⟨bg, 0, none⟩) n cap] w fun e w' => ∃ u, e = .returned u ∧ OwnG w.heap.size (intoZ G G.length) u w' ∧ Below w.heap.size w w' := by
  obtain ⟨i0, hi, hz0, hz1, hz2⟩ := info_parts info_int'
  have HI := Lib.hid (And.intro hi (And.intro hz0 (And.intro hz1 hz2)))
  clear hi hz0 hz1 hz2
  obtain ⟨i1, hi, hz0, hz1, hz2⟩ := info_parts info_sl'
  have HI1 := Lib.hid (And.intro hi (And.intro hz0 (And.intro hz1 hz2)))
  clear hi hz0 hz1 hz2
  have HH := Lib.hid (And.intro hgr (And.intro hGl (And.intro hn24 hGr)))
  clear hgr hGl hGr
  go_enter Try.func32, Try.ntmps32
  go_wp2_with fail
  go_loopw [3, 13] (fun ov iv W => RI1 w G ov iv W) (fun _ iv _ => n - (intOf iv).toNat)
  case atStart => exact ⟨0, Nat.zero_le _, rfl, OwnG.start _ _, Below.refl _ _⟩
  case round =>
    obtain ⟨b, hb, rfl, hown, hbe⟩ := hrel
    obtain ⟨wo, rfl⟩ : ∃ wo : World, wo = wr := ⟨_, rfl⟩
    have H1 := Lib.hid (And.intro hown hbe)
    by_cases hbn : b < n
    · have d0 : decide (b < n) = true := by simpa using hbn
      have d1 : (b : Int) ≤ 150 := by omega
      have HB := Lib.hid hbn
      clear hown hbe hbn hb
      go_wp2_with fail
      go_loopw [5, 18] (fun lv pv W => RI2 wo G b lv pv W) (fun _ pv _ => n - (intOf pv).toNat)
      case atStart => exact ⟨0, Nat.zero_le _, rfl, World.ownsRow_nil _ _ _ _, Below.refl _ _⟩
      case round =>
        obtain ⟨p, hp, rfl, hno, hbe⟩ := hrel
        by_cases hpn : p < n
        · have hgb := (HH.out.1.below H1.out.2).up H1.out.2.size (Nat.le_refl _) |>.below hbe
          obtain ⟨rv, c0, hrv⟩ := hgb.row p (by rw [HH.out.2.1]; exact hpn)
          obtain ⟨L, hL⟩ : ∃ L, L = (row G p).length := ⟨_, rfl⟩
          obtain ⟨ra, rc, rfl⟩ : ∃ a c, rv = .slice a L c := by
            rcases hrv with ⟨e, e2⟩ | ⟨g, c, e, _⟩
            · exact ⟨_, _, by rw [e, hL, e2]; rfl⟩
            · exact ⟨_, _, by rw [e, hL]⟩
          have hLb : (L : Int) ≤ 1000 := by have := HH.out.2.2.2 p; omega
          have d2 : decide (p < n) = true := by simpa using hpn
          have d3 : (0 : Int) ≤ (p : Int) := by omega
          have d4 : (p : Int) < (n : Int) := by omega
          have d5 : (p : Int) ≤ 150 := by omega
          have HP := Lib.hid (And.intro hno (And.intro hbe (And.intro hrv (And.intro hL hpn))))
          clear hno hbe hgb hrv hL hpn hp
          go_wp2_with fail
          go_loop [8, 25] (fun gv jv => ∃ j : Nat, j ≤ L ∧ jv = I (j : Int) ∧ gv = .bool (((row G p).take j).contains b)) (fun _ jv => L - (intOf jv).toNat)
          case atStart => exact ⟨0, Nat.zero_le _, rfl, by simp⟩
          case round =>
            obtain ⟨j, hj, rfl, rfl⟩ := hrel
            by_cases hjl : j < L
            · have hjr : j < (row G p).length := by rw [← HP.out.2.2.2.1]; exact hjl
              obtain ⟨g, hra, c1⟩ : ∃ g, ra = some ⟨g, 0, none⟩ ∧ wr.cell? ⟨g, j, none⟩ = some (I (((row G p)[j] : Nat) : Int)) := by
                rcases HP.out.2.2.1 with ⟨e, e2⟩ | ⟨g, c, e, h1, h2⟩
                · rw [e2] at hjr; exact absurd hjr (by simp)
                · cases e; exact ⟨g, rfl, h2 j hjr⟩
              subst hra
              obtain ⟨x, hx⟩ : ∃ x, x = (row G p)[j] := ⟨_, rfl⟩
              rw [← hx] at c1
              have hsu := take_succ_has (row G p) j b hjr
              rw [← hx] at hsu
              have d6 : decide (j < L) = true := by simpa using hjl
              have d7 : (0 : Int) ≤ (j : Int) := by omega
              have d8 : (j : Int) < (L : Int) := by omega
              have HX := Lib.hid (And.intro hsu hjl)
              obtain ⟨q, hq⟩ : ∃ q, q = ((row G p).take j).contains b := ⟨_, rfl⟩
              rw [← hq] at HX ⊢
              clear hx hsu hjl hjr hq hj
              cases q
              · by_cases hxb : x = b
                · have g1 : ((x : Int) == (b : Int)) = true := by rw [hxb]; simp
                  have HN := Lib.hid (show Value.bool true = .bool (((row G p).take (j + 1)).contains b) by rw [HX.out.1, hxb]; simp)
                  clear hxb
                  go_wp2_with fail
                  go_round
                  case rel => exact ⟨j + 1, HX.out.2, by go_num, HN.out⟩
                  case measure => have := HX.out.2; simp [intOf]; omega
                · have g1 : ((x : Int) == (b : Int)) = false := by simp; omega
                  have HN := Lib.hid (show Value.bool false = .bool (((row G p).take (j + 1)).contains b) by rw [HX.out.1]; simp; exact fun e => hxb e.symm)
                  clear hxb
                  go_wp2_with fail
                  go_round
                  case rel => exact ⟨j + 1, HX.out.2, by go_num, HN.out⟩
                  case measure => have := HX.out.2; simp [intOf]; omega
              · have HN := Lib.hid (show Value.bool true = .bool (((row G p).take (j + 1)).contains b) by rw [HX.out.1]; simp)
                go_wp2_with fail
                go_round
                case rel => exact ⟨j + 1, HX.out.2, by go_num, HN.out⟩
                case measure => have := HX.out.2; simp [intOf]; omega
            · have d6 : decide (j < L) = false := by simpa using hjl
              have hte : (row G p).take j = row G p := List.take_of_length_le (by rw [← HP.out.2.2.2.1]; omega)
              rw [hte]
              obtain ⟨q, hq⟩ : ∃ q, q = (row G p).contains b := ⟨_, rfl⟩
              rw [← hq]
              have HQ := Lib.hid hq.symm
              clear hjl hte hq hj
              cases q
              · have HN := Lib.hid (show RI2 wo G b u5 (I ((p : Int) + 1)) wr from ⟨p + 1, by have h1 := HP.out.2.2.2.2; have h2 := HH.out.2.1; omega, rfl, by rw [inP_no HQ.out]; exact HP.out.1, HP.out.2.1⟩)
                go_wp2_with fail
                exact ⟨HN.out, by have h1 := HP.out.2.2.2.2; simp [intOf]; omega⟩
              · obtain ⟨s5, m5, k5, hu5⟩ : ∃ a m c, u5 = .slice a m c := by
                  rcases own_slice HP.out.1 with ⟨h, _⟩ | ⟨g, cap, h⟩
                  · exact ⟨_, _, _, h⟩
                  · exact ⟨_, _, _, h⟩
                obtain ⟨r, hr⟩ : ∃ r, r = inP G p b := ⟨_, rfl⟩
                have hrl : r.length ≤ 150 := by rw [hr]; have h1 := inP_len G p b; have h2 := HP.out.2.2.2.2; have h3 := HH.out.2.2.1; omega
                have HPr : Hid (Nums wr wo.heap.size u5 r) := by rw [hr]; exact HP.out.1
                have HR := Lib.hid (And.intro hr hrl)
                rw [hu5] at HPr
                have HP2 := Lib.hid HP.out.2
                clear HP
                subst hu5
                clear hr hrl
                go_wp2_with (first | (at_builtin; refine Hid.out ?_) | go_in)
                unfold Hid
                refine wpList_append_own_at _ rfl _ _ 41 rfl wo.heap.size 3 i0 (I 0) 1 8 Try.underlying41 HI.out.1 HI.out.2.1 HI.out.2.2.1 HI.out.2.2.2 rfl (by decide) (.slice s5 m5 k5) r.length (ints r) rfl (HPr.out.alloc _) ⟨wr.heap.size, 0, none⟩ 1 1 [I (p : Int)] rfl rfl (cell_one_new _ _ _) (by simp [Value.oneCell']) (by have := HR.out.2; unfold maxLen; omega) (by have := HR.out.2; omega) (by have := HP2.out.1.size; simp; omega) ?_
                intro v' w4 hn4 hg _ hat
                have HN := Lib.hid (show RI2 wo G b v' (I ((p : Int) + 1)) w4 from ⟨p + 1, by have h1 := HP2.out.2.2.2; have h2 := HH.out.2.1; omega, rfl, by
                  rw [inP_yes HQ.out, ← HR.out.1]
                  show World.ownsRow _ _ _ _ _ _ _
                  rw [List.length_append]
                  simpa using hn4, (HP2.out.1.alloc HP2.out.1.size _).grown hg (by have := HP2.out.1.size; simp; omega) (fun k hk => (HPr.out.lt k hk).1)⟩)
                clear hn4 hg hat
                go_wp2_with fail
                exact ⟨HN.out, by have h1 := HP2.out.2.2.2; simp [intOf]; omega⟩
        · have d2 : decide (p < n) = false := by simpa using hpn
          have hpe : p = G.length := by have := HH.out.2.1; omega
          rw [hpe, inP_rowSt] at hno
          have hN2 : NumZ wr w.heap.size u5 (castL (rowSt G G.length 0 b)) := nums_numZ (own_lower H1.out.2.size hno)
          have hO2 := H1.out.1.below hbe
          have hne1 : u5.ownBlock = none ∨ u5.ownBlock ≠ u3.ownBlock := by
            cases hob : u5.ownBlock with
            | none => exact Or.inl rfl
            | some g =>
              right
              intro e
              have h5 := (hno.lt g hob).1
              obtain ⟨vs0, z1, z2, z3⟩ := H1.out.1
              have := (z2.lt g e.symm).2
              omega
          obtain ⟨s5, m5, k5, hu5⟩ : ∃ a m c, u5 = .slice a m c := by
            rcases own_slice hno with ⟨h, _⟩ | ⟨g, cap, h⟩
            · exact ⟨_, _, _, h⟩
            · exact ⟨_, _, _, h⟩
          obtain ⟨vs, q1, q2, q3⟩ := hO2
          obtain ⟨s3, m3, k3, hu3⟩ : ∃ a m c, u3 = .slice a m c := by
            rcases own_slice q2 with ⟨h, _⟩ | ⟨g, cap, h⟩
            · exact ⟨_, _, _, h⟩
            · exact ⟨_, _, _, h⟩
          obtain ⟨lj, hlj⟩ : ∃ k, k = (intoZ G b).length := ⟨_, rfl⟩
          have hljb : lj ≤ 1000 := by rw [hlj]; simp [intoZ]; have := HB.out; omega
          rw [← hlj] at q2
          have H2 := Lib.hid (And.intro hbe (And.intro hN2 (And.intro hne1 (And.intro hlj (And.intro hljb (And.intro q2 (H1.out.1.below hbe)))))))
          rw [hu5, hu3] at H2
          subst hu5 hu3
          clear hbe hN2 hne1 hlj hljb q1 q2 q3 hno hpe hpn hp
          go_wp2_with (first | (at_builtin; refine Hid.out ?_) | go_in)
          unfold Hid
          refine wpList_append_own_at _ rfl _ _ 62 rfl w.heap.size 41 i1 (.slice none 0 0) 1 24 Try.underlying62 HI1.out.1 HI1.out.2.1 HI1.out.2.2.1 HI1.out.2.2.2 rfl (by decide) (.slice s3 m3 k3) lj vs rfl (H2.out.2.2.2.2.2.1.alloc _) ⟨wr.heap.size, 0, none⟩ 1 1 [.slice s5 m5 k5] rfl rfl (cell_one_new _ _ _) (by simp [Value.oneCell']) (by have := H2.out.2.2.2.2.1; unfold maxLen; omega) (by have := H2.out.2.2.2.2.1; omega) (by have h1 := H2.out.1.size; have h2 := H1.out.2.size; simp; omega) ?_
          intro v' w4 ho hg _ hat
          have HN := Lib.hid (show RI1 w G v' (I ((b : Int) + 1)) w4 by
            refine ⟨b + 1, by have h1 := HH.out.2.1; have h2 := HB.out; omega, rfl, ?_, ?_⟩
            · rw [intoZ_succ]
              refine OwnG.app H2.out.2.2.2.2.2.2 H2.out.2.1 H2.out.2.2.1 hg (fun vs' _ h2 => ?_) hat
              rw [← H2.out.2.2.2.1] at h2 ⊢
              rw [own_same' h2 H2.out.2.2.2.2.2.1]
              exact ho
            · have hw2 := belowB H1.out.2 H2.out.1
              exact (hw2.alloc hw2.size _).grown hg (by have := hw2.size; simp; omega) (fun k hk => (H2.out.2.2.2.2.2.1.lt k hk).1))
          clear ho hg hat
          go_wp2_with fail
          exact ⟨HN.out, by have h2 := HB.out; simp [intOf]; omega⟩
    · have d0 : decide (b < n) = false := by simpa using hbn
      have hbe' : b = G.length := by have := HH.out.2.1; omega
      have FIN := Lib.hid (show OwnG w.heap.size (intoZ G G.length) u3 wo ∧ Below w.heap.size w wo by rw [← hbe']; exact ⟨hown, hbe⟩)
      clear hown hbe hbn hb hbe'
      go_wp2_with fail
      go_ret
      exact ⟨_, rfl, FIN.out⟩
end Go.Proofs.Ytjlmkcamefaodaa
