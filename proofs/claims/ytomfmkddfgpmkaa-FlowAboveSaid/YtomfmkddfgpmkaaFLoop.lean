/-
  Joined: FLp, FLp2.
-/
import Derived.Test.YtomfmkddfgpmkaaFBack
import Derived.Test.YtomfmkddfgpmkaaFOvers
/-! The loops of a graph, plainly and in memory. -/

namespace Go.Proofs.Ytomfmkddfgpmkaa
open Go Go.RowKit Fl

namespace Fl
/-- Those that go on to a head from below it. -/
def endsF (F : List (List Nat)) (ov : Nat → Nat → Bool) (h : Nat) : List Nat := (row F h).filter (fun n => ov h n)
/-- The loop of a head, if there is one. -/
def loopAt (F : List (List Nat)) (N : Nat) (ov : Nat → Nat → Bool) (h : Nat) : Option (Nat × List Nat) :=
  if endsF F ov h = [] then none else (bkF F (muB N N (endsF F ov h) [h] + 1) (endsF F ov h) [h]).map (fun sn => (h, sortN sn))
/-- The loops of the first heads. -/
def loopL (F : List (List Nat)) (N : Nat) (ov : Nat → Nat → Bool) (j : Nat) : List (Nat × List Nat) := (List.range j).filterMap (loopAt F N ov)
theorem loopL_none {F : List (List Nat)} {N : Nat} {ov : Nat → Nat → Bool} {j : Nat} (h : endsF F ov j = []) : loopL F N ov (j + 1) = loopL F N ov j := by
  unfold loopL
  rw [List.range_succ, List.filterMap_append]
  simp [loopAt, h]
theorem loopL_some {F : List (List Nat)} {N : Nat} {ov : Nat → Nat → Bool} {j : Nat} {sn : List Nat} (h : endsF F ov j ≠ []) (hb : bkF F (muB N N (endsF F ov j) [j] + 1) (endsF F ov j) [j] = some sn) : loopL F N ov (j + 1) = loopL F N ov j ++ [(j, sortN sn)] := by
  unfold loopL
  rw [List.range_succ, List.filterMap_append]
  simp [loopAt, h, hb]
theorem loopL_len (F : List (List Nat)) (N : Nat) (ov : Nat → Nat → Bool) (j : Nat) : (loopL F N ov j).length ≤ j := by
  unfold loopL
  have := List.length_filterMap_le (loopAt F N ov) (List.range j)
  simpa using this
/-- How loops lie as cells. -/
def cellsL : List (Nat × List Nat) → List Value → List Value
  | p :: r, v :: vs => I (p.1 : Int) :: v :: cellsL r vs
  | _, _ => []
theorem cellsL_app : ∀ (ls : List (Nat × List Nat)) (vs : List Value) (p : Nat × List Nat) (v : Value), vs.length = ls.length → cellsL (ls ++ [p]) (vs ++ [v]) = cellsL ls vs ++ [I (p.1 : Int), v]
  | [], [], _, _, _ => rfl
  | [], _ :: _, _, _, h => by simp at h
  | _ :: _, [], _, _, h => by simp at h
  | q :: r, u :: us, p, v, h => by
    show I (q.1 : Int) :: u :: cellsL (r ++ [p]) (us ++ [v]) = _
    rw [cellsL_app r us p v (by simpa using h)]
    rfl
theorem cellsL_len : ∀ (ls : List (Nat × List Nat)) (vs : List Value), vs.length = ls.length → (cellsL ls vs).length = ls.length * 2
  | [], [], _ => rfl
  | [], _ :: _, h => by simp at h
  | _ :: _, [], h => by simp at h
  | q :: r, u :: us, h => by
    show (cellsL r us).length + 1 + 1 = (r.length + 1) * 2
    rw [cellsL_len r us (by simpa using h)]
    omega
theorem cellsL_get : ∀ (ls : List (Nat × List Nat)) (vs : List Value) (i : Nat), vs.length = ls.length → ∀ (h : i < ls.length) (h' : i < vs.length), (cellsL ls vs)[2 * i]? = some (I (ls[i].1 : Int)) ∧ (cellsL ls vs)[2 * i + 1]? = some vs[i]
  | [], _, _, _, h, _ => absurd h (by simp)
  | _ :: _, [], _, _, _, h' => absurd h' (by simp)
  | _ :: _, _ :: _, 0, _, _, _ => ⟨rfl, rfl⟩
  | q :: r, u :: us, i + 1, hl, h, h' => by
    have := cellsL_get r us i (by simpa using hl) (by simpa using h) (by simpa using h')
    refine ⟨?_, ?_⟩
    · rw [show 2 * (i + 1) = 2 * i + 1 + 1 by omega]
      exact this.1
    · rw [show 2 * (i + 1) + 1 = 2 * i + 1 + 1 + 1 by omega]
      exact this.2
end Fl

/-- Loops in memory. -/
def LoopsW (base : Nat) (ls : List (Nat × List Nat)) (v : Value) (W : World) : Prop :=
  ∃ vs : List Value, vs.length = ls.length ∧ W.ownsRow base 42 2 v ls.length (cellsL ls vs) ∧ ∀ i (h : i < ls.length) (h' : i < vs.length), Nums W base vs[i] ls[i].2 ∧ (vs[i].ownBlock = none ∨ vs[i].ownBlock ≠ v.ownBlock)
theorem LoopsW.below {base : Nat} {ls : List (Nat × List Nat)} {v : Value} {W W' : World} (h : LoopsW base ls v W) (hb : Below W.heap.size W W') : LoopsW base ls v W' := by
  obtain ⟨vs, h1, h2, h3⟩ := h
  exact ⟨vs, h1, own_below h2 hb, fun i hi hi' => ⟨own_below (h3 i hi hi').1 hb, (h3 i hi hi').2⟩⟩
theorem LoopsW.lower {base base' : Nat} {ls : List (Nat × List Nat)} {v : Value} {W : World} (h : LoopsW base ls v W) (hb : base' ≤ base) : LoopsW base' ls v W := by
  obtain ⟨vs, h1, h2, h3⟩ := h
  exact ⟨vs, h1, own_lower hb h2, fun i hi hi' => ⟨own_lower hb (h3 i hi hi').1, (h3 i hi hi').2⟩⟩
theorem LoopsW.start (base : Nat) (W : World) : LoopsW base [] (.slice none 0 0) W := ⟨[], rfl, World.ownsRow_nil _ _ _ _, fun i hi => absurd hi (by simp)⟩
/-- One more. -/
theorem LoopsW.app {base : Nat} {ls : List (Nat × List Nat)} {v u nv : Value} {W W4 : World} {o : Obj} {p : Nat × List Nat} (h : LoopsW base ls v W) (hn : Nums W base nv p.2) (hne : nv.ownBlock = none ∨ nv.ownBlock ≠ v.ownBlock) (hg : (W.alloc o).grownBy W4 v.ownBlock)
    (ho : ∀ vs : List Value, vs.length = ls.length → W.ownsRow base 42 2 v ls.length (cellsL ls vs) → W4.ownsRow base 42 2 u (ls.length + 1) (cellsL ls vs ++ [I (p.1 : Int), nv])) (hat : u.ownBlock = v.ownBlock ∨ u.ownBlock = some (W.alloc o).heap.size) : LoopsW base (ls ++ [p]) u W4 := by
  obtain ⟨vs, h1, h2, h3⟩ := h
  have hap : ∀ {x : Value} {l : List Nat}, Nums W base x l → (x.ownBlock = none ∨ x.ownBlock ≠ v.ownBlock) → Nums W4 base x l ∧ (x.ownBlock = none ∨ x.ownBlock ≠ u.ownBlock) := fun {x l} hx hxn => by
    refine ⟨World.ownsRow.kept (hx.alloc o) hg hxn, ?_⟩
    rcases hat with e | e
    · rw [e]; exact hxn
    · cases hxb : x.ownBlock with
      | none => exact Or.inl rfl
      | some g =>
        right
        rw [e]
        have := (hx.lt g hxb).2
        simp
        omega
  refine ⟨vs ++ [nv], by simp [h1], ?_, fun i hi hi' => ?_⟩
  · rw [List.length_append, cellsL_app ls vs p nv h1]
    exact ho vs h1 h2
  · by_cases hl : i < ls.length
    · rw [List.getElem_append_left (by omega), List.getElem_append_left hl]
      exact hap (h3 i hl (by omega)).1 (h3 i hl (by omega)).2
    · have e : i = ls.length := by simp at hi; omega
      subst e
      rw [List.getElem_append_right (by omega), List.getElem_append_right (by omega)]
      simp only [h1, Nat.sub_self, List.getElem_singleton]
      exact hap hn hne
end Go.Proofs.Ytomfmkddfgpmkaa

/-! The loops of a graph: the walk. -/

namespace Go.Proofs.Ytomfmkddfgpmkaa
open Go Go.RowKit Fl

theorem info_loop : (Try.prog.info? 42).map (fun i => (i.zero, i.size, i.bytes)) = some (some (.agg #[I 0, .slice none 0 0]), 2, 32) := by kernel_rfl
theorem GrB.up {base base' : Nat} {w : World} {bl : Nat} {F : List (List Nat)} (h : GrB base w bl F) (hb : base ≤ base') (hw : base' ≤ w.heap.size) : GrB base' w bl F :=
  ⟨Nat.lt_of_lt_of_le h.lt hb, hw, fun i hi => by
    obtain ⟨v, h1, h2⟩ := h.row i hi
    refine ⟨v, h1, ?_⟩
    rcases h2 with h2 | ⟨g, c, e, hg, h2⟩
    · exact Or.inl h2
    · exact Or.inr ⟨g, c, e, Nat.lt_of_lt_of_le hg hb, h2⟩⟩

theorem own_same {w : World} {base E size n : Nat} {v : Value} {xs ys : List Value} (h : w.ownsRow base E size v n xs) (h' : w.ownsRow base E size v n ys) : xs = ys := by
  rcases h.2 with ⟨h1, h2⟩ | ⟨g, cap, cur, hv, _, hb, _, _, _, ht⟩
  · have e1 := h.1
    have e2 := h'.1
    rw [h2, Nat.zero_mul] at e1 e2
    rw [List.length_eq_zero_iff.1 e1, List.length_eq_zero_iff.1 e2]
  · rcases h'.2 with ⟨h1, _⟩ | ⟨g', cap', cur', hv', _, hb', _, _, _, ht'⟩
    · rw [hv] at h1; cases h1
    · rw [hv] at hv'
      cases hv'
      rw [hb] at hb'
      cases hb'
      rw [← ht, ← ht']
/-- After some heads. -/
def LpR (w : World) (bx p z N : Nat) (F : List (List Nat)) (ov : Nat → Nat → Bool) (lv iv : Value) (W : World) : Prop :=
  ∃ j : Nat, j ≤ N ∧ iv = I (j : Int) ∧ LoopsW w.heap.size (loopL F N ov j) lv W ∧ Below w.heap.size w W ∧ Blk bx #[.slice (some ⟨p, 0, none⟩) N N, .slice (some ⟨z, 0, none⟩) N N] 58 W ∧ (∀ k, lv.ownBlock = some k → w.heap.size ≤ k ∧ k ≠ bx)
def EndR (Wo : World) (F : List (List Nat)) (ov : Nat → Nat → Bool) (h : Nat) (ev jv : Value) (W : World) : Prop :=
  ∃ i : Nat, i ≤ (row F h).length ∧ jv = I (i : Int) ∧ Nums W Wo.heap.size ev (((row F h).take i).filter (fun n => ov h n)) ∧ Below Wo.heap.size Wo W
/-- Where what a round has done stands behind what there was. -/
theorem below_of {w wo W : World} (h : Below w.heap.size w wo) (hb : Below wo.heap.size wo W) : Below w.heap.size w W :=
  ⟨hb.os.trans h.os, hb.tape.trans h.tape, hb.output.trans h.output, Nat.le_trans h.size hb.size, fun k hk => (hb.block k (Nat.lt_of_lt_of_le hk h.size)).trans (h.block k hk)⟩
theorem ends_len {F : List (List Nat)} {ov : Nat → Nat → Bool} {h N : Nat} (hr : (row F h).length ≤ N) : (endsF F ov h).length ≤ N := Nat.le_trans (List.length_filter_le _ _) hr
theorem mu_small {N : Nat} {es : List Nat} {j : Nat} (hN : N ≤ 1000) (hl : es.length ≤ N) : muB N N es [j] ≤ 100000000 := by
  unfold muB
  have h1 : (N - [j].length) * N ≤ 1000 * 1000 := Nat.mul_le_mul (by omega) hN
  omega
def LoopsT (w : World) (ls : List (Nat × List Nat)) (W : World) (e : Ending) : Prop := ∃ v, e = .returned v ∧ LoopsW w.heap.size ls v W ∧ Below w.heap.size w W

set_option maxRecDepth 100000 in
set_option maxHeartbeats 1600000 in
theorem loops_any (p z N bl cap : Nat) (P : List Int) (S : List Nat) (F : List (List Nat)) (hN : N ≤ 1000) (hP : ∀ x, x < N → -1 ≤ P.getD x 0 ∧ P.getD x 0 ≤ 1000000000000) (hS : ∀ x, x < N → ((S.getD x 0 : Nat) : Int) ≤ 1000000000000) (hl : P.length = N ∧ S.length = N)
    (hF : F.length = N) (hrow : ∀ i, (row F i).length ≤ N) (hlt : ∀ i, ∀ x ∈ row F i, x < N) (w : World) (kp : Blk p (arrZ P) 3 w) (kz : Blk z (arrN S) 3 w) (h : GrB w.heap.size w bl F) :
    Calls Try.prog 34 #[forestN p z N, .slice (some ⟨bl, 0, none⟩) N cap] w fun e w' => LoopsT w (loopL F N (overB P S) N) w' e := by
  obtain ⟨i0, hi, hz0, hz1, hz2⟩ := info_parts info_int'
  have HI := Lib.hid (And.intro hi (And.intro hz0 (And.intro hz1 hz2)))
  clear hi hz0 hz1 hz2
  obtain ⟨i1, hi, hz0, hz1, hz2⟩ := info_parts info_loop
  have HI1 := Lib.hid (And.intro hi (And.intro hz0 (And.intro hz1 hz2)))
  obtain ⟨W, hW⟩ : ∃ W, W = w.alloc (.cells #[.slice (some ⟨p, 0, none⟩) N N, .slice (some ⟨z, 0, none⟩) N N] 58) := ⟨_, rfl⟩
  obtain ⟨bx, hbx⟩ : ∃ b, b = w.heap.size := ⟨_, rfl⟩
  obtain ⟨ov, hov⟩ : ∃ ov, ov = overB P S := ⟨_, rfl⟩
  have HST := Lib.hid (show LpR w bx p z N F ov (.slice none 0 0) (I 0) W from ⟨0, Nat.zero_le _, rfl, LoopsW.start _ _, by rw [hW]; exact (Below.refl _ _).alloc (Nat.le_refl _) _, by rw [hbx, hW]; exact Blk.new _ _ _, fun k hk => by cases hk⟩)
  have HW := Lib.hid (And.intro hW hbx)
  have HH := Lib.hid (And.intro kp (And.intro kz (And.intro h (And.intro hP (And.intro hS (And.intro hl (And.intro hF (And.intro hrow (And.intro hlt hov)))))))))
  rw [← hov]
  clear hi hz0 hz1 hz2 hW hbx kp kz h hP hS hl hF hrow hlt hov
  go_enter Try.func34, Try.ntmps34
  go_upto_region 3 with (fail)
  rw [← HW.out.2]
  change Code.wp _ _ _ _ (w.alloc (.cells #[.slice (some ⟨p, 0, none⟩) N N, .slice (some ⟨z, 0, none⟩) N N] 58))
  rw [← HW.out.1]
  go_wp2_with fail
  go_loopw [5, 12] (fun lv iv W => LpR w bx p z N F ov lv iv W) (fun _ iv _ => N - (intOf iv).toNat)
  case atStart => exact HST.out
  case round =>
    obtain ⟨j, hj, rfl, hls, hbe, hkb, hlv⟩ := hrel
    obtain ⟨wo, rfl⟩ : ∃ wo : World, wo = wr := ⟨_, rfl⟩
    have H1 := Lib.hid (And.intro hls (And.intro hbe (And.intro hkb hlv)))
    by_cases hjn : j < N
    · have hgb := HH.out.2.2.1.below hbe
      obtain ⟨rv, c0, hrv⟩ := hgb.row j (by rw [HH.out.2.2.2.2.2.2.1]; exact hjn)
      obtain ⟨L, hL⟩ : ∃ L, L = (row F j).length := ⟨_, rfl⟩
      obtain ⟨ra, rc, rfl⟩ : ∃ a c, rv = .slice a L c := by
        rcases hrv with ⟨e, e2⟩ | ⟨g, c, e, _⟩
        · exact ⟨_, _, by rw [e, hL, e2]; rfl⟩
        · exact ⟨_, _, by rw [e, hL]⟩
      have HR := Lib.hid (And.intro hrv (And.intro hL (And.intro hgb hjn)))
      have hLN : L ≤ N := by rw [hL]; exact HH.out.2.2.2.2.2.2.2.1 j
      have d0 : decide (j < N) = true := by simpa using hjn
      have d1 : (0 : Int) ≤ (j : Int) := by omega
      have d2 : (j : Int) < (N : Int) := by omega
      have HJ := Lib.hid (show EndR wo F ov j (.slice none 0 0) (I 0) wo from ⟨0, Nat.zero_le _, rfl, World.ownsRow_nil _ _ _ _, Below.refl _ _⟩)
      clear hls hbe hkb hlv hgb hrv hL hjn hj
      go_wp2_with fail
      go_loopw [7, 20] (fun ev jv W => EndR wo F ov j ev jv W) (fun _ jv _ => L - (intOf jv).toNat)
      case atStart => exact HJ.out
      case round =>
        obtain ⟨i, hi, rfl, hev, hbe⟩ := hrel
        have H2 := Lib.hid (And.intro hev (And.intro hbe hi))
        by_cases hil : i < L
        · have hir : i < (row F j).length := by rw [← HR.out.2.1]; exact hil
          obtain ⟨g, hra, hgl, hcs⟩ : ∃ g, ra = some ⟨g, 0, none⟩ ∧ g < w.heap.size ∧ ∀ q (h : q < (row F j).length), wo.cell? ⟨g, q, none⟩ = some (I ((row F j)[q] : Int)) := by
            rcases HR.out.1 with ⟨e, e2⟩ | ⟨g, c, e, h1, h2⟩
            · rw [e2] at hir; exact absurd hir (by simp)
            · cases e; exact ⟨g, rfl, h1, h2⟩
          subst hra
          obtain ⟨t, ht⟩ : ∃ t, t = (row F j)[i] := ⟨_, rfl⟩
          have c1 : wr.cell? ⟨g, i, none⟩ = some (I (t : Int)) := by
            rw [ht]; exact cell_belowB hbe (Nat.lt_of_lt_of_le hgl H1.out.2.1.size) (hcs i hir)
          have htN : t < N := by rw [ht]; exact HH.out.2.2.2.2.2.2.2.2.1 j _ (List.getElem_mem hir)
          have hk2 := H1.out.2.2.1.below hbe H1.out.2.2.1.lt
          have hbw : Below w.heap.size w wr := ⟨hbe.os.trans H1.out.2.1.os, hbe.tape.trans H1.out.2.1.tape, hbe.output.trans H1.out.2.1.output, Nat.le_trans H1.out.2.1.size hbe.size, fun k hk => (hbe.block k (Nat.lt_of_lt_of_le hk H1.out.2.1.size)).trans (H1.out.2.1.block k hk)⟩
          have HO := Lib.hid (Over_any p z N j t P S HR.out.2.2.2 htN HH.out.2.2.2.1 HH.out.2.2.2.2.1 wr (HH.out.1.below hbw HH.out.1.lt) (HH.out.2.1.below hbw HH.out.2.1.lt) HH.out.2.2.2.2.2.1)
          have g0 : decide (i < L) = true := by simpa using hil
          have g1 : (0 : Int) ≤ (i : Int) := by omega
          have g2 : (i : Int) < (L : Int) := by omega
          have x0 := hk2.get 0 (.slice (some ⟨p, 0, none⟩) N N) rfl
          have x1 := hk2.get 1 (.slice (some ⟨z, 0, none⟩) N N) rfl
          have ht' : (row F j)[i]? = some t := by rw [ht]; exact List.getElem?_eq_getElem hir
          have HX := Lib.hid (And.intro hir (And.intro ht' (And.intro htN (And.intro hk2 hbw))))
          clear hev hbe hgl hcs ht ht' htN hbw hk2 hil hi hir HST HJ
          go_wp2_with fail
          refine HO.out.mono ?_
          rintro e w2 ⟨rfl, hb2⟩
          have hev2 : Nums w2 wo.heap.size u7 (((row F j).take i).filter (fun n => ov j n)) := own_below H2.out.1 hb2
          have hbe2 : Below wo.heap.size wo w2 := ⟨hb2.os.trans H2.out.2.1.os, hb2.tape.trans H2.out.2.1.tape, hb2.output.trans H2.out.2.1.output, Nat.le_trans H2.out.2.1.size hb2.size, fun k hk => (hb2.block k (Nat.lt_of_lt_of_le hk H2.out.2.1.size)).trans (H2.out.2.1.block k hk)⟩
          obtain ⟨q, hq⟩ : ∃ q, q = overB P S j t := ⟨_, rfl⟩
          rw [← hq]
          have htk : (row F j).take (i + 1) = (row F j).take i ++ [t] := by rw [List.take_add_one, HX.out.2.1]; rfl
          have hqo : ov j t = q := by rw [hq, HH.out.2.2.2.2.2.2.2.2.2]
          have H3 := Lib.hid (And.intro hev2 (And.intro hbe2 (And.intro htk hqo)))
          clear hb2 hev2 hbe2 htk hqo hq HO
          cases q
          · have HN := Lib.hid (show EndR wo F ov j u7 (I ((i : Int) + 1)) w2 from ⟨i + 1, HX.out.1, rfl, by rw [H3.out.2.2.1, List.filter_append]; simpa [H3.out.2.2.2] using H3.out.1, H3.out.2.1⟩)
            go_wp2_with fail
            exact ⟨HN.out, by have := HR.out.2.1; have := HX.out.1; simp [intOf]; omega⟩
          · obtain ⟨s1, m1, k1, hu⟩ : ∃ a m c, u7 = .slice a m c := by
              rcases own_slice H3.out.1 with ⟨h, _⟩ | ⟨g, cap, h⟩
              · exact ⟨_, _, _, h⟩
              · exact ⟨_, _, _, h⟩
            rw [hu] at H3
            subst hu
            obtain ⟨ns, hns⟩ : ∃ ns, ns = ((row F j).take i).filter (fun n => ov j n) := ⟨_, rfl⟩
            rw [← hns] at H3
            have hnl : ns.length ≤ N := by
              rw [hns]
              have h1 := List.length_filter_le (fun n => ov j n) ((row F j).take i)
              have h2 := HH.out.2.2.2.2.2.2.2.1 j
              rw [List.length_take] at h1
              omega
            have HNS := Lib.hid (And.intro hns hnl)
            clear hns hnl
            go_wp2_with (first | (at_builtin; refine Hid.out ?_) | go_in)
            unfold Hid
            refine wpList_append_own_at _ rfl _ _ 25 rfl wo.heap.size 3 i0 (I 0) 1 8 Try.underlying25 HI.out.1 HI.out.2.1 HI.out.2.2.1 HI.out.2.2.2 rfl (by decide) (.slice s1 m1 k1) ns.length (ints ns) rfl (H3.out.1.alloc _) ⟨w2.heap.size, 0, none⟩ 1 1 [I (t : Int)] rfl rfl (cell_one_new _ _ _) (by simp [Value.oneCell']) (by have := HNS.out.2; unfold maxLen; omega) (by have := HNS.out.2; omega) (by have := H3.out.2.1.size; simp; omega) ?_
            intro v' w4 ho hg _ hat
            have HN := Lib.hid (show EndR wo F ov j v' (I ((i : Int) + 1)) w4 from ⟨i + 1, HX.out.1, rfl, by
                rw [H3.out.2.2.1, List.filter_append, ← HNS.out.1]
                show World.ownsRow _ _ _ _ _ _ _
                simpa [H3.out.2.2.2] using ho,
              (H3.out.2.1.alloc H3.out.2.1.size _).grown hg (by have := H3.out.2.1.size; simp; omega) (fun k hk => (H3.out.1.lt k hk).1)⟩)
            clear ho hg hat
            go_wp2_with fail
            exact ⟨HN.out, by have := HR.out.2.1; have := HX.out.1; simp [intOf]; omega⟩
        · have g0 : decide (i < L) = false := by simpa using hil
          have hie : (row F j).take i = row F j := List.take_of_length_le (by rw [← HR.out.2.1]; omega)
          rw [hie] at hev
          have hev' : Nums wr wo.heap.size u7 (endsF F ov j) := hev
          have HE := Lib.hid (And.intro hev' hbe)
          clear hev hev' hbe hie hil hi H2
          obtain ⟨es, hes⟩ : ∃ es, es = endsF F ov j := ⟨_, rfl⟩
          rw [← hes] at HE
          by_cases he0 : es = []
          · have HN := Lib.hid (show LpR w bx p z N F ov u5 (I ((j : Int) + 1)) wr from ⟨j + 1, HR.out.2.2.2, rfl, by rw [loopL_none (by rw [← hes, he0])]; exact H1.out.1.below HE.out.2, below_of H1.out.2.1 HE.out.2, H1.out.2.2.1.below HE.out.2 H1.out.2.2.1.lt, H1.out.2.2.2⟩)
            obtain ⟨s1, k1, hu⟩ : ∃ a c, u7 = .slice a 0 c := by
              rcases own_slice HE.out.1 with ⟨h, _⟩ | ⟨g, cap, h⟩
              · exact ⟨_, _, h⟩
              · exact ⟨_, _, by rw [h, he0]; rfl⟩
            subst hu
            clear he0 hes HJ HST HE
            go_wp2_with fail
            exact ⟨HN.out, by have := HR.out.2.2.2; simp [intOf]; omega⟩
          · obtain ⟨m, hm⟩ : ∃ m, es.length = m + 1 := ⟨es.length - 1, by have := List.length_pos_iff.2 he0; omega⟩
            obtain ⟨s1, k1, hu⟩ : ∃ a c, u7 = .slice a (m + 1) c := by
              rcases own_slice HE.out.1 with ⟨_, h⟩ | ⟨g, cap, h⟩
              · omega
              · exact ⟨_, _, by rw [h, hm]⟩
            have hel : es.length ≤ N := by rw [hes]; exact ends_len (HH.out.2.2.2.2.2.2.2.1 j)
            have HB := Lib.hid (back_any wo.heap.size j N bl cap (muB N N es [j]) F es u7 hN HH.out.2.2.2.2.2.2.1 HH.out.2.2.2.2.2.2.2.1 HH.out.2.2.2.2.2.2.2.2.1 HR.out.2.2.2
              (fun x hx => by rw [hes] at hx; exact HH.out.2.2.2.2.2.2.2.2.1 j x (List.mem_filter.1 hx).1) rfl (mu_small hN hel) wr ((HR.out.2.2.1.up H1.out.2.1.size (Nat.le_refl _)).below HE.out.2) HE.out.1)
            have HES := Lib.hid (And.intro hes (And.intro he0 hel))
            have hlt1 := HE.out.1.lt
            have HL := Lib.hid hlt1
            rw [hu] at HB HL
            subst hu
            have g1 : (0 : Int) < (m : Int) + 1 := by omega
            have g2 : (m : Int) + 1 ≤ 1000 := by omega
            clear he0 hes HJ HST hm hel hlt1
            go_wp2_with fail
            refine HB.out.mono ?_
            rintro e W3 ⟨nv, sn, rfl, hbk, hnd, hnb, hns, hgr⟩
            have hb3 : Below wo.heap.size wo W3 := HE.out.2.grown hgr HE.out.2.size (fun k hk => (HL.out k hk).1)
            have hlw := H1.out.1.below hb3
            obtain ⟨vs, v1, v2, v3⟩ := hlw
            have hsz3 : wo.heap.size ≤ wr.heap.size := HE.out.2.size
            have hsw : w.heap.size ≤ wo.heap.size := H1.out.2.1.size
            obtain ⟨gn, cn, ln, hnv⟩ : ∃ g c l, nv = .slice (some ⟨g, 0, none⟩) l c := by
              rcases own_slice hns with ⟨_, h⟩ | ⟨g, cap, h⟩
              · have h1 := (sortN_perm sn).length_eq
                have h2 : sn = [] := List.length_eq_zero_iff.1 (by omega)
                subst h2
                exact absurd hbk (bk_ne _ _ _ _ (by simp))
              · exact ⟨_, _, _, h⟩
            obtain ⟨s5, m5, k5, hu5⟩ : ∃ a m c, u5 = .slice a m c := by
              rcases own_slice v2 with ⟨h, _⟩ | ⟨g, cap, h⟩
              · exact ⟨_, _, _, h⟩
              · exact ⟨_, _, _, h⟩
            have hll : (loopL F N ov j).length ≤ 1000 := Nat.le_trans (loopL_len F N ov j) (by have := HR.out.2.2.2; omega)
            have H4 := Lib.hid (And.intro hbk (And.intro hns (And.intro hb3 (And.intro v1 (And.intro v2 (And.intro hll (And.intro (H1.out.1.below hb3) H1.out.2.2.2)))))))
            rw [hnv, hu5] at H4
            subst hnv hu5
            clear hbk hnd hnb hns hgr hb3 v1 v2 v3 hll hsz3 hsw
            go_wp2_with (first | (at_builtin; refine Hid.out ?_) | go_in)
            unfold Hid
            refine wpList_append_own_at _ rfl _ _ 36 rfl w.heap.size 42 i1 (.agg #[I 0, .slice none 0 0]) 2 32 Try.underlying36 HI1.out.1 HI1.out.2.1 HI1.out.2.2.1 HI1.out.2.2.2 rfl (by decide) (.slice s5 m5 k5) (loopL F N ov j).length (cellsL (loopL F N ov j) vs) rfl (H4.out.2.2.2.2.1.alloc _) ⟨W3.heap.size, 0, none⟩ 1 1 [I (j : Int), .slice (some ⟨gn, 0, none⟩) ln cn] rfl rfl (cell_two_new _ _ _ _) (by simp [Value.oneCell']) (by have := H4.out.2.2.2.2.2.1; unfold maxLen; omega) (by have := H4.out.2.2.2.2.2.1; omega) (by have h1 := H4.out.2.2.1.size; have h2 := H1.out.2.1.size; simp; omega) ?_
            intro v' w4 ho hg _ hat
            have HN := Lib.hid (show LpR w bx p z N F ov v' (I ((j : Int) + 1)) w4 by
              have hns : Nums W3 w.heap.size (.slice (some ⟨gn, 0, none⟩) ln cn) (sortN sn) := own_lower (Nat.le_trans H1.out.2.1.size HE.out.2.size) H4.out.2.1
              have hlk := H4.out.2.2.2.2.2.2.2
              have hgn : wr.heap.size ≤ gn := (H4.out.2.1.lt gn rfl).1
              have hw4 : Below w.heap.size w w4 := ((below_of H1.out.2.1 H4.out.2.2.1).alloc (Nat.le_trans H1.out.2.1.size H4.out.2.2.1.size) _).grown hg (by have h1 := H4.out.2.2.1.size; have h2 := H1.out.2.1.size; simp; omega) (fun k hk => (hlk k hk).1)
              refine ⟨j + 1, HR.out.2.2.2, rfl, ?_, hw4, ?_, fun k hk => ?_⟩
              · rw [loopL_some (by rw [← HES.out.1]; exact HES.out.2.1) (by rw [← HES.out.1]; exact H4.out.1)]
                refine LoopsW.app H4.out.2.2.2.2.2.2.1 hns (Or.inr (fun e => ?_)) hg (fun vs' _ h2 => ?_) hat
                · have e1 := (H4.out.2.2.2.2.1.lt gn e.symm)
                  have e2 := H1.out.1
                  obtain ⟨vs2, q1, q2, q3⟩ := e2
                  have h5 := (q2.lt gn e.symm).2
                  have h6 := HE.out.2.size
                  omega
                · have hcl : cellsL (loopL F N ov j) vs' = cellsL (loopL F N ov j) vs := own_same h2 H4.out.2.2.2.2.1
                  rw [hcl]
                  exact ho
              · have hne : some bx ≠ (Value.slice s5 m5 k5).ownBlock := fun e => (hlk bx e.symm).2 rfl
                exact ((H1.out.2.2.1.below H4.out.2.2.1 H1.out.2.2.1.lt).alloc _).other hg hne
              · rcases hat with e | e
                · exact hlk k (by rw [← e]; exact hk)
                · rw [e] at hk
                  cases hk
                  have h1 := H4.out.2.2.1.size
                  have h2 := H1.out.2.1.size
                  have h3 := H1.out.2.2.1.lt
                  simp
                  omega)
            clear ho hg hat
            go_wp2_with fail
            exact ⟨HN.out, by have := HR.out.2.2.2; simp [intOf]; omega⟩
    · have d0 : decide (j < N) = false := by simpa using hjn
      obtain rfl : j = N := by omega
      have FIN := Lib.hid (show LoopsT w (loopL F j ov j) wo (.returned u5) from ⟨_, rfl, hls, hbe⟩)
      clear hls hbe hkb hlv hjn hj
      go_wp2_with fail
      go_ret
      exact FIN.out
end Go.Proofs.Ytomfmkddfgpmkaa
