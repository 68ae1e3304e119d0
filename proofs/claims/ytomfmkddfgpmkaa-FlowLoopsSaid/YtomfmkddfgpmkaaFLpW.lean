/-
  The loops: the document's own answer, walked.
-/
import Derived.Test.YtomfmkddfgpmkaaFLpP
import Derived.Test.YtomfmkddfgpmkaaFDoms
namespace Go.Proofs.Ytomfmkddfgpmkaa
open Go Go.RowKit Fl

theorem info_loopR : (Try.prog.info? 43).map (fun i => (i.zero, i.size, i.bytes)) = some (some (.agg #[I 0, .slice none 0 0]), 2, 32) := by kernel_rfl
/-- The document's loops in memory. -/
def LoopsR (base : Nat) (ls : List (Nat × List Nat)) (v : Value) (W : World) : Prop :=
  ∃ vs : List Value, vs.length = ls.length ∧ W.ownsRow base 43 2 v ls.length (cellsL ls vs) ∧ ∀ i (h : i < ls.length) (h' : i < vs.length), Nums W base vs[i] ls[i].2 ∧ (vs[i].ownBlock = none ∨ vs[i].ownBlock ≠ v.ownBlock)
theorem LoopsR.below {base : Nat} {ls : List (Nat × List Nat)} {v : Value} {W W' : World} (h : LoopsR base ls v W) (hb : Below W.heap.size W W') : LoopsR base ls v W' := by
  obtain ⟨vs, h1, h2, h3⟩ := h
  exact ⟨vs, h1, own_below h2 hb, fun i hi hi' => ⟨own_below (h3 i hi hi').1 hb, (h3 i hi hi').2⟩⟩
theorem LoopsR.lower {base base' : Nat} {ls : List (Nat × List Nat)} {v : Value} {W : World} (h : LoopsR base ls v W) (hb : base' ≤ base) : LoopsR base' ls v W := by
  obtain ⟨vs, h1, h2, h3⟩ := h
  exact ⟨vs, h1, own_lower hb h2, fun i hi hi' => ⟨own_lower hb (h3 i hi hi').1, (h3 i hi hi').2⟩⟩
theorem LoopsR.start (base : Nat) (W : World) : LoopsR base [] (.slice none 0 0) W := ⟨[], rfl, World.ownsRow_nil _ _ _ _, fun i hi => absurd hi (by simp)⟩
/-- One more. -/
theorem LoopsR.app {base : Nat} {ls : List (Nat × List Nat)} {v u nv : Value} {W W4 : World} {o : Obj} {p : Nat × List Nat} (h : LoopsR base ls v W) (hn : Nums W base nv p.2) (hne : nv.ownBlock = none ∨ nv.ownBlock ≠ v.ownBlock) (hg : (W.alloc o).grownBy W4 v.ownBlock)
    (ho : ∀ vs : List Value, vs.length = ls.length → W.ownsRow base 43 2 v ls.length (cellsL ls vs) → W4.ownsRow base 43 2 u (ls.length + 1) (cellsL ls vs ++ [I (p.1 : Int), nv])) (hat : u.ownBlock = v.ownBlock ∨ u.ownBlock = some (W.alloc o).heap.size) : LoopsR base (ls ++ [p]) u W4 := by
  obtain ⟨vs, h1, h2, h3⟩ := h
  have hap : ∀ {x : Value} {l : List Nat}, Nums W base x l → (x.ownBlock = none ∨ x.ownBlock ≠ v.ownBlock) → Nums W4 base x l ∧ (x.ownBlock = none ∨ x.ownBlock ≠ u.ownBlock) := fun {x l} hx hxn => by
    refine ⟨World.ownsRow.kept (hx.alloc o) hg hxn, ?_⟩
    rcases hat with e | e
    · rw [e]; exact hxn
    · cases hxb : x.ownBlock with
      | none => exact Or.inl rfl
      | some g =>
        right
        rw [e]
        have := (hx.lt g hxb).2
        simp
        omega
  refine ⟨vs ++ [nv], by simp [h1], ?_, fun i hi hi' => ?_⟩
  · rw [List.length_append, cellsL_app ls vs p nv h1]
    exact ho vs h1 h2
  · by_cases hl : i < ls.length
    · rw [List.getElem_append_left (by omega), List.getElem_append_left hl]
      exact hap (h3 i hl (by omega)).1 (h3 i hl (by omega)).2
    · have e : i = ls.length := by simp at hi; omega
      subst e
      rw [List.getElem_append_right (by omega), List.getElem_append_right (by omega)]
      simp only [h1, Nat.sub_self, List.getElem_singleton]
      exact hap hn hne
def LoopsRT (w : World) (ls : List (Nat × List Nat)) (W : World) (e : Ending) : Prop := ∃ v, e = .returned v ∧ LoopsR w.heap.size ls v W ∧ Below w.heap.size w W
/-- A way back to a head. -/
def BackG (G : List (List Nat)) (h t : Nat) : Prop := h ∈ row G t ∧ DomG G h t
/-- After some heads. -/
def RL1 (w1 : World) (G : List (List Nat)) (N : Nat) (lv iv : Value) (W : World) : Prop :=
  ∃ h, h ≤ N ∧ iv = I (h : Int) ∧ LoopsR w1.heap.size (loopL (intoF G) G.length (ovG G) h) lv W ∧ Below w1.heap.size w1 W
/-- Within a head's round, after some ends. -/
def RL2 (wo : World) (G : List (List Nat)) (N h bi : Nat) (mv tv : Value) (W : World) : Prop :=
  ∃ (t : Nat) (m : Bool) (bs : List Bool), t ≤ N ∧ tv = I (t : Int) ∧ mv = .bool m ∧ Blk bi (arrB bs) 4 W ∧ bs.length = N ∧ Below wo.heap.size wo W ∧ (m = true ↔ ∃ t', t' < t ∧ BackG G h t') ∧ (∀ x, x < N → (bs.getD x false = true ↔ ∃ t', t' < t ∧ BackG G h t' ∧ (x = h ∨ Av (EG G) (fun y => y ≠ h) x t')))
def RL3 (G : List (List Nat)) (wt : World) (h t L : Nat) (bv jv : Value) (W : World) : Prop :=
  ∃ (j : Nat) (m : Bool), j ≤ L ∧ jv = I (j : Int) ∧ bv = .bool m ∧ (m = true ↔ h ∈ (row G t).take j ∧ DomG G h t) ∧ W = wt
def RL4 (wo : World) (G : List (List Nat)) (N h t bi : Nat) (bs0 : List Bool) (nv : Value) (W : World) : Prop :=
  ∃ (n : Nat) (bs : List Bool), n ≤ N ∧ nv = I (n : Int) ∧ Blk bi (arrB bs) 4 W ∧ bs.length = N ∧ Below wo.heap.size wo W ∧ (∀ x, x < N → n ≤ x → bs.getD x false = bs0.getD x false) ∧ (∀ x, x < n → (bs.getD x false = true ↔ (bs0.getD x false = true ∨ x = h ∨ Av (EG G) (fun y => y ≠ h) x t)))
def RL5 (wn : World) (N h bl : Nat) (f : Nat → Bool) (nv : Value) (W : World) : Prop :=
  ∃ (n : Nat) (u : Value), n ≤ N ∧ nv = I (n : Int) ∧ Blk bl #[I (h : Int), u] 43 W ∧ Nums W wn.heap.size u ((List.range n).filter f) ∧ some bl ≠ u.ownBlock ∧ Below wn.heap.size wn W

theorem RL4.next {wo W : World} {G : List (List Nat)} {N h t bi n : Nat} {bs0 bs : List Bool} {q : Bool} (hbi : wo.heap.size ≤ bi) (hn : n < N) (hk : Blk bi (arrB bs) 4 W) (hl : bs.length = N) (hb : Below wo.heap.size wo W) (ho : ∀ x, x < N → n ≤ x → bs.getD x false = bs0.getD x false) (hd : ∀ x, x < n → (bs.getD x false = true ↔ (bs0.getD x false = true ∨ x = h ∨ Av (EG G) (fun y => y ≠ h) x t)))
    (hq : q = true ↔ (bs0.getD n false = true ∨ n = h ∨ Av (EG G) (fun y => y ≠ h) n t)) : RL4 wo G N h t bi bs0 (I ((n : Int) + 1)) (W.setCell ⟨bi, n, none⟩ (.bool q)) := by
  have hget : ∀ x, (bs.set n q).getD x false = if n = x then q else bs.getD x false := fun x => by
    rw [List.getD_eq_getElem?_getD, List.getElem?_set]
    by_cases e : n = x
    · subst e; rw [if_pos rfl, if_pos (by rw [hl]; exact hn), if_pos rfl]; rfl
    · rw [if_neg e, if_neg e, List.getD_eq_getElem?_getD]
  refine ⟨n + 1, bs.set n q, hn, rfl, by rw [← arrB_set]; exact hk.set n _, by simp [hl], ?_, fun x hx hnx => ?_, fun x hx => ?_⟩
  · have hg : W.grownBy (W.setCell ⟨bi, n, none⟩ (.bool q)) (some bi) := ⟨rfl, rfl, rfl, by simp [World.setCell], fun k _ hne => Below.heap_setCell _ _ _ _ (fun e => hne (by rw [e]))⟩
    exact hb.grown hg hb.size (fun k hk => by cases hk; exact hbi)
  · rw [hget, if_neg (by omega)]
    exact ho x hx (by omega)
  · rw [hget]
    by_cases e : n = x
    · subst e; rw [if_pos rfl]; exact hq
    · rw [if_neg e]; exact hd x (by omega)

set_option maxRecDepth 100000 in
set_option maxHeartbeats 3200000 in
theorem RefLoops_any (bg cap N : Nat) (Z : List (List Int)) (base : Nat) (ht : TameZ Z) (he : errF Z = 0) (hN : N = Z.length) (hN0 : 0 < N) (w : World) (h : OwnG base Z (.slice (some ⟨bg, 0, none⟩) N cap) w) :
    Calls Try.prog 23 #[.slice (some ⟨bg, 0, none⟩) N cap] w fun e w' => LoopsRT w (lpsL (natG Z)) w' e := by
  obtain ⟨G, hGd⟩ : ∃ G, G = natG Z := ⟨_, rfl⟩
  have hGl : G.length = N := by rw [hGd, natG_len, hN]
  have hGO : GOk G := by rw [hGd]; exact natG_ok he
  have hn24 : N ≤ 24 := by rw [hN]; exact ht.1
  have hrow : ∀ i, (row G i).length ≤ 1000 := by rw [hGd]; exact ht.row
  obtain ⟨i0, hi, hz0, hz1, hz2⟩ := info_parts info_int'
  have HI := Lib.hid (And.intro hi (And.intro hz0 (And.intro hz1 hz2)))
  clear hi hz0 hz1 hz2
  obtain ⟨i1, hi, hz0, hz1, hz2⟩ := info_parts info_loopR
  have HI1 := Lib.hid (And.intro hi (And.intro hz0 (And.intro hz1 hz2)))
  clear hi hz0 hz1 hz2
  have hmk2 : ∀ u, (Instr.makeSlice 46 (I (N : Int)) (I (N : Int))).run Try.prog u = .ok (.slice (some ⟨u.heap.size, 0, none⟩) N N) (u.alloc (.cells (arrB (List.replicate N false)) 4)) := fun u => mkBn N (by omega) u
  have HCD := Lib.hid (Doms_any bg cap N Z base ht he hN hN0 w h)
  rw [← hGd] at HCD ⊢
  have HH := Lib.hid (And.intro h (And.intro ht (And.intro he (And.intro hN (And.intro hGd (And.intro hGl (And.intro hGO (And.intro hn24 (And.intro hrow hN0)))))))))
  clear h ht he hN hGd hGl hGO hn24 hrow hN0
  go_enter Try.func23, Try.ntmps23
  go_wp2_with fail
  refine HCD.out.mono ?_
  rintro e w1 ⟨bo, vs, rfl, hD⟩
  have HST := Lib.hid (show RL1 w1 G N (.slice none 0 0) (I 0) w1 from ⟨0, Nat.zero_le _, rfl, LoopsR.start _ _, Below.refl _ _⟩)
  have HDD := Lib.hid hD
  clear hD HCD
  go_wp2_with fail
  go_loopw [4, 20] (fun lv iv W => RL1 w1 G N lv iv W) (fun _ iv _ => N - (intOf iv).toNat)
  case atStart => exact HST.out
  case round =>
    obtain ⟨h, hh, rfl, hls, hbe⟩ := hrel
    obtain ⟨wo, rfl⟩ : ∃ wo : World, wo = wr := ⟨_, rfl⟩
    by_cases hhn : h < N
    · have H1 := Lib.hid (And.intro hls (And.intro hbe hhn))
      obtain ⟨W0, hW0⟩ : ∃ W, W = wo.alloc (.cells (arrB (List.replicate N false)) 4) := ⟨_, rfl⟩
      obtain ⟨bi, hbi⟩ : ∃ b, b = wo.heap.size := ⟨_, rfl⟩
      have HS2 := Lib.hid (show RL2 wo G N h bi (.bool false) (I 0) W0 from ⟨0, false, List.replicate N false, Nat.zero_le _, rfl, rfl, by rw [hbi, hW0]; exact Blk.new _ _ _, by simp, by rw [hW0]; exact (Below.refl _ _).alloc (Nat.le_refl _) _,
        ⟨fun h => by simp at h, fun ⟨t', h1, _⟩ => absurd h1 (by omega)⟩, fun x hx => ⟨fun h1 => by rw [List.getD_eq_getElem?_getD] at h1; simp [hx] at h1, fun ⟨t', h1, _⟩ => absurd h1 (by omega)⟩⟩)
      have HW0 := Lib.hid (And.intro hW0 hbi)
      have d0 : decide (h < N) = true := by simpa using hhn
      have d1 : (0 : Int) ≤ (h : Int) := by omega
      have d2 : (h : Int) < (N : Int) := by omega
      have d3 : (h : Int) ≤ 24 := by have := HH.out.2.2.2.2.2.2.2.1; omega
      clear hls hbe hhn hW0 hbi HST hh
      go_upto_region 7 with (fail)
      rw [← HW0.out.2]
      change Code.wp _ _ _ _ (wo.alloc (.cells (arrB (List.replicate N false)) 4))
      rw [← HW0.out.1]
      go_wp2_with fail
      go_loopw [7, 28] (fun mv tv W => RL2 wo G N h bi mv tv W) (fun _ tv _ => N - (intOf tv).toNat)
      case atStart => exact HS2.out
      case round =>
        obtain ⟨t, m, bs, htn, rfl, rfl, hk, hl, hb2, hm, hbs⟩ := hrel
        obtain ⟨wt, rfl⟩ : ∃ W : World, W = wr := ⟨_, rfl⟩
        by_cases htl : t < N
        · have o1 := ((HH.out.1.below HDD.out.be).below H1.out.2.1).below hb2
          obtain ⟨bg', ra, rc, hbg, c1, c2⟩ := gn_own o1 HH.out.2.2.1 t (by rw [← HH.out.2.2.2.2.1, HH.out.2.2.2.2.2.1]; exact htl)
          cases hbg
          rw [← HH.out.2.2.2.2.1] at c1 c2
          obtain ⟨L, hL⟩ : ∃ L, L = (row G t).length := ⟨_, rfl⟩
          rw [← hL] at c1
          obtain ⟨r, hv, hrb, bsr, hkr, hlr, hdr⟩ := HDD.out.rw' h H1.out.2.2 H1.out.2.2
          obtain ⟨D, hDd⟩ : ∃ D, D = bsr.getD t false := ⟨_, rfl⟩
          have hDi : D = true ↔ DomG G h t := by rw [hDd]; exact hdr t htl
          have hbw := belowB H1.out.2.1 hb2
          have y1 := (HDD.out.ko.below hbw HDD.out.ko.lt).get h (.slice (some ⟨r, 0, none⟩) N N) (by simp [hv])
          have y2 := (hkr.below hbw hkr.lt).get t (.bool D) (by rw [hDd]; exact arrB_getD bsr t false (by rw [hlr]; exact htl))
          have hL1000 : L ≤ 1000 := by rw [hL]; exact HH.out.2.2.2.2.2.2.2.2.1 t
          have HC2 := Lib.hid c2
          have H2 := Lib.hid (And.intro hk (And.intro hl (And.intro hb2 (And.intro hm (And.intro hbs (And.intro htl (And.intro hDi hL)))))))
          have HS3 := Lib.hid (show RL3 G wt h t L (.bool false) (I 0) wt from ⟨0, false, Nat.zero_le _, rfl, rfl, by simp, rfl⟩)
          have d4 : decide (t < N) = true := by simpa using htl
          have d5 : (0 : Int) ≤ (t : Int) := by omega
          have d6 : (t : Int) < (N : Int) := by omega
          have d7 : (t : Int) ≤ 24 := by have := HH.out.2.2.2.2.2.2.2.1; omega
          clear hk hl hb2 hm hbs htl hDi hL c2 o1 hv hrb hkr hlr hdr hDd hbw htn HS2
          go_wp2_with fail
          go_loopw [10, 35] (fun bv jv W => RL3 G wt h t L bv jv W) (fun _ jv _ => L - (intOf jv).toNat)
          case atStart => exact HS3.out
          case round =>
            obtain ⟨j, m2, hj, rfl, rfl, hm2, rfl⟩ := hrel
            by_cases hjl : j < L
            · have hjr : j < (row G t).length := by rw [← H2.out.2.2.2.2.2.2.2]; exact hjl
              obtain ⟨g, hra, c3⟩ := HC2.out j hjr
              subst hra
              obtain ⟨q, hq⟩ : ∃ q, q = (row G t)[j] := ⟨_, rfl⟩
              rw [← hq] at c3
              have htk : (row G t).take (j + 1) = (row G t).take j ++ [q] := by rw [List.take_add_one, List.getElem?_eq_getElem hjr, hq]; rfl
              have HNX := Lib.hid (show ∀ m3 : Bool, (m3 = true ↔ (m2 = true ∨ (q = h ∧ D = true))) → RL3 G wr h t L (.bool m3) (I ((j : Int) + 1)) wr from fun m3 h3 => ⟨j + 1, m3, hjl, rfl, rfl, by
                rw [h3, hm2, htk, List.mem_append, List.mem_singleton, H2.out.2.2.2.2.2.2.1]
                constructor
                · rintro (⟨q1, q2⟩ | ⟨q1, q2⟩)
                  · exact ⟨Or.inl q1, q2⟩
                  · exact ⟨Or.inr q1.symm, q2⟩
                · rintro ⟨q1 | q1, q2⟩
                  · exact Or.inl ⟨q1, q2⟩
                  · exact Or.inr ⟨q1.symm, q2⟩, rfl⟩)
              have HJ := Lib.hid hjl
              have f0 : decide (j < L) = true := by simpa using hjl
              have f1 : (0 : Int) ≤ (j : Int) := by omega
              have f2 : (j : Int) < (L : Int) := by omega
              clear hq htk hm2 hjr hj HS3
              cases m2
              · by_cases hqh : q = h
                · subst hqh
                  cases D
                  · have HN2 := Lib.hid (HNX.out false (by simp))
                    clear HNX
                    go_wp2_with fail
                    exact ⟨HN2.out, by have := HJ.out; simp [intOf]; omega⟩
                  · have HN2 := Lib.hid (HNX.out true (by simp))
                    clear HNX
                    go_wp2_with fail
                    exact ⟨HN2.out, by have := HJ.out; simp [intOf]; omega⟩
                · have HN2 := Lib.hid (HNX.out false (by simp [hqh]))
                  have f3 : ((q : Int) == (h : Int)) = false := by simp; omega
                  clear HNX
                  go_wp2_with fail
                  exact ⟨HN2.out, by have := HJ.out; simp [intOf]; omega⟩
              · have HN2 := Lib.hid (HNX.out true (by simp))
                clear HNX
                go_wp2_with fail
                exact ⟨HN2.out, by have := HJ.out; simp [intOf]; omega⟩
            · have e : j = L := by omega
              subst e
              have f0 : decide (j < j) = false := by simp
              have hB : m2 = true ↔ BackG G h t := by
                rw [hm2, H2.out.2.2.2.2.2.2.2, List.take_of_length_le (Nat.le_refl _)]
                exact Iff.rfl
              clear hm2 hj hjl HS3
              cases m2
              · have hnb : ¬ BackG G h t := fun h1 => by have := hB.2 h1; cases this
                have HN2 := Lib.hid (show RL2 wo G N h bi (.bool m) (I ((t : Int) + 1)) wr from ⟨t + 1, m, bs, H2.out.2.2.2.2.2.1, rfl, rfl, H2.out.1, H2.out.2.1, H2.out.2.2.1, by
                    rw [H2.out.2.2.2.1]
                    exact ⟨fun ⟨t', h1, h2⟩ => ⟨t', by omega, h2⟩, fun ⟨t', h1, h2⟩ => ⟨t', by
                      rcases Nat.lt_or_ge t' t with h3 | h3
                      · exact h3
                      · have e : t' = t := by omega
                        rw [e] at h2; exact absurd h2 hnb, h2⟩⟩, fun x hx => by
                    rw [H2.out.2.2.2.2.1 x hx]
                    exact ⟨fun ⟨t', h1, h2⟩ => ⟨t', by omega, h2⟩, fun ⟨t', h1, h2⟩ => ⟨t', by
                      rcases Nat.lt_or_ge t' t with h3 | h3
                      · exact h3
                      · have e : t' = t := by omega
                        rw [e] at h2; exact absurd h2.1 hnb, h2⟩⟩⟩)
                clear hnb hB
                go_wp2_with fail
                exact ⟨HN2.out, by have := H2.out.2.2.2.2.2.1; simp [intOf]; omega⟩
              · have HB := Lib.hid (hB.1 rfl)
                have HS4 := Lib.hid (show RL4 wo G N h t bi bs (I 0) wr from ⟨0, bs, Nat.zero_le _, rfl, H2.out.1, H2.out.2.1, H2.out.2.2.1, fun x _ _ => rfl, fun x h1 => absurd h1 (by omega)⟩)
                clear hB y1 y2
                go_wp2_with fail
                go_loopw [59] (fun nv W => RL4 wo G N h t bi bs nv W) (fun nv _ => N - (intOf nv).toNat)
                case atStart => exact HS4.out
                case round =>
                  obtain ⟨n, bs2, hn, rfl, hk2, hl2, hb2, ho2, hd2⟩ := hrel
                  by_cases hnN : n < N
                  · obtain ⟨A, hA⟩ : ∃ A, A = bs2.getD n false := ⟨_, rfl⟩
                    have z0 := hk2.get n (.bool A) (by rw [hA]; exact arrB_getD bs2 n false (by rw [hl2]; exact hnN))
                    have z1 := hk2.free n
                    have hA0 : A = bs.getD n false := by rw [hA]; exact ho2 n hnN (Nat.le_refl _)
                    have hbiw : wo.heap.size ≤ bi := by rw [HW0.out.2]; exact Nat.le_refl _
                    have HNX := Lib.hid (fun (q : Bool) (hq : q = true ↔ (A = true ∨ n = h ∨ Av (EG G) (fun y => y ≠ h) n t)) => RL4.next (q := q) hbiw hnN hk2 hl2 hb2 ho2 hd2 (by rw [← hA0]; exact hq))
                    have HNN := Lib.hid hnN
                    have f0 : decide (n < N) = true := by simpa using hnN
                    have f1 : (0 : Int) ≤ (n : Int) := by omega
                    have f2 : (n : Int) < (N : Int) := by omega
                    have f3 : (n : Int) ≤ 24 := by have := HH.out.2.2.2.2.2.2.2.1; omega
                    have o2 := ((HH.out.1.below HDD.out.be).below H1.out.2.1).below hb2
                    have HCR := Lib.hid (Reach_dom bg cap N n (h : Int) Z base HH.out.2.1 HH.out.2.2.1 HH.out.2.2.2.1 hnN wr o2)
                    rw [← HH.out.2.2.2.2.1] at HCR
                    have HK2 := Lib.hid (And.intro hk2 (And.intro hl2 (And.intro hb2 (And.intro ho2 (And.intro hd2 (And.intro hA0 hbiw))))))
                    clear hA hk2 hl2 hb2 ho2 hd2 hA0 hbiw hn hnN o2 HS4
                    cases A
                    · by_cases hnh : n = h
                      · subst hnh
                        have HN2 := Lib.hid (HNX.out true (by simp))
                        clear HNX
                        go_wp2_with fail
                        exact ⟨HN2.out, by have := HNN.out; simp [intOf]; omega⟩
                      · have f4 : ((n : Int) == (h : Int)) = false := by simp; omega
                        clear HNX
                        go_wp2_with fail
                        refine HCR.out.mono ?_
                        rintro e w5 ⟨bl, bsL, rfl, kL, lL, hL5, hlo, b5⟩
                        obtain ⟨V, hV⟩ : ∃ V, V = bsL.getD t false := ⟨_, rfl⟩
                        have hVi : V = true ↔ (false = true ∨ n = h ∨ Av (EG G) (fun y => y ≠ h) n t) := by
                          rw [hV, hL5 t]
                          constructor
                          · intro q1
                            exact Or.inr (Or.inr (q1.mono (fun x hx => by unfold okN at hx; omega)))
                          · rintro (q1 | q1 | q1)
                            · cases q1
                            · exact absurd q1 hnh
                            · exact q1.mono (fun x hx => by unfold okN; omega)
                        have y3 := kL.get t (.bool V) (by rw [hV]; exact arrB_getD bsL t false (by rw [lL]; exact H2.out.2.2.2.2.2.1))
                        have hk5 := HK2.out.1.below b5 HK2.out.1.lt
                        have z2 := hk5.get n (.bool (bs2.getD n false)) (arrB_getD bs2 n false (by rw [HK2.out.2.1]; exact HNN.out))
                        have z3 := hk5.free n
                        have HN2 := Lib.hid (RL4.next (q := V) HK2.out.2.2.2.2.2.2 HNN.out hk5 HK2.out.2.1 (belowB HK2.out.2.2.1 b5) HK2.out.2.2.2.1 HK2.out.2.2.2.2.1 (by rw [← HK2.out.2.2.2.2.2.1]; exact hVi))
                        clear kL lL hL5 hlo b5 hV hVi hk5 z0 z1 HCR
                        go_wp2_with fail
                        exact ⟨HN2.out, by have := HNN.out; simp [intOf]; omega⟩
                    · have HN2 := Lib.hid (HNX.out true (by simp))
                      clear HNX
                      go_wp2_with fail
                      exact ⟨HN2.out, by have := HNN.out; simp [intOf]; omega⟩
                  · have e : n = N := by omega
                    subst e
                    have f0 : decide (n < n) = false := by simp
                    have HN2 := Lib.hid (show RL2 wo G n h bi (.bool true) (I ((t : Int) + 1)) wr from ⟨t + 1, true, bs2, H2.out.2.2.2.2.2.1, rfl, rfl, hk2, hl2, hb2, ⟨fun _ => ⟨t, by omega, HB.out⟩, fun _ => rfl⟩, fun x hx => by
                        rw [hd2 x hx, H2.out.2.2.2.2.1 x hx]
                        constructor
                        · rintro (⟨t', q1, q2⟩ | q1)
                          · exact ⟨t', by omega, q2⟩
                          · exact ⟨t, by omega, HB.out, q1⟩
                        · rintro ⟨t', q1, q2, q3⟩
                          rcases Nat.lt_or_ge t' t with h3 | h3
                          · exact Or.inl ⟨t', h3, q2, q3⟩
                          · have e : t' = t := by omega
                            rw [e] at q3
                            exact Or.inr q3⟩)
                    clear hk2 hl2 hb2 ho2 hd2 hn hnN HS4
                    go_wp2_with fail
                    exact ⟨HN2.out, by have := H2.out.2.2.2.2.2.1; simp [intOf]; omega⟩
        · have d0 : decide (t < N) = false := by simpa using htl
          have e : t = N := by omega
          subst e
          cases m
          · have hno : ∀ t', t' < G.length → h ∈ row G t' → ¬ DomG G h t' := fun t' h1 h2 h3 => by
              have := hm.2 ⟨t', by rw [← HH.out.2.2.2.2.2.1]; exact h1, h2, h3⟩
              cases this
            have HN2 := Lib.hid (show RL1 w1 G t u4 (I ((h : Int) + 1)) wt from ⟨h + 1, H1.out.2.2, rfl, by rw [loop_none HH.out.2.2.2.2.2.2.1 (by rw [HH.out.2.2.2.2.2.1]; have := HH.out.2.2.2.2.2.2.2.2.2; omega) (by rw [HH.out.2.2.2.2.2.1]; exact H1.out.2.2) hno]; exact H1.out.1.below hb2, belowB H1.out.2.1 hb2⟩)
            clear hno hk hl hb2 hm hbs htn htl HS2
            go_wp2_with fail
            exact ⟨HN2.out, by have := H1.out.2.2; simp [intOf]; omega⟩
          · obtain ⟨t', h1, h2, h3⟩ := hm.1 rfl
            have hls := loop_some HH.out.2.2.2.2.2.2.1 (by rw [HH.out.2.2.2.2.2.1]; have := HH.out.2.2.2.2.2.2.2.2.2; omega) (by rw [HH.out.2.2.2.2.2.1]; exact H1.out.2.2) (by rw [HH.out.2.2.2.2.2.1]; exact h1) h2 h3 (f := fun x => bs.getD x false) (fun x hx => by
              rw [HH.out.2.2.2.2.2.1] at hx
              show bs.getD x false = true ↔ _
              rw [hbs x hx]
              constructor
              · rintro ⟨t2, q1, q2, q3 | q3⟩
                · exact Or.inl q3
                · exact Or.inr ⟨t2, by rw [HH.out.2.2.2.2.2.1]; exact q1, q2.1, q2.2, q3⟩
              · rintro (q1 | ⟨t2, q1, q2, q3, q4⟩)
                · exact ⟨t', h1, ⟨h2, h3⟩, Or.inl q1⟩
                · exact ⟨t2, by rw [← HH.out.2.2.2.2.2.1]; exact q1, ⟨q2, q3⟩, Or.inr q4⟩)
            rw [HH.out.2.2.2.2.2.1] at hls
            have HLS := Lib.hid hls
            have H2 := Lib.hid (And.intro hk (And.intro hl hb2))
            clear hls h1 h2 h3 hk hl hb2 hm hbs htn htl HS2
            obtain ⟨f, hf⟩ : ∃ f : Nat → Bool, f = fun x => bs.getD x false := ⟨_, rfl⟩
            rw [← hf] at HLS
            have HF := Lib.hid hf
            obtain ⟨W5, hW5⟩ : ∃ W, W = wt.alloc (.cells #[I (h : Int), .slice none 0 0] 43) := ⟨_, rfl⟩
            obtain ⟨bl, hbl⟩ : ∃ b, b = wt.heap.size := ⟨_, rfl⟩
            have HS5 := Lib.hid (show RL5 wt t h bl f (I 0) W5 from ⟨0, .slice none 0 0, Nat.zero_le _, rfl, by rw [hbl, hW5]; exact Blk.new _ _ _, World.ownsRow_nil _ _ _ _, (fun e => by cases e), by rw [hW5]; exact (Below.refl _ _).alloc (Nat.le_refl _) _⟩)
            have HW5 := Lib.hid (And.intro hW5 hbl)
            clear hW5 hbl hf
            go_upto_region 27 with (fail)
            rw [← HW5.out.2]
            change Code.wp _ _ _ _ (wt.alloc (.cells #[I (h : Int), .slice none 0 0] 43))
            rw [← HW5.out.1]
            go_wp2_with fail
            go_loopw [91] (fun nv W => RL5 wt t h bl f nv W) (fun nv _ => t - (intOf nv).toNat)
            case atStart => exact HS5.out
            case round =>
              obtain ⟨n, u, hn, rfl, hkl, hnu, hne, hbl⟩ := hrel
              obtain ⟨s1, m1, k1, hu⟩ : ∃ a m c, u = .slice a m c := by
                rcases own_slice hnu with ⟨h, _⟩ | ⟨g, cap, h⟩
                · exact ⟨_, _, _, h⟩
                · exact ⟨_, _, _, h⟩
              subst hu
              have hbw := H2.out.1.lt
              by_cases hnN : n < t
              · obtain ⟨A, hA⟩ : ∃ A, A = bs.getD n false := ⟨_, rfl⟩
                have hAf : f n = A := by rw [HF.out, hA]
                have y0 := (H2.out.1.below hbl hbw).get n (.bool A) (by rw [hA]; exact arrB_getD bs n false (by rw [H2.out.2.1]; exact hnN))
                have x0 := hkl.get 0 (I (h : Int)) rfl
                have x1 := hkl.get 1 (.slice s1 m1 k1) rfl
                obtain ⟨ns, hns⟩ : ∃ ns, ns = (List.range n).filter f := ⟨_, rfl⟩
                rw [← hns] at hnu
                have hnl : ns.length ≤ 24 := by
                  rw [hns]
                  have h1 := List.length_filter_le f (List.range n)
                  rw [List.length_range] at h1
                  have := HH.out.2.2.2.2.2.2.2.1
                  omega
                have hfn : (List.range (n + 1)).filter f = ns ++ (if A = true then [n] else []) := by
                  rw [List.range_succ, List.filter_append, ← hns]
                  cases A <;> simp [hAf]
                have H3 := Lib.hid (And.intro hkl (And.intro hnu (And.intro hne (And.intro hbl (And.intro hnl (And.intro hfn hnN))))))
                have f0 : decide (n < t) = true := by simpa using hnN
                have f1 : (0 : Int) ≤ (n : Int) := by omega
                have f2 : (n : Int) < (t : Int) := by omega
                have f3 : (n : Int) ≤ 24 := by have := HH.out.2.2.2.2.2.2.2.1; omega
                clear hkl hnu hne hbl hnl hfn hnN hA hAf hns hn hbw HS5
                cases A
                · have HN2 := Lib.hid (show RL5 wt t h bl f (I ((n : Int) + 1)) wr from ⟨n + 1, _, H3.out.2.2.2.2.2.2, rfl, H3.out.1, by rw [H3.out.2.2.2.2.2.1]; simpa using H3.out.2.1, H3.out.2.2.1, H3.out.2.2.2.1⟩)
                  go_wp2_with fail
                  exact ⟨HN2.out, by have := H3.out.2.2.2.2.2.2; simp [intOf]; omega⟩
                · go_wp2_with (first | (at_builtin; refine Hid.out ?_) | go_in)
                  unfold Hid
                  refine wpList_append_own_at _ rfl _ _ 25 rfl wt.heap.size 3 i0 (I 0) 1 8 Try.underlying25 HI.out.1 HI.out.2.1 HI.out.2.2.1 HI.out.2.2.2 rfl (by decide) (.slice s1 m1 k1) ns.length (ints ns) rfl (H3.out.2.1.alloc _) ⟨wr.heap.size, 0, none⟩ 1 1 [I (n : Int)] rfl rfl (cell_one_new _ _ _) (by simp [Value.oneCell']) (by have := H3.out.2.2.2.2.1; unfold maxLen; omega) (by have := H3.out.2.2.2.2.1; omega) (by have := H3.out.2.2.2.1.size; simp; omega) ?_
                  intro v' w4 ho hg _ hat
                  obtain ⟨s2, m2, k2, hv'⟩ : ∃ a m c, v' = .slice a m c := by
                    rcases own_slice ho with ⟨h, _⟩ | ⟨g, cap, h⟩
                    · exact ⟨_, _, _, h⟩
                    · exact ⟨_, _, _, h⟩
                  subst hv'
                  have hk4 := (H3.out.1.alloc (.cells #[I (n : Int)] 3)).other hg H3.out.2.2.1
                  have hvb : some bl ≠ (Value.slice s2 m2 k2).ownBlock := by
                    rcases hat with e | e
                    · rw [e]; exact H3.out.2.2.1
                    · rw [e]
                      have := H3.out.1.lt
                      simp
                      omega
                  have hblo : wt.heap.size ≤ bl := by rw [HW5.out.2]; exact Nat.le_refl _
                  have hgs : w4.grownBy (w4.setCell ⟨bl, 1, none⟩ (.slice s2 m2 k2)) (some bl) := ⟨rfl, rfl, rfl, by simp [World.setCell], fun k _ hne => Below.heap_setCell _ _ _ _ (fun e => hne (by rw [e]))⟩
                  have hb4 : Below wt.heap.size wt w4 := (H3.out.2.2.2.1.alloc H3.out.2.2.2.1.size _).grown hg (by have := H3.out.2.2.2.1.size; simp; omega) (fun k hk => (H3.out.2.1.lt k hk).1)
                  have hn4 : Nums w4 wt.heap.size (.slice s2 m2 k2) (ns ++ [n]) := by
                    show World.ownsRow _ _ _ _ _ _ _
                    simpa using ho
                  have HN2 := Lib.hid (show RL5 wt t h bl f (I ((n : Int) + 1)) (w4.setCell ⟨bl, 1, none⟩ (.slice s2 m2 k2)) from ⟨n + 1, .slice s2 m2 k2, H3.out.2.2.2.2.2.2, rfl, hk4.set 1 _, by
                    rw [H3.out.2.2.2.2.2.1]
                    exact World.ownsRow.kept hn4 hgs (Or.inr (fun e => hvb e.symm)), hvb, hb4.grown hgs hb4.size (fun k hk => by cases hk; exact hblo)⟩)
                  have x4 := hk4.get 1 (.slice s1 m1 k1) rfl
                  have z4 := hk4.free 1
                  clear ho hg hat hk4 hvb hblo hgs hb4 hn4 x0 x1 y0
                  go_wp2_with fail
                  exact ⟨HN2.out, by have := H3.out.2.2.2.2.2.2; simp [intOf]; omega⟩
              · have e : n = t := by omega
                subst e
                have f0 : decide (n < n) = false := by simp
                have x0 := hkl.get 0 (I (h : Int)) rfl
                have x1 := hkl.get 1 (.slice s1 m1 k1) rfl
                have hwo : Below wo.heap.size wo wr := belowB H2.out.2.2 hbl
                obtain ⟨vs2, v1, v2, v3⟩ := H1.out.1.below hwo
                obtain ⟨s5, m5, k5, hu5⟩ : ∃ a m c, u4 = .slice a m c := by
                  rcases own_slice v2 with ⟨h, _⟩ | ⟨g, cap, h⟩
                  · exact ⟨_, _, _, h⟩
                  · exact ⟨_, _, _, h⟩
                have hll : (loopL (intoF G) G.length (ovG G) h).length ≤ 24 := Nat.le_trans (loopL_len _ _ _ h) (by have := H1.out.2.2; have := HH.out.2.2.2.2.2.2.2.1; omega)
                have H4 := Lib.hid (And.intro hnu (And.intro hwo (And.intro v1 (And.intro v2 (And.intro hll (And.intro (H1.out.1.below hwo) hbl))))))
                rw [hu5] at H4
                subst hu5
                clear hkl hnu hne hbl hwo v1 v2 v3 hll hn hbw hnN HS5
                go_wp2_with (first | (at_builtin; refine Hid.out ?_) | go_in)
                unfold Hid
                refine wpList_append_own_at _ rfl _ _ 39 rfl w1.heap.size 43 i1 (.agg #[I 0, .slice none 0 0]) 2 32 Try.underlying39 HI1.out.1 HI1.out.2.1 HI1.out.2.2.1 HI1.out.2.2.2 rfl (by decide) (.slice s5 m5 k5) (loopL (intoF G) G.length (ovG G) h).length (cellsL (loopL (intoF G) G.length (ovG G) h) vs2) rfl (H4.out.2.2.2.1.alloc _) ⟨wr.heap.size, 0, none⟩ 1 1 [I (h : Int), .slice s1 m1 k1] rfl rfl (cell_two_new _ _ _ _) (by simp [Value.oneCell']) (by have := H4.out.2.2.2.2.1; unfold maxLen; omega) (by have := H4.out.2.2.2.2.1; omega) (by have h1 := H4.out.2.1.size; have h2 := H1.out.2.1.size; simp; omega) ?_
                intro v' w4 ho hg _ hat
                have HN2 := Lib.hid (show RL1 w1 G n v' (I ((h : Int) + 1)) w4 by
                  have hwt : wo.heap.size ≤ wt.heap.size := H2.out.2.2.size
                  have hw1 : w1.heap.size ≤ wo.heap.size := H1.out.2.1.size
                  refine ⟨h + 1, H1.out.2.2, rfl, ?_, ((belowB H1.out.2.1 H4.out.2.1).alloc (Nat.le_trans hw1 H4.out.2.1.size) _).grown hg (by have h1 := H4.out.2.1.size; simp; omega) (fun k hk => (H4.out.2.2.2.1.lt k hk).1)⟩
                  rw [HH.out.2.2.2.2.2.1, HLS.out]
                  have hlr := H4.out.2.2.2.2.2.1
                  rw [HH.out.2.2.2.2.2.1] at hlr
                  refine LoopsR.app hlr (own_lower (by omega) H4.out.1) ?_ hg (fun vs' _ h2 => ?_) hat
                  · cases hb : (Value.slice s1 m1 k1).ownBlock with
                    | none => exact Or.inl rfl
                    | some g =>
                      right
                      intro e
                      have a1 := (H4.out.1.lt g hb).1
                      obtain ⟨vs3, q1, q2, q3⟩ := H1.out.1
                      have a2 := (q2.lt g e.symm).2
                      omega
                  · have h3 := H4.out.2.2.2.1
                    rw [HH.out.2.2.2.2.2.1] at h3
                    have hcl := own_same h2 h3
                    rw [hcl]
                    rw [HH.out.2.2.2.2.2.1] at ho
                    exact ho)
                clear ho hg hat x0 x1
                go_wp2_with fail
                exact ⟨HN2.out, by have := H1.out.2.2; simp [intOf]; omega⟩
    · have d0 : decide (h < N) = false := by simpa using hhn
      obtain rfl : h = N := by omega
      have FIN := Lib.hid (show LoopsRT w (lpsL G) wo (.returned u4) from ⟨_, rfl, by rw [lpsL_is (by rw [HH.out.2.2.2.2.2.1]; have := HH.out.2.2.2.2.2.2.2.2.2; omega), HH.out.2.2.2.2.2.1]; exact (by rw [← HH.out.2.2.2.2.2.1]; rw [← HH.out.2.2.2.2.2.1] at hls; exact hls.lower HDD.out.be.size), belowB HDD.out.be hbe⟩)
      clear hls hbe hhn hh HST
      go_wp2_with fail
      go_ret
      exact FIN.out
end Go.Proofs.Ytomfmkddfgpmkaa
