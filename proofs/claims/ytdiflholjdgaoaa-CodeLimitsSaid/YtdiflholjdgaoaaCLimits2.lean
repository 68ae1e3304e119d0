/-
  CodeLimits: so much code and no more: the statement's own body says true.
-/
import Derived.Test.YtdiflholjdgaoaaCLimits
import Derived.Deep.RegionHeld3
namespace Go.Proofs.Ytdiflholjdgaoaa
open Go Go.RowKit Go.Maps Cd

/-- An instruction stays where a block is written that is none of its own. -/
theorem InsAt.set {B : Nat} {w : World} {bi j op b o : Nat} {v : Value} (h : InsAt B w bi j op) (hb : b ≠ bi) (hne : ∀ ba, Blk ba #[I (argOf op)] 3 w → ba ≠ b) : InsAt B (w.setCell ⟨b, o, none⟩ v) bi j op := by
  obtain ⟨hbi, av, h0, h1, h2, h3, h4, h5, h6⟩ := h
  have e : ∀ x, (w.setCell ⟨b, o, none⟩ v).cell? ⟨bi, x, none⟩ = w.cell? ⟨bi, x, none⟩ := fun x => World.cell?_of_block (w := w) (a := ⟨bi, x, none⟩) (Below.heap_setCell _ _ _ _ (Ne.symm hb))
  refine ⟨hbi, av, (e _).trans h0, (e _).trans h1, (e _).trans h2, (e _).trans h3, (e _).trans h4, (e _).trans h5, ?_⟩
  rcases h6 with h | ⟨h, ba, hba, e, hk⟩
  · exact Or.inl h
  · exact Or.inr ⟨h, ba, hba, e, hk.setOther (hne ba hk) _ _⟩
theorem Blk.inj {b : Nat} {cs cs' : Array Value} {T T' : TypeId} {w : World} (h : Blk b cs T w) (h' : Blk b cs' T' w) : cs.size = cs'.size := by
  unfold Blk at h h'
  rw [h] at h'
  have := Option.some.inj h'
  injection this with h1 _ _
  rw [h1]

set_option maxRecDepth 100000 in
set_option maxHeartbeats 3200000 in
theorem codeLimits_any (m : Nat) (hm : m < 256) (w : World) : Calls Try.prog 11 #[.int .u8 (m : Int)] w fun e w' => e = .returned (.bool true) ∧ Below w.heap.size w w' := by
  obtain ⟨d, hd⟩ : ∃ d, d = m % 10 := ⟨_, rfl⟩
  have hdl : d < 10 := by omega
  have hmod : (m : Int) % 10 = (d : Int) := by omega
  have hmod2 : (m : Int).tmod 10 = (d : Int) := by rw [Int.tmod_eq_emod_of_nonneg (by omega)]; exact hmod
  obtain ⟨k, hk⟩ : ∃ k, k = 39995 + d := ⟨_, rfl⟩
  have hkI : (39995 : Int) + (d : Int) = (k : Int) := by omega
  have hk1 : 39995 ≤ k := by omega
  have hk2 : k ≤ 40004 := by omega
  have HK := Lib.hid (And.intro hd (And.intro hk hdl))
  have hmk := mkInsts k (by omega)
  clear hd hk
  go_enter Try.func11, Try.ntmps11
  go_wp2_with fail
  refine (awake_code w).mono ?_
  rintro e w1 ⟨rfl, b1⟩
  have H1 := Lib.hid b1
  clear b1
  go_wp2_with fail
  refine (little_none w1).mono ?_
  rintro e w2 ⟨bf, bb, bi0, cap, rfl, cd, b2, lf, lb, nfb⟩
  have H2 := Lib.hid (And.intro cd (And.intro b2 (And.intro lf (And.intro lb nfb))))
  clear cd b2 lf lb nfb
  go_upto_region 4 with (fail)
  go_wp2_with fail
  obtain ⟨p3, hp3⟩ : ∃ p, p = w2.heap.size := ⟨_, rfl⟩
  obtain ⟨bi, hbi⟩ : ∃ p, p = w2.heap.size + 1 := ⟨_, rfl⟩
  obtain ⟨W, hW⟩ : ∃ W, W = (w2.alloc (codC bf)).alloc (.cells (madeCells instZ (k * 6)) 72) := ⟨_, rfl⟩
  have hbel : Below w2.heap.size w2 W := by rw [hW]; exact ((Below.refl _ _).alloc (Nat.le_refl _) _).alloc (by simp) _
  have kp3 : Blk p3 #[.slice (some ⟨bf, 0, none⟩) 1 1, .slice none 0 0, I 0] 52 W := by rw [hW, hp3]; exact (Blk.new _ _ _).alloc _
  have kbi : Blk bi (madeCells instZ (k * 6)) 72 W := by rw [hW, hbi]; exact Blk.new' _ _ _ (by simp)
  have H3 := Lib.hid (And.intro hbel (And.intro kp3 (And.intro kbi (And.intro hp3 hbi))))
  rw [← hbi, ← hp3]
  change Code.wp _ _ _ _ ((w2.alloc (codC bf)).alloc (.cells (madeCells instZ (k * 6)) 72))
  rw [← hW]
  clear hp3 hbi hW hbel kp3 kbi
  go_loopw [20] (fun i wr => PRel bi k W i wr) (fun i _ => k - (intOf i).toNat)
  case atStart => exact ⟨0, _, Nat.zero_le _, rfl, H3.out.2.2.1, size_madeCells _ _, fun _ h => absurd h (by omega), ⟨rfl, rfl, rfl, Nat.le_refl _, fun _ _ _ => rfl⟩⟩
  case round =>
    obtain ⟨j, cur, hj, rfl, hc, hcs, hpr, hgr⟩ := hrel
    by_cases hlt : j < k
    · have cell : ∀ m, m < 6 → wr.cell? ⟨bi, j * 6 + m, none⟩ = some (cur[j * 6 + m]!) := by
        intro m hm
        refine hc.get (j * 6 + m) _ ?_
        rw [getElem!_pos cur (j * 6 + m) (by omega)]
        exact Array.getElem?_eq_getElem _
      have c0 := cell 0 (by omega)
      have c1 := cell 1 (by omega)
      have c2 := cell 2 (by omega)
      have c3 := cell 3 (by omega)
      have c4 := cell 4 (by omega)
      have c5 := cell 5 (by omega)
      have f0 := hc.free (j * 6)
      have f1 := hc.free (j * 6 + 1)
      have f2 := hc.free (j * 6 + 2)
      have f3 := hc.free (j * 6 + 3)
      have f4 := hc.free (j * 6 + 4)
      have f5 := hc.free (j * 6 + 5)
      rw [Nat.add_zero] at c0
      generalize cur[j * 6 + 0]! = u0 at c0
      generalize cur[j * 6 + 1]! = u1 at c1
      generalize cur[j * 6 + 2]! = u2 at c2
      generalize cur[j * 6 + 3]! = u3 at c3
      generalize cur[j * 6 + 4]! = u4 at c4
      generalize cur[j * 6 + 5]! = u5 at c5
      have l1 := hc.lt
      have l2 : ¬ bi = wr.heap.size := by omega
      have HR := Lib.hid (And.intro hc (And.intro hcs (And.intro hpr hgr)))
      have hltI : decide ((j : Int) < (k : Int)) = true := by simp; omega
      clear hc hcs hpr hgr cell
      go_wp2_with fail
      exact ⟨print_step hlt HR.out.1 HR.out.2.1 HR.out.2.2.1 HR.out.2.2.2, by simp [intOf]; omega⟩
    · obtain rfl : j = k := by omega
      have HR := Lib.hid (And.intro hc (And.intro hcs (And.intro hpr hgr)))
      have c0 : wr.cell? ⟨bi, 0, none⟩ = some (cur[0]!) := hc.get 0 _ (by rw [getElem!_pos cur 0 (by omega)]; exact Array.getElem?_eq_getElem _)
      have c1 : wr.cell? ⟨bi, 1, none⟩ = some (cur[1]!) := hc.get 1 _ (by rw [getElem!_pos cur 1 (by omega)]; exact Array.getElem?_eq_getElem _)
      have c2 : wr.cell? ⟨bi, 2, none⟩ = some (cur[2]!) := hc.get 2 _ (by rw [getElem!_pos cur 2 (by omega)]; exact Array.getElem?_eq_getElem _)
      have c3 : wr.cell? ⟨bi, 3, none⟩ = some (cur[3]!) := hc.get 3 _ (by rw [getElem!_pos cur 3 (by omega)]; exact Array.getElem?_eq_getElem _)
      have c4 : wr.cell? ⟨bi, 4, none⟩ = some (cur[4]!) := hc.get 4 _ (by rw [getElem!_pos cur 4 (by omega)]; exact Array.getElem?_eq_getElem _)
      have c5 : wr.cell? ⟨bi, 5, none⟩ = some (cur[5]!) := hc.get 5 _ (by rw [getElem!_pos cur 5 (by omega)]; exact Array.getElem?_eq_getElem _)
      generalize cur[0]! = u0 at c0
      generalize cur[1]! = u1 at c1
      generalize cur[2]! = u2 at c2
      generalize cur[3]! = u3 at c3
      generalize cur[4]! = u4 at c4
      generalize cur[5]! = u5 at c5
      have f0 := hc.free 0
      have f1 := hc.free 1
      have f2 := hc.free 2
      have f3 := hc.free 3
      have f4 := hc.free 4
      have f5 := hc.free 5
      have hltI : decide ((j : Int) < (j : Int)) = false := by simp
      have hj0 : 0 < j := by omega
      clear hc hcs hpr hgr
      have hS := HR.out.1.put6 0 (.int .u8 30) (I 0) (.slice none 0 0) (I 7) (I 0) (.slice none 0 0)
      have hgw : W.grownBy wr (some bi) := HR.out.2.2.2
      have hbW : Below w2.heap.size w2 wr := below_of_grown H3.out.1 hgw H3.out.1.size (by have := H3.out.2.2.2.2; omega)
      obtain ⟨W4, hW4⟩ : ∃ W4, W4 = put6 wr bi 0 (.int .u8 30) (I 0) (.slice none 0 0) (I 7) (I 0) (.slice none 0 0) := ⟨_, rfl⟩
      rw [← hW4] at hS
      have hs4 : W4.heap.size = wr.heap.size := by rw [hW4]; exact put6_size _ _ _ _ _ _ _ _ _
      have hg4 : wr.grownBy W4 (some bi) := by rw [hW4]; exact put6_grown _ _ _ _ _ _ _ _ _
      have hb4 : Below w2.heap.size w2 W4 := below_of_grown hbW hg4 hbW.size (by have := H3.out.2.2.2.2; omega)
      have kp4 : Blk p3 #[.slice (some ⟨bf, 0, none⟩) 1 1, .slice none 0 0, I 0] 52 W4 := by
        have hne : p3 ≠ bi := by have := H3.out.2.2.2.1; have := H3.out.2.2.2.2; omega
        exact Blk.other (H3.out.2.1.other hgw (by simpa using hne)) hg4 (by simpa using hne)
      have hc6 : 0 + 6 ≤ cur.size := by have := HR.out.2.1; omega
      have ins4 : ∀ B, W4.heap.size ≤ B → ∀ i, i < j → InsAt B W4 bi i (ksL i) := by
        intro B hB i hi
        have hbB : bi < B := Nat.lt_of_lt_of_le hS.lt hB
        rcases Nat.eq_zero_or_pos i with h | h
        · subst h
          have key : ∀ m, m < 6 → W4.cell? ⟨bi, 0 + m, none⟩ = (instL 30 (.slice none 0 0))[m]? := fun m hm => (hS.cellE (0 + m)).trans (set6A_is cur 0 _ _ _ _ _ _ _ inst30 hc6 m hm)
          exact ⟨hbB, .slice none 0 0, key 0 (by decide), key 1 (by decide), key 2 (by decide), key 3 (by decide), key 4 (by decide), key 5 (by decide), Or.inl ⟨rfl, rfl⟩⟩
        · obtain ⟨ba, h1, h2, h3⟩ := HR.out.2.2.1 i hi
          have key : ∀ m, m < 6 → W4.cell? ⟨bi, i * 6 + m, none⟩ = (instL 40 (.slice (some ⟨ba, 0, none⟩) 1 1))[m]? := fun m hm => (hS.cellE (i * 6 + m)).trans ((set6A_lt cur 0 _ _ _ _ _ _ (i * 6 + m) (by omega)).trans ((HR.out.1.cellE (i * 6 + m)).symm.trans (h3 m hm)))
          have hka : Blk ba #[I 0] 3 W4 := h2.other hg4 (by simpa using h1)
          have e : ksL i = 40 := by show (if _ then _ else _) = _; rw [if_neg (by omega)]
          rw [e]
          exact ⟨hbB, _, key 0 (by decide), key 1 (by decide), key 2 (by decide), key 3 (by decide), key 4 (by decide), key 5 (by decide), Or.inr ⟨Or.inr rfl, ba, Nat.lt_of_lt_of_le hka.lt hB, rfl, hka⟩⟩
      have cd4 := H2.out.1.same (same_of_below hb4 (Nat.le_refl _)) hb4.size
      have H4 := Lib.hid (And.intro hb4 (And.intro kp4 (And.intro ins4 (And.intro cd4 (And.intro hS hs4)))))
      have HW4 := Lib.hid hW4
      go_upto_region 12 with (fail)
      change Code.wp _ _ _ _ (put6 wr bi 0 (.int .u8 30) (I 0) (.slice none 0 0) (I 7) (I 0) (.slice none 0 0))
      rw [← HW4.out]
      clear hS hgw hbW hW4 hs4 hg4 hb4 kp4 ins4 cd4 hc6 c0 c1 c2 c3 c4 c5 f0 f1 f2 f3 f4 f5 HW4
      have x0 := H4.out.2.1.get 0 (.slice (some ⟨bf, 0, none⟩) 1 1) rfl
      have x1 := H4.out.2.1.get 1 (.slice none 0 0) rfl
      have x2 := H4.out.2.1.get 2 (I 0) rfl
      have y3 := H4.out.2.2.2.1.fn.get 3 (.slice (some ⟨bb, 0, none⟩) 1 1) rfl
      have z1 := H4.out.2.2.2.1.bl.get 1 (.slice (some ⟨bi0, 0, none⟩) 1 cap) rfl
      have g1 := H4.out.2.2.2.1.bl.free 1
      obtain ⟨W5, hW5⟩ : ∃ W5, W5 = W4.setCell ⟨bb, 1, none⟩ (.slice (some ⟨bi, 0, none⟩) j j) := ⟨_, rfl⟩
      have hs5 : W5.heap.size = W4.heap.size := by rw [hW5]; simp [World.setCell]
      have hbb2 : bb < w2.heap.size := H2.out.1.hb
      have hbf2 : bf < w2.heap.size := H2.out.1.hf
      have ebi := H3.out.2.2.2.2
      have ep3 := H3.out.2.2.2.1
      have cd5 : Cod W5.heap.size bf bb bi j j ksL 3 W5 := by
        refine ⟨?_, ?_, fun i hi => ?_, ?_, ?_, Nat.le_refl _, by omega⟩
        · rw [hW5]; exact H4.out.2.2.2.1.fn.setOther H2.out.2.2.2.2 _ _
        · rw [hW5]; exact H4.out.2.2.2.1.bl.set 1 _
        · have h := H4.out.2.2.1 W5.heap.size (by omega) i hi
          have h2 := h.set (b := bb) (o := 1) (v := .slice (some ⟨bi, 0, none⟩) j j) (by omega) (fun ba hk e => by subst e; have := hk.inj H4.out.2.2.2.1.bl; simp at this)
          rw [← hW5] at h2
          exact h2
        · have := hs5; have := H4.out.1.size; omega
        · have := hs5; have := H4.out.1.size; omega
      have hbw5 : Below w1.heap.size w1 W5 := by
        rw [hW5]
        exact (H2.out.2.1.trans (H4.out.1.mono H2.out.2.1.size)).setCell (p := ⟨bb, 1, none⟩) (by show w1.heap.size ≤ bb; exact H2.out.2.2.2.1) _
      have kp5 : Blk p3 #[.slice (some ⟨bf, 0, none⟩) 1 1, .slice none 0 0, I 0] 52 W5 := by rw [hW5]; exact H4.out.2.1.setOther (by omega) _ _
      have H5 := Lib.hid (And.intro cd5 (And.intro hbw5 kp5))
      have HW5 := Lib.hid hW5
      clear hW5 hs5 hbb2 hbf2 ebi ep3 cd5 hbw5 kp5
      go_upto_region 13 with (fail)
      rw [← HW5.out]
      clear x0 x1 x2 y3 z1 g1 HW5
      go_wp2_with fail
      refine (little_none W5).mono ?_
      rintro e w6 ⟨bf2, bb2, bi2, cap2, rfl, cd6, b6, lf, lb, nfb⟩
      obtain ⟨p7, hp7⟩ : ∃ p, p = w6.heap.size := ⟨_, rfl⟩
      obtain ⟨W6, hW6⟩ : ∃ W6, W6 = w6.alloc (codC bf2) := ⟨_, rfl⟩
      have hb6 : Below w6.heap.size w6 W6 := by rw [hW6]; exact (Below.refl _ _).alloc (Nat.le_refl _) _
      have kp7 : Blk p7 #[.slice (some ⟨bf2, 0, none⟩) 1 1, .slice none 0 0, I 0] 52 W6 := by rw [hW6, hp7]; exact Blk.new _ _ _
      obtain ⟨vals, hvals⟩ : ∃ v : Int, v = 59995 + (d : Int) := ⟨_, rfl⟩
      have hv1 : 1 ≤ vals := by omega
      obtain ⟨W7, hW7⟩ : ∃ W7, W7 = W6.setCell ⟨bf2, 2, none⟩ (I vals) := ⟨_, rfl⟩
      have cd6' := cd6.below hb6
      have hs7 : W7.heap.size = W6.heap.size := by rw [hW7]; simp [World.setCell]
      have hb67 : Below w6.heap.size w6 W6 := hb6
      have hfl := cd6.hf
      have hW67 : W6.heap.size = w6.heap.size + 1 := by rw [hW6]; simp
      have cd7 : Cod W7.heap.size bf2 bb2 bi2 1 cap2 ks1 vals W7 := by
        have hins := cd6'.ins
        refine ⟨?_, ?_, fun i hi => ?_, ?_, ?_, Nat.le_refl _, by omega⟩
        · rw [hW7]; exact cd6'.fn.set 2 _
        · rw [hW7]; exact cd6'.bl.setOther (Ne.symm nfb) _ _
        · have h := hins i hi
          have hbl : bi2 < w6.heap.size := h.1
          obtain ⟨h0, av, h1⟩ := h
          have hne : bf2 ≠ bi2 := by
            intro e
            subst e
            have hx := h1.1
            rw [cd6'.fn.cellE] at hx
            obtain rfl : i = 0 := by omega
            simp at hx
          have h2 := InsAt.set (b := bf2) (o := 2) (v := I vals) (⟨h0, av, h1⟩ : InsAt w6.heap.size W6 bi2 i 30) hne (fun ba hk e => by subst e; have := hk.inj cd6'.fn; simp at this)
          rw [← hW7] at h2
          obtain ⟨g0, gv, g1, g2, g3, g4, g5, g6, g7⟩ := h2
          refine ⟨by omega, gv, g1, g2, g3, g4, g5, g6, ?_⟩
          rcases g7 with g | ⟨g, ba, g8, g9, g10⟩
          · exact Or.inl g
          · exact Or.inr ⟨g, ba, by omega, g9, g10⟩
        · omega
        · have := cd6.hb; omega
      have hneP : p7 ≠ bf2 := by omega
      have kp7' : Blk p7 #[.slice (some ⟨bf2, 0, none⟩) 1 1, .slice none 0 0, I 0] 52 W7 := by rw [hW7]; exact kp7.setOther hneP _ _
      have hbw7 : Below W5.heap.size W5 W7 := by
        rw [hW7]
        exact (b6.trans (hb6.mono b6.size)).setCell (p := ⟨bf2, 2, none⟩) (by show W5.heap.size ≤ bf2; exact lf) _
      have f2 := cd6'.fn.get 2 (I 3) rfl
      have g2 := cd6'.fn.free 2
      have x0 := kp7.get 0 (.slice (some ⟨bf2, 0, none⟩) 1 1) rfl
      have x1 := kp7.get 1 (.slice none 0 0) rfl
      have x2 := kp7.get 2 (I 0) rfl
      have H7 := Lib.hid (And.intro cd7 (And.intro kp7' (And.intro hbw7 hv1)))
      have HW7 := Lib.hid (And.intro hW6 (And.intro hp7 (And.intro hW7 hvals)))
      clear cd6 b6 lf lb nfb hp7 hW6 hb6 kp7 hvals hv1 hW7 cd6' hs7 hb67 hfl hW67 cd7 hneP kp7' hbw7
      go_upto_region 14 with (fail)
      rw [← HW7.out.2.1]
      change Code.wp _ _ _ _ (w6.alloc (codC bf2))
      rw [← HW7.out.1]
      go_upto_region 15 with (fail)
      rw [← HW7.out.2.2.2]
      change Code.wp _ _ _ _ (W6.setCell ⟨bf2, 2, none⟩ (I vals))
      rw [← HW7.out.2.2.1]
      clear f2 g2 x0 x1 x2
      have x0 := H7.out.2.1.get 0 (.slice (some ⟨bf2, 0, none⟩) 1 1) rfl
      have x1 := H7.out.2.1.get 1 (.slice none 0 0) rfl
      have x2 := H7.out.2.1.get 2 (I 0) rfl
      have y2 := H7.out.1.fn.get 2 (I vals) rfl
      have l7 : p7 < W7.heap.size := H7.out.2.1.lt
      have lf2 : bf2 < W7.heap.size := H7.out.1.hf
      have HC := fun n => Lib.hid (check_one _ bf2 bb2 bi2 1 cap2 ks1 vals (W7.drewN n) (H7.out.1.below (below_drewN (Below.refl _ _) n)) (fun _ => note1_ok vals H7.out.2.2.2) note1_zero)
      rw [checkV vals H7.out.2.2.2] at HC
      obtain ⟨cv, hcv⟩ : ∃ cv : Int, cv = if vals ≤ 60000 then 0 else 3 := ⟨_, rfl⟩
      rw [← hcv] at HC
      obtain ⟨q, hq⟩ : ∃ q, q = decide (vals ≤ 60000) := ⟨_, rfl⟩
      have q1 : (cv == 0) = q := by
        rw [hcv, hq]
        by_cases h : vals ≤ 60000
        · rw [if_pos h, decide_eq_true h]; rfl
        · rw [if_neg h, decide_eq_false h]; rfl
      have q2 : decide (vals ≤ 60000) = q := hq.symm
      clear hcv hq
      go_region_held3 (fun w' => w'.cell? ⟨p7, 0, none⟩ = some (.slice (some ⟨bf2, 0, none⟩) 1 1) ∧ w'.cell? ⟨p7, 1, none⟩ = some (.slice none 0 0) ∧ w'.cell? ⟨p7, 2, none⟩ = some (I 0) ∧ w'.cell? ⟨bf2, 2, none⟩ = some (I vals)) (first | exact hS4 | exact ⟨x0, x1, x2, y2⟩ | go_keep) (first | (go_at_call 35; refine (HC _).out.mono ?_; rintro e w8 ⟨rfl, hb8⟩; have hS4 := And.intro (cell_below hb8 l7 x0) (And.intro (cell_below hb8 l7 x1) (And.intro (cell_below hb8 l7 x2) (cell_below hb8 lf2 y2)))))
      have hb58 : Below W5.heap.size W5 w8 := H7.out.2.2.1.trans (Below.mono (show Below W7.heap.size W7 w8 from ⟨hb8.os, hb8.tape, hb8.output, hb8.size, hb8.block⟩) H7.out.2.2.1.size)
      have cd8 := H5.out.1.below hb58
      have kp8 := H5.out.2.2.below hb58 H5.out.2.2.lt
      have c0 := kp8.get 0 (.slice (some ⟨bf, 0, none⟩) 1 1) rfl
      have c1 := kp8.get 1 (.slice none 0 0) rfl
      have c2 := kp8.get 2 (I 0) rfl
      obtain ⟨jj, hjj⟩ : ∃ jj, j = jj + 1 := ⟨j - 1, by omega⟩
      obtain ⟨ck, hck⟩ : ∃ ck : Int, ck = if 40000 < j then 15 else 0 := ⟨_, rfl⟩
      have HD := Lib.hid (check_one _ bf bb bi j j ksL 3 w8 cd8 (fun _ => noteL_ok 3 j (by decide)) (by rw [hjj]; exact noteL_zero jj))
      rw [show checkI ksL j 3 = ck by rw [hck, hjj]; exact checkL jj] at HD
      have H8 := Lib.hid (And.intro (H1.out.trans ((H5.out.2.1.trans (hb58.mono H5.out.2.1.size)).mono H1.out.size)) hck)
      clear hb8 hS4 hb58 cd8 kp8 hjj hck x0 x1 x2 y2 l7 lf2
      go_wp2_with fail
      refine HD.out.mono ?_
      rintro e w9 ⟨rfl, b9⟩
      have FIN := Lib.hid (H8.out.1.trans (b9.mono H8.out.1.size))
      clear b9
      by_cases hbig : 40000 < j
      · obtain rfl : ck = 15 := by rw [H8.out.2, if_pos hbig]
        have g1 : decide ((j : Int) ≤ 40000) = false := by simp; omega
        have g2 : decide ((40000 : Int) < (j : Int)) = true := by simp; omega
        go_wp2_with fail
        go_ret
        exact ⟨rfl, FIN.out⟩
      · obtain rfl : ck = 0 := by rw [H8.out.2, if_neg hbig]
        have g1 : decide ((j : Int) ≤ 40000) = true := by simp; omega
        have g2 : decide ((40000 : Int) < (j : Int)) = false := by simp; omega
        go_wp2_with fail
        go_ret
        exact ⟨rfl, FIN.out⟩
end Go.Proofs.Ytdiflholjdgaoaa
