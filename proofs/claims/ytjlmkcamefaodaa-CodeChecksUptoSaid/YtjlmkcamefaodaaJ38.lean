/-
  Joined: CdH.
-/
import Derived.Test.YtjlmkcamefaodaaJ05
import Derived.Test.YtjlmkcamefaodaaJ37
import Derived.Deep.RegionHeld3
/-! CdH: The ways of a function of code: the document's own answer, walked. -/

namespace Go.Proofs.Ytjlmkcamefaodaa
open Go Go.RowKit Cd

def RgR (w : World) (f : FunP) (ov iv : Value) (W : World) : Prop := ∃ i : Nat, i ≤ f.blocks.length ∧ iv = I (i : Int) ∧ OwnS w.heap.size 41 1 RowV W ov ((f.blocks.map waysB).take i) ∧ Below w.heap.size w W
theorem infoRow : (Try.prog.info? 41).map (fun i => (i.zero, i.size, i.bytes)) = some (some (.slice none 0 0), 1, 24) := by kernel_rfl
set_option maxRecDepth 100000 in
set_option maxHeartbeats 6400000 in
theorem refGraph_any (f : FunP) (hs : SmallL f) (ba : Option Addr) (L bc : Nat) (w : World) (h : BlocksZ w (.slice ba L bc) f.blocks) :
    Calls Try.prog 29 #[.agg #[I f.params, I f.vars, I f.vals, .slice ba L bc]] w fun e w' => WaysT w f w' e := by
  obtain ⟨iL, p1, p2, p3, p4⟩ := info_parts infoRow
  have HL := Lib.hid (And.intro p1 (And.intro p2 (And.intro p3 p4)))
  clear p1 p2 p3 p4
  have hn : L = f.blocks.length := by
    obtain ⟨a', c', e, _⟩ := h
    injection e
  have hnb : L ≤ 1000000 := by unfold SmallL at hs; omega
  have HH := Lib.hid (And.intro h (And.intro hn hnb))
  have hB1 : Below w.heap.size w (w.alloc (.cells #[I f.params, I f.vars, I f.vals, .slice ba L bc] 36)) := (Below.refl _ _).alloc (Nat.le_refl _) _
  have HST := Lib.hid (show RgR w f (.slice none 0 0) (I 0) (w.alloc (.cells #[I f.params, I f.vars, I f.vals, .slice ba L bc] 36)) from ⟨0, Nat.zero_le _, rfl, OwnS.start, hB1⟩)
  clear h hn hs hB1
  go_enter Try.func29, Try.ntmps29
  go_wp2_with fail
  go_loopw [3, 10] (fun ov iv W => RgR w f ov iv W) (fun _ iv _ => L - (intOf iv).toNat)
  case atStart => exact HST.out
  case round =>
    obtain ⟨i, hi, rfl, hown, hb⟩ := hrel
    by_cases hin : i < L
    · have il : i < f.blocks.length := by have := HH.out.2.1; omega
      obtain ⟨g1, _, e1, gl, c0, pv, iv, rfl, hpz, hiz⟩ := (HH.out.1.below blockV_stays hb).at i il
      subst e1
      obtain ⟨pa, pc, rfl⟩ := hpz.size
      obtain ⟨ia, ic, rfl⟩ := hiz.size
      obtain ⟨x, hx⟩ : ∃ x, x = f.blocks[i] := ⟨_, rfl⟩
      have hli : i < (f.blocks.map waysB).length := by simpa using il
      have htk : (f.blocks.map waysB).take (i + 1) = (f.blocks.map waysB).take i ++ [waysB x] := by rw [List.take_succ_eq_append_getElem hli, hx]; simp
      rw [← hx] at c0
      obtain ⟨P, hP⟩ : ∃ P, P = x.phis.length := ⟨_, rfl⟩
      obtain ⟨J, hJ⟩ : ∃ J, J = x.insts.length := ⟨_, rfl⟩
      rw [← hP, ← hJ] at c0
      have x0 := c0.f0
      have x1 := c0.f1
      have x2 := c0.f2
      have x3 := c0.f3
      have x4 := c0.f4
      have x5 := c0.f5
      have H1 := Lib.hid (And.intro hown (And.intro hb (And.intro htk hin)))
      have d0 : decide (i < L) = true := by simpa using hin
      have d1 : (0 : Int) ≤ (i : Int) := by omega
      have d2 : (i : Int) < (L : Int) := by omega
      clear hown hb htk hli c0 hx hP hJ hpz hiz gl il hin hi HST
      by_cases h1 : x.fin = 1
      · have g1 : (x.fin == 1) = true := by simpa using h1
        obtain ⟨W6, hW6⟩ : ∃ W, W = (wr.alloc (.cells #[.slice pa P pc, .slice ia J ic, U8 1, I x.arg, I x.to, I x.els] 40)).alloc (.cells #[I x.to] 3) := ⟨_, rfl⟩
        have hB6 : Below wr.heap.size wr W6 := by rw [hW6]; exact ((Below.refl _ _).alloc (Nat.le_refl _) _).alloc (by simp) _
        have hatz : AtZ (.slice (some ⟨wr.heap.size + 1, 0, none⟩) 1 1) (waysB x) := by
          unfold waysB
          rw [if_pos h1]
          exact Or.inr ⟨by simp, _, _, rfl⟩
        have hrow : SlS (GeW wr.heap.size W6) 1 IntV W6 (.slice (some ⟨wr.heap.size + 1, 0, none⟩) 1 1) (waysB x) := by
          unfold waysB
          rw [if_pos h1]
          exact row_new [x.to] (by rw [hW6]; exact Blk.new' _ _ _ (by simp)) _ ⟨⟨by omega, by rw [hW6]; simp⟩, ⟨_, _, by rw [hW6]; exact Blk.new' _ _ _ (by simp)⟩⟩
        have hown6 := H1.out.1.below rowV_stays hB6
        have hvb : ∀ n, some n = u3.ownBlock → n < wr.heap.size := fun n e => by
          obtain ⟨cs, _, _, q3, _⟩ := H1.out.1
          exact (q3.lt n e.symm).2
        have hbs := H1.out.2.1.size
        have hx6 : RowV (SxW w.heap.size u3 W6) W6 [(.slice (some ⟨wr.heap.size + 1, 0, none⟩) 1 1)] (waysB x) := ⟨_, rfl, hrow.keepF intV_stays (fun _ _ => rfl) (fun m hm => ⟨by have := hm.1; omega, hm.2, fun e => by have := hvb m e; have := hm.1; omega⟩), hatz⟩
        obtain ⟨cs, q1, q2, q3, q4⟩ := hown6
        obtain ⟨li, hli⟩ : ∃ n, n = ((f.blocks.map waysB).take i).length := ⟨_, rfl⟩
        have hlib : li ≤ 4000000 := by rw [hli, List.length_take]; have := H1.out.2.2.2; have := HH.out.2.2; omega
        rw [← hli] at q3
        have H6 := Lib.hid (And.intro hB6 (And.intro q1 (And.intro q2 (And.intro q3 (And.intro hx6 (And.intro hli hlib))))))
        have HQ6 := Lib.hid q4
        have HW6 := Lib.hid hW6
        clear hB6 hrow hatz hvb hbs hx6 q1 q2 q3 q4 hli hlib hW6
        go_upto_region 10 with (fail)
        change Code.wp _ _ _ _ ((wr.alloc (.cells #[.slice pa P pc, .slice ia J ic, U8 1, I x.arg, I x.to, I x.els] 40)).alloc (.cells #[I x.to] 3))
        rw [← HW6.out]
        go_wp2_with (first | (at_builtin; refine Hid.out ?_) | go_in)
        unfold Hid
        change wpList _ _ _ _ _ (W6.alloc (.cells #[(.slice (some ⟨wr.heap.size + 1, 0, none⟩) 1 1)] 41))
        refine wpList_append_lies _ rfl (.tmp 28) (.tmp 30) 62 rfl w.heap.size 41 iL (.slice none 0 0) 1 24 Try.underlying62 HL.out.1 HL.out.2.1 HL.out.2.2.1 HL.out.2.2.2 rfl (by decide) u3 li cs.flatten rfl (H6.out.2.2.2.1.alloc _) ⟨W6.heap.size, 0, none⟩ 1 1 [(.slice (some ⟨wr.heap.size + 1, 0, none⟩) 1 1)] rfl rfl (World.news_of_block (heap_alloc_new W6 _)) (by simp [Value.oneCell']) (by decide) (by have := H6.out.2.2.2.2.2.2; unfold maxLen; omega) (by have := H6.out.2.2.2.2.2.2; omega) (by have h1 := H6.out.1.size; have h2 := H1.out.2.1.size; simp; omega) _ rfl ?_
        intro gg cg w9 hown9 hgr9 hat9 hlt9
        have HN9 := Lib.hid (show RgR w f (.slice (some ⟨gg, 0, none⟩) (li + 1) cg) (I ((i : Int) + 1)) w9 from ⟨i + 1, by have := H1.out.2.2.2; have := HH.out.2.1; omega, rfl, by
          rw [H1.out.2.2.1]
          refine OwnS.app rowV_stays H6.out.2.1 H6.out.2.2.1 HQ6.out H6.out.2.2.2.2.1 rfl hgr9 (by rw [← H6.out.2.2.2.2.2.1]; exact hown9) ?_
          rcases hat9 with e | e
          · exact Or.inl (by rw [e]; rfl)
          · exact Or.inr (by rw [e]; rfl), by
          have hb9 := below_tr H1.out.2.1 H6.out.1
          exact (hb9.alloc hb9.size _).grown hgr9 (by have := hb9.size; simp; omega) (fun k hk => (H6.out.2.2.2.1.lt k hk).1)⟩)
        clear hown9 hgr9 hat9 hlt9
        go_wp2_with fail
        exact ⟨HN9.out, by have := H1.out.2.2.2; simp [intOf]; omega⟩
      · have g1 : (x.fin == 1) = false := by simpa using h1
        by_cases h2 : x.fin = 2
        · have g2 : (x.fin == 2) = true := by simpa using h2
          obtain ⟨W6, hW6⟩ : ∃ W, W = (wr.alloc (.cells #[.slice pa P pc, .slice ia J ic, U8 2, I x.arg, I x.to, I x.els] 40)).alloc (.cells #[I x.to, I x.els] 3) := ⟨_, rfl⟩
          have hB6 : Below wr.heap.size wr W6 := by rw [hW6]; exact ((Below.refl _ _).alloc (Nat.le_refl _) _).alloc (by simp) _
          have hatz : AtZ (.slice (some ⟨wr.heap.size + 1, 0, none⟩) 2 2) (waysB x) := by
            unfold waysB
            rw [if_neg h1, if_pos h2]
            exact Or.inr ⟨by simp, _, _, rfl⟩
          have hrow : SlS (GeW wr.heap.size W6) 1 IntV W6 (.slice (some ⟨wr.heap.size + 1, 0, none⟩) 2 2) (waysB x) := by
            unfold waysB
            rw [if_neg h1, if_pos h2]
            exact row_new [x.to, x.els] (by rw [hW6]; exact Blk.new' _ _ _ (by simp)) _ ⟨⟨by omega, by rw [hW6]; simp⟩, ⟨_, _, by rw [hW6]; exact Blk.new' _ _ _ (by simp)⟩⟩
          have hown6 := H1.out.1.below rowV_stays hB6
          have hvb : ∀ n, some n = u3.ownBlock → n < wr.heap.size := fun n e => by
            obtain ⟨cs, _, _, q3, _⟩ := H1.out.1
            exact (q3.lt n e.symm).2
          have hbs := H1.out.2.1.size
          have hx6 : RowV (SxW w.heap.size u3 W6) W6 [(.slice (some ⟨wr.heap.size + 1, 0, none⟩) 2 2)] (waysB x) := ⟨_, rfl, hrow.keepF intV_stays (fun _ _ => rfl) (fun m hm => ⟨by have := hm.1; omega, hm.2, fun e => by have := hvb m e; have := hm.1; omega⟩), hatz⟩
          obtain ⟨cs, q1, q2, q3, q4⟩ := hown6
          obtain ⟨li, hli⟩ : ∃ n, n = ((f.blocks.map waysB).take i).length := ⟨_, rfl⟩
          have hlib : li ≤ 4000000 := by rw [hli, List.length_take]; have := H1.out.2.2.2; have := HH.out.2.2; omega
          rw [← hli] at q3
          have H6 := Lib.hid (And.intro hB6 (And.intro q1 (And.intro q2 (And.intro q3 (And.intro hx6 (And.intro hli hlib))))))
          have HQ6 := Lib.hid q4
          have HW6 := Lib.hid hW6
          clear hB6 hrow hatz hvb hbs hx6 q1 q2 q3 q4 hli hlib hW6
          go_upto_region 10 with (fail)
          change Code.wp _ _ _ _ ((wr.alloc (.cells #[.slice pa P pc, .slice ia J ic, U8 2, I x.arg, I x.to, I x.els] 40)).alloc (.cells #[I x.to, I x.els] 3))
          rw [← HW6.out]
          go_wp2_with (first | (at_builtin; refine Hid.out ?_) | go_in)
          unfold Hid
          change wpList _ _ _ _ _ (W6.alloc (.cells #[(.slice (some ⟨wr.heap.size + 1, 0, none⟩) 2 2)] 41))
          refine wpList_append_lies _ rfl (.tmp 28) (.tmp 30) 62 rfl w.heap.size 41 iL (.slice none 0 0) 1 24 Try.underlying62 HL.out.1 HL.out.2.1 HL.out.2.2.1 HL.out.2.2.2 rfl (by decide) u3 li cs.flatten rfl (H6.out.2.2.2.1.alloc _) ⟨W6.heap.size, 0, none⟩ 1 1 [(.slice (some ⟨wr.heap.size + 1, 0, none⟩) 2 2)] rfl rfl (World.news_of_block (heap_alloc_new W6 _)) (by simp [Value.oneCell']) (by decide) (by have := H6.out.2.2.2.2.2.2; unfold maxLen; omega) (by have := H6.out.2.2.2.2.2.2; omega) (by have h1 := H6.out.1.size; have h2 := H1.out.2.1.size; simp; omega) _ rfl ?_
          intro gg cg w9 hown9 hgr9 hat9 hlt9
          have HN9 := Lib.hid (show RgR w f (.slice (some ⟨gg, 0, none⟩) (li + 1) cg) (I ((i : Int) + 1)) w9 from ⟨i + 1, by have := H1.out.2.2.2; have := HH.out.2.1; omega, rfl, by
            rw [H1.out.2.2.1]
            refine OwnS.app rowV_stays H6.out.2.1 H6.out.2.2.1 HQ6.out H6.out.2.2.2.2.1 rfl hgr9 (by rw [← H6.out.2.2.2.2.2.1]; exact hown9) ?_
            rcases hat9 with e | e
            · exact Or.inl (by rw [e]; rfl)
            · exact Or.inr (by rw [e]; rfl), by
            have hb9 := below_tr H1.out.2.1 H6.out.1
            exact (hb9.alloc hb9.size _).grown hgr9 (by have := hb9.size; simp; omega) (fun k hk => (H6.out.2.2.2.1.lt k hk).1)⟩)
          clear hown9 hgr9 hat9 hlt9
          go_wp2_with fail
          exact ⟨HN9.out, by have := H1.out.2.2.2; simp [intOf]; omega⟩
        · have g2 : (x.fin == 2) = false := by simpa using h2
          obtain ⟨W6, hW6⟩ : ∃ W, W = wr.alloc (.cells #[.slice pa P pc, .slice ia J ic, U8 x.fin, I x.arg, I x.to, I x.els] 40) := ⟨_, rfl⟩
          have hB6 : Below wr.heap.size wr W6 := by rw [hW6]; exact (Below.refl _ _).alloc (Nat.le_refl _) _
          have hatz : AtZ (.slice none 0 0) (waysB x) := by
            unfold waysB
            rw [if_neg h1, if_neg h2]
            exact Or.inl ⟨rfl, rfl⟩
          have hrow : SlS (GeW wr.heap.size W6) 1 IntV W6 (.slice none 0 0) (waysB x) := by
            unfold waysB
            rw [if_neg h1, if_neg h2]
            exact SlS.nil _ _
          have hown6 := H1.out.1.below rowV_stays hB6
          have hvb : ∀ n, some n = u3.ownBlock → n < wr.heap.size := fun n e => by
            obtain ⟨cs, _, _, q3, _⟩ := H1.out.1
            exact (q3.lt n e.symm).2
          have hbs := H1.out.2.1.size
          have hx6 : RowV (SxW w.heap.size u3 W6) W6 [(.slice none 0 0)] (waysB x) := ⟨_, rfl, hrow.keepF intV_stays (fun _ _ => rfl) (fun m hm => ⟨by have := hm.1; omega, hm.2, fun e => by have := hvb m e; have := hm.1; omega⟩), hatz⟩
          obtain ⟨cs, q1, q2, q3, q4⟩ := hown6
          obtain ⟨li, hli⟩ : ∃ n, n = ((f.blocks.map waysB).take i).length := ⟨_, rfl⟩
          have hlib : li ≤ 4000000 := by rw [hli, List.length_take]; have := H1.out.2.2.2; have := HH.out.2.2; omega
          rw [← hli] at q3
          have H6 := Lib.hid (And.intro hB6 (And.intro q1 (And.intro q2 (And.intro q3 (And.intro hx6 (And.intro hli hlib))))))
          have HQ6 := Lib.hid q4
          have HW6 := Lib.hid hW6
          clear hB6 hrow hatz hvb hbs hx6 q1 q2 q3 q4 hli hlib hW6
          go_upto_region 10 with (fail)
          change Code.wp _ _ _ _ (wr.alloc (.cells #[.slice pa P pc, .slice ia J ic, U8 x.fin, I x.arg, I x.to, I x.els] 40))
          rw [← HW6.out]
          go_wp2_with (first | (at_builtin; refine Hid.out ?_) | go_in)
          unfold Hid
          change wpList _ _ _ _ _ (W6.alloc (.cells #[(.slice none 0 0)] 41))
          refine wpList_append_lies _ rfl (.tmp 28) (.tmp 30) 62 rfl w.heap.size 41 iL (.slice none 0 0) 1 24 Try.underlying62 HL.out.1 HL.out.2.1 HL.out.2.2.1 HL.out.2.2.2 rfl (by decide) u3 li cs.flatten rfl (H6.out.2.2.2.1.alloc _) ⟨W6.heap.size, 0, none⟩ 1 1 [(.slice none 0 0)] rfl rfl (World.news_of_block (heap_alloc_new W6 _)) (by simp [Value.oneCell']) (by decide) (by have := H6.out.2.2.2.2.2.2; unfold maxLen; omega) (by have := H6.out.2.2.2.2.2.2; omega) (by have h1 := H6.out.1.size; have h2 := H1.out.2.1.size; simp; omega) _ rfl ?_
          intro gg cg w9 hown9 hgr9 hat9 hlt9
          have HN9 := Lib.hid (show RgR w f (.slice (some ⟨gg, 0, none⟩) (li + 1) cg) (I ((i : Int) + 1)) w9 from ⟨i + 1, by have := H1.out.2.2.2; have := HH.out.2.1; omega, rfl, by
            rw [H1.out.2.2.1]
            refine OwnS.app rowV_stays H6.out.2.1 H6.out.2.2.1 HQ6.out H6.out.2.2.2.2.1 rfl hgr9 (by rw [← H6.out.2.2.2.2.2.1]; exact hown9) ?_
            rcases hat9 with e | e
            · exact Or.inl (by rw [e]; rfl)
            · exact Or.inr (by rw [e]; rfl), by
            have hb9 := below_tr H1.out.2.1 H6.out.1
            exact (hb9.alloc hb9.size _).grown hgr9 (by have := hb9.size; simp; omega) (fun k hk => (H6.out.2.2.2.1.lt k hk).1)⟩)
          clear hown9 hgr9 hat9 hlt9
          go_wp2_with fail
          exact ⟨HN9.out, by have := H1.out.2.2.2; simp [intOf]; omega⟩
    · have d0 : decide (i < L) = false := by simpa using hin
      have hie : (f.blocks.map waysB).take i = f.blocks.map waysB := List.take_of_length_le (by rw [List.length_map]; have := HH.out.2.1; omega)
      rw [hie] at hown
      have FIN := Lib.hid (show WaysT w f wr (.returned u3) from ⟨_, rfl, hown.z rowV_stays, hb, fun hne => by
        obtain ⟨cs, _, _, q3, _⟩ := hown
        rcases own_slice q3 with ⟨_, e2⟩ | ⟨g, c, e⟩
        · rw [List.length_map] at e2; exact absurd (List.length_eq_zero_iff.1 e2) hne
        · exact ⟨g, c, by rw [e, List.length_map]⟩⟩)
      clear hown hb hin hi hie HST
      go_wp2_with fail
      go_ret
      exact FIN.out

end Go.Proofs.Ytjlmkcamefaodaa
