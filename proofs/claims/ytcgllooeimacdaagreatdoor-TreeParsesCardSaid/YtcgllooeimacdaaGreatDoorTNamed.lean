/-
  A statement that begins with a name.
-/
import Derived.Test.YtcgllooeimacdaaGreatDoorTPutS
namespace Go.Proofs.YtcgllooeimacdaaGreatDoor
open Go Go.RowKit Px
open Lx (Tok)

set_option maxRecDepth 100000 in
set_option maxHeartbeats 2000000 in
theorem named_set (F : Nat) (b g cap : Nat) (ts : List Tok) (s : St) (c id pos : Nat) (w : World) (hw : PW b g cap ts s w) (hbox : Blk c (smZ id pos) 39 w) (hcb : c ≠ b) (hcg : c ≠ g) (t : Tok) (s1 : St) (hk : kindR 1 ts s = .ok (t, s1)) (h61 : (tk ts s1.i).text = [61]) (hne : namedF ts F id pos s ≠ gone) :
    Calls Tryz.prog 85 #[.pointer (some ⟨b, 0, none⟩), .pointer (some ⟨c, 0, none⟩)] w (NmPost b g cap ts c w (namedF ts F id pos s)) := by
  have hrb := namedF_eq ts F id pos s
  rw [hk, bindR_ok, if_pos h61] at hrb
  rw [hrb] at hne
  have HRB := Lib.hid hrb
  have HNE := Lib.hid hne
  have HKK := Lib.hid hk
  have HK := Lib.hid (kind_any b g cap ts s 1 (by decide) w hw)
  have HSe := Lib.hid fun s' w1 (h1 : PW b g cap ts s' w1) => expect_any b g cap ts s' [59] (by simp) w1 h1
  have HYes := Lib.hid fun w1 (h1 : PW b g cap ts s1 w1) => accept_yes b g cap ts s1 [61] (by simp) w1 h1 h61
  have HOne := Lib.hid fun s' w1 (h1 : PW b g cap ts s' w1) (h : binF ts F 1 s' ≠ gone) => one_any F b g cap ts s' w1 h1 h
  have HB0 := Lib.hid hbox
  have lb := hw.blk.lt
  have lg := hw.toks.lt
  have lc := hbox.lt
  clear hw hbox hk h61 hrb hne
  go_enter Tryz.func85, Tryz.ntmps85
  go_wp2_with fail
  refine HK.out.mono ?_
  rintro e w1 h1
  rcases h1.elim with ⟨pn, hr, hg, rfl⟩ | ⟨⟨t0, t1, t2, t3⟩, s1', hr, hg, rfl, hp⟩
  · have := HKK.out.symm.trans hr; cases this
  · have e1 := HKK.out.symm.trans hr
    simp only [Except.ok.injEq, Prod.mk.injEq] at e1
    obtain ⟨rfl, rfl⟩ := e1
    unfold tokV'
    obtain ⟨V, hV⟩ : ∃ V, V = w1.alloc (.cells #[.int .u8 (t0 : Int), .int .i64 (t1 : Int), .string ⟨t2.toArray⟩, .int .i64 (t3 : Int)] 55) := ⟨_, rfl⟩
    have hbV : Below w1.heap.size w1 V := by rw [hV]; exact (Below.refl _ _).alloc (Nat.le_refl _) _
    have hN0 : NmW b g cap ts s1 c w w1.heap.size ⟨t0, t1, t2, t3⟩ (smZ id pos) V := by
      refine ⟨(Grown2.of1 hg).trans (.below hbV), by rw [hV]; exact Blk.new _ _ _, (HB0.out.other hg (by simpa using hcb)).below hbV (Nat.lt_of_lt_of_le lc hg.size), hp.below hbV, hg.size, lb, lg, lc, hcb, hcg⟩
    have HN0 := Lib.hid hN0
    have hVV := Lib.hid hV
    clear hr hg h1 hp hbV hV hN0
    go_upto_region 2 with (fail)
    rw [← hVV.out]
    clear hVV
    generalize w1.heap.size = M at *
    have HY := Lib.hid (HYes.out V HN0.out.pw)
    go_wp2_with fail
    refine HY.out.mono ?_
    rintro e w3 h3
    rcases h3.elim with ⟨pn, hr, hg, rfl⟩ | ⟨tt, s2, hr, hg, rfl, hp⟩
    · have FIN := Lib.hid (NmPost.err (c := c) (g := g) (cap := cap) (ts := ts) (HRB.out.trans (by rw [hr]; rfl)) (HN0.out.grown.trans (.of1 hg)))
      clear hg hr h3
      go_wp2
      exact ⟨rfl, FIN.out⟩
    · have HN2 := Lib.hid (HN0.out.other hg hp)
      have HR2 := Lib.hid (HRB.out.trans (by rw [hr, bindR_ok]))
      have hne2 := HNE.out
      rw [hr, bindR_ok] at hne2
      have HNE2 := Lib.hid hne2
      clear hr hg h3 hp hne2 HY
      go_upto_region 3 with (fail)
      have c2 := (HN2.out.tok.get 2 (.string ⟨t2.toArray⟩) rfl)
      have hS : (fun w' : World => w'.cell? ⟨M, 2, none⟩ = some (.string ⟨t2.toArray⟩)) w3.drew := c2
      refine wp_region_dep (S := fun w' => w'.cell? ⟨M, 2, none⟩ = some (.string ⟨t2.toArray⟩)) (dep := [13, 14, 15]) (by kernel_rfl) ?_
      change wpAnyD _ _ _ _ _ _ _ _ _ (World.drew _)
      refine wpAnyD_take (i := 0) (v := ?_) rfl (by kernel_rfl) (by kernel_rfl) (by kernel_rfl) (by kernel_rfl) (by kernel_rfl) (fun _ _ _ h => h) hS (Or.inl ⟨by rfl, ?_⟩) ?_
      rotate_left
      · intro w hSw; (try dsimp only at hSw); go_simp
        try with_reducible rfl
      try simp only [Act.put, List.setIfInBounds_toArray, List.set_cons_zero, List.set_cons_succ]
      refine wpAnyD_take (i := 1) (v := ?_) rfl (by kernel_rfl) (by kernel_rfl) (by kernel_rfl) (by kernel_rfl) (by kernel_rfl) (fun _ _ _ h => h) hS (Or.inl ⟨by rfl, ?_⟩) ?_
      rotate_left
      · intro w hSw; (try dsimp only at hSw); go_simp
        try with_reducible rfl
      try simp only [Act.put, List.setIfInBounds_toArray, List.set_cons_zero, List.set_cons_succ]
      refine wpAnyD_take (i := 2) (v := ?_) rfl (by kernel_rfl) (by kernel_rfl) (by kernel_rfl) (by kernel_rfl) (by kernel_rfl) (fun _ _ _ h => h) hS (Or.inl ⟨by rfl, ?_⟩) ?_
      rotate_left
      · intro w hSw; (try dsimp only at hSw); go_simp
        try with_reducible rfl
      try simp only [Act.put, List.setIfInBounds_toArray, List.set_cons_zero, List.set_cons_succ]
      refine wpAnyD_take (i := 3) (v := ?_) rfl (by kernel_rfl) (by kernel_rfl) (by kernel_rfl) (by kernel_rfl) (by kernel_rfl) (fun _ _ _ h => h) hS (Or.inl ⟨by rfl, ?_⟩) ?_
      rotate_left
      · intro w hSw; (try dsimp only at hSw); go_simp
        try with_reducible rfl
      try simp only [Act.put, List.setIfInBounds_toArray, List.set_cons_zero, List.set_cons_succ]
      refine wpAnyD_take (i := 4) (v := ?_) rfl (by kernel_rfl) (by kernel_rfl) (by kernel_rfl) (by kernel_rfl) (by kernel_rfl) (fun _ _ _ h => h) hS (Or.inl ⟨by rfl, ?_⟩) ?_
      rotate_left
      · intro w hSw; (try dsimp only at hSw); go_simp
        try with_reducible rfl
      try simp only [Act.put, List.setIfInBounds_toArray, List.set_cons_zero, List.set_cons_succ]
      refine wpAnyD_take (i := 5) (v := ?_) rfl (by kernel_rfl) (by kernel_rfl) (by kernel_rfl) (by kernel_rfl) (by kernel_rfl) (fun _ _ _ h => h) hS (Or.inl ⟨by rfl, ?_⟩) ?_
      rotate_left
      · intro w hSw; (try dsimp only at hSw); go_simp
        try with_reducible rfl
      try simp only [Act.put, List.setIfInBounds_toArray, List.set_cons_zero, List.set_cons_succ]
      have HC := Lib.hid (HOne.out s2 w3.drew (HN2.out.pw.below (Below.refl _ _).drew) (bindR_gone HNE2.out))
      clear hS c2
      refine wpAnyD_one (i := 6) rfl (by kernel_rfl) rfl (fun K hK => ?_)
      go_simp
      refine HC.out.mono ?_
      rintro e w4 h4
      rcases h4.elim with ⟨pn, hr, hg, rfl⟩ | ⟨x, s3, hr, hg, ⟨gr, rfl, hx⟩, hp⟩
      · exact ⟨rfl, NmPost.err (HR2.out.trans (by rw [hr]; rfl)) (HN2.out.grown.trans ((Grown2.below (Below.refl _ _).drew).trans (.of1 hg)))⟩
      · have hN4 := (HN2.out.below (Below.refl _ _).drew).other hg hp
        have HR4 := Lib.hid (HR2.out.trans (by rw [hr, bindR_ok]))
        have HX4 := Lib.hid hx.row
        have hsz4 : w.heap.size ≤ w3.heap.size := HN2.out.grown.size
        have hMc : ¬ M = c := by have := hN4.lt; omega
        have HN4 := Lib.hid hN4
        obtain ⟨k0, k1, k2, k3, k4, k5, k6, k7, k8⟩ := hN4.box.get9
        obtain ⟨f0, f1, f2, f3, f4, f5, f6, f7, f8⟩ := hN4.box.free9
        have c2 := hN4.tok.get 2 (.string ⟨t2.toArray⟩) rfl
        clear hr hg h4 hx hp hN4 HC
        refine hK _ _ (Or.inr c2) ?_
        clear hK K
        try simp only [Act.put, List.setIfInBounds_toArray, List.set_cons_zero, List.set_cons_succ]
        refine wpAnyD_one (i := 7) rfl (by kernel_rfl) rfl (fun K hK => ?_)
        go_simp
        refine hK _ _ (Or.inr c2) ?_
        clear hK K
        try simp only [Act.put, List.setIfInBounds_toArray, List.set_cons_zero, List.set_cons_succ]
        refine wpAnyD_one (i := 8) rfl (by kernel_rfl) rfl (fun K hK => ?_)
        go_simp
        refine hK _ _ (Or.inr c2) ?_
        clear hK K
        try simp only [Act.put, List.setIfInBounds_toArray, List.set_cons_zero, List.set_cons_succ]
        refine wpAnyD_one (i := 9) rfl (by kernel_rfl) rfl (fun K hK => ?_)
        go_simp
        refine hK _ _ (Or.inr (by show World.cell? _ _ = _; rw [World.cell?_setCell_other _ _ _ _ (by simp [hMc])]; exact c2)) ?_
        clear hK K
        try simp only [Act.put, List.setIfInBounds_toArray, List.set_cons_zero, List.set_cons_succ]
        refine wpAnyD_one (i := 10) rfl (by kernel_rfl) rfl (fun K hK => ?_)
        go_simp
        refine hK _ _ (Or.inr (by show World.cell? _ _ = _; rw [World.cell?_setCell_other _ _ _ _ (by simp [hMc])]; exact c2)) ?_
        clear hK K
        try simp only [Act.put, List.setIfInBounds_toArray, List.set_cons_zero, List.set_cons_succ]
        refine wpAnyD_one (i := 11) rfl (by kernel_rfl) rfl (fun K hK => ?_)
        go_simp
        refine hK _ _ (Or.inr (by show World.cell? _ _ = _; rw [World.cell?_setCell_other _ _ _ _ (by simp [hMc])]; exact c2)) ?_
        clear hK K
        try simp only [Act.put, List.setIfInBounds_toArray, List.set_cons_zero, List.set_cons_succ]
        refine wpAnyD_one (i := 12) rfl (by kernel_rfl) rfl (fun K hK => ?_)
        go_simp
        refine hK _ _ (Or.inr (by show World.cell? _ _ = _; rw [World.cell?_setCell_other _ _ _ _ (by simp [hMc]), World.cell?_setCell_other _ _ _ _ (by simp [hMc])]; exact c2)) ?_
        clear hK K
        try simp only [Act.put, List.setIfInBounds_toArray, List.set_cons_zero, List.set_cons_succ]
        refine wpAnyD_one (i := 13) rfl (by kernel_rfl) rfl (fun K hK => ?_)
        go_simp
        refine hK _ _ (Or.inl rfl) ?_
        clear hK K
        try simp only [Act.put, List.setIfInBounds_toArray, List.set_cons_zero, List.set_cons_succ]
        refine wpAnyD_one (i := 14) rfl (by kernel_rfl) rfl (fun K hK => ?_)
        go_simp
        refine hK _ _ (Or.inl rfl) ?_
        clear hK K
        try simp only [Act.put, List.setIfInBounds_toArray, List.set_cons_zero, List.set_cons_succ]
        refine wpAnyD_one (i := 15) rfl (by kernel_rfl) rfl (fun K hK => ?_)
        go_simp
        refine hK _ _ (Or.inl rfl) ?_
        clear hK K
        try simp only [Act.put, List.setIfInBounds_toArray, List.set_cons_zero, List.set_cons_succ]
        refine wpAnyD_done (by kernel_rfl) ?_ _
        obtain ⟨Z, hZ⟩ : ∃ Z, Z = ((w4.setCell ⟨c, 0, none⟩ (.int .u8 2)).setCell ⟨c, 2, none⟩ (.string ⟨t2.toArray⟩)).setCell ⟨c, 6, none⟩ (.slice (some ⟨gr, 0, none⟩) 1 1) := ⟨_, rfl⟩
        rw [← hZ]
        clear k0 k1 k2 k3 k4 k5 k6 k7 k8 f0 f1 f2 f3 f4 f5 f6 f7 f8 c2
        have hN5 : NmW b g cap ts s3 c w M ⟨t0, t1, t2, t3⟩ #[.int .u8 2, .int .i64 (id : Int), .string ⟨t2.toArray⟩, .int .u8 0, .int .i64 0, .int .i64 (pos : Int), .slice (some ⟨gr, 0, none⟩) 1 1, .slice none 0 0, .slice none 0 0] Z := by
          rw [hZ]
          exact ((HN4.out.set 0 (.int .u8 2)).set 2 (.string ⟨t2.toArray⟩)).set 6 (.slice (some ⟨gr, 0, none⟩) 1 1)
        have hx5 : ExRow Z (fun h => w3.heap.size ≤ h) [x] (.slice (some ⟨gr, 0, none⟩) 1 1) := by
          have hc : ∀ h, w3.heap.size ≤ h → h ≠ c := fun h hh => by omega
          rw [hZ]
          exact ((HX4.out.stays (stays_of_grown (Lib.grownBy_setCell _ _ _ _) fun h hh => ⟨hc h hh, hh⟩)).stays (stays_of_grown (Lib.grownBy_setCell _ _ _ _) fun h hh => ⟨hc h hh, hh⟩)).stays (stays_of_grown (Lib.grownBy_setCell _ _ _ _) fun h hh => ⟨hc h hh, hh⟩)
        have FZ := Lib.hid (And.intro hN5 hx5)
        have HS := Lib.hid (HSe.out s3 Z hN5.pw)
        clear hN5 hx5 hZ HN4 HX4
        go_wp2_with fail
        refine HS.out.mono ?_
        rintro e w10 h10
        rcases h10.elim with ⟨pn, hr, hg, rfl⟩ | ⟨⟨p0, p1, p2, p3⟩, s5, hr, hg, rfl, hp⟩
        · have FIN := Lib.hid (NmPost.err (c := c) (g := g) (cap := cap) (ts := ts) (HR4.out.trans (by rw [hr]; rfl)) (FZ.out.1.grown.trans (.of1 hg)))
          clear hg hr h10
          go_wp2
          exact ⟨rfl, FIN.out⟩
        · have N10 := FZ.out.1.other hg hp
          have hrow : ExRow w10 (fun h => w.heap.size ≤ h) [x] (.slice (some ⟨gr, 0, none⟩) 1 1) := FZ.out.2.stays (stays_of_grown hg fun h hh => ⟨by omega, by omega⟩)
          have FIN := Lib.hid (NmPost.ok (c := c) (g := g) (cap := cap) (ts := ts) (HR4.out.trans (by rw [hr, bindR_ok])) N10.grown (smB_of (k := 2) (id := id) (nm := t2) (t := 0) (n := 0) (pos := pos) (a1 := some ⟨gr, 0, none⟩) (m1 := 1) (c1 := 1) (a2 := none) (m2 := 0) (c2 := 0) (a3 := none) (m3 := 0) (c3 := 0) N10.box (by
            simp only [SmC]
            exact ⟨_, _, _, rfl, hrow, by simp, by simp⟩)) hp)
          clear hg hr h10 hp hrow N10
          unfold tokV'
          go_wp2
          go_end0
          exact FIN.out

set_option maxRecDepth 100000 in
set_option maxHeartbeats 2000000 in
theorem named_wrong (F : Nat) (b g cap : Nat) (ts : List Tok) (s : St) (c id pos : Nat) (w : World) (hw : PW b g cap ts s w) (hbox : Blk c (smZ id pos) 39 w) (hcb : c ≠ b) (hcg : c ≠ g) (t : Tok) (s1 : St) (hk : kindR 1 ts s = .ok (t, s1)) (h61 : (tk ts s1.i).text ≠ [61]) (h91 : (tk ts s1.i).text ≠ [91]) (h40 : (tk ts s1.i).text ≠ [40]) (hne : namedF ts F id pos s ≠ gone) :
    Calls Tryz.prog 85 #[.pointer (some ⟨b, 0, none⟩), .pointer (some ⟨c, 0, none⟩)] w (NmPost b g cap ts c w (namedF ts F id pos s)) := by
  have hrb := namedF_eq ts F id pos s
  rw [hk, bindR_ok, if_neg h61, if_neg h91, if_neg h40] at hrb
  rw [hrb] at hne
  have HRB := Lib.hid hrb
  have HNE := Lib.hid hne
  have HKK := Lib.hid hk
  have HK := Lib.hid (kind_any b g cap ts s 1 (by decide) w hw)
  have HNo := Lib.hid fun w1 (h1 : PW b g cap ts s1 w1) => accept_no b g cap ts s1 [61] w1 h1 h61
  have HIs := Lib.hid fun w1 (h1 : PW b g cap ts s1 w1) => is_any b g cap ts s1 [91] w1 h1
  have e91 : ((tk ts s1.i).text == [91]) = false := by simpa using h91
  have HI91 := Lib.hid e91
  have e40 : ((tk ts s1.i).text == [40]) = false := by simpa using h40
  have HI40 := Lib.hid e40
  have HIp := Lib.hid fun w1 (h1 : PW b g cap ts s1 w1) => is_any b g cap ts s1 [40] w1 h1
  have HWr := Lib.hid fun w1 (h1 : PW b g cap ts s1 w1) => wrong_any b g cap ts s1 w1 h1
  have HB0 := Lib.hid hbox
  have lb := hw.blk.lt
  have lg := hw.toks.lt
  have lc := hbox.lt
  clear hw hbox hk h61 h91 h40 hrb hne e91 e40
  go_enter Tryz.func85, Tryz.ntmps85
  go_wp2_with fail
  refine HK.out.mono ?_
  rintro e w1 h1
  rcases h1.elim with ⟨pn, hr, hg, rfl⟩ | ⟨⟨t0, t1, t2, t3⟩, s1', hr, hg, rfl, hp⟩
  · have := HKK.out.symm.trans hr; cases this
  · have e1 := HKK.out.symm.trans hr
    simp only [Except.ok.injEq, Prod.mk.injEq] at e1
    obtain ⟨rfl, rfl⟩ := e1
    unfold tokV'
    obtain ⟨V, hV⟩ : ∃ V, V = w1.alloc (.cells #[.int .u8 (t0 : Int), .int .i64 (t1 : Int), .string ⟨t2.toArray⟩, .int .i64 (t3 : Int)] 55) := ⟨_, rfl⟩
    have hbV : Below w1.heap.size w1 V := by rw [hV]; exact (Below.refl _ _).alloc (Nat.le_refl _) _
    have hN0 : NmW b g cap ts s1 c w w1.heap.size ⟨t0, t1, t2, t3⟩ (smZ id pos) V := by
      refine ⟨(Grown2.of1 hg).trans (.below hbV), by rw [hV]; exact Blk.new _ _ _, (HB0.out.other hg (by simpa using hcb)).below hbV (Nat.lt_of_lt_of_le lc hg.size), hp.below hbV, hg.size, lb, lg, lc, hcb, hcg⟩
    have HN0 := Lib.hid hN0
    have hVV := Lib.hid hV
    have HNO := Lib.hid (HNo.out V hN0.pw)
    clear hr hg h1 hp hbV hV hN0
    go_upto_region 2 with (fail)
    rw [← hVV.out]
    clear hVV
    generalize w1.heap.size = M at *
    go_wp2_with fail
    refine HNO.out.mono ?_
    rintro e w2 ⟨rfl, hb2⟩
    have HN1 := Lib.hid (HN0.out.below hb2)
    have HIS := Lib.hid (HIs.out w2 HN1.out.pw)
    clear hb2
    go_wp2_with fail
    refine HIS.out.mono ?_
    rintro e w3 ⟨rfl, hb3⟩
    have HN2 := Lib.hid (HN1.out.below hb3)
    rw [HI91.out]
    have HIS2 := Lib.hid (HIp.out w3 HN2.out.pw)
    clear hb3
    go_wp2_with fail
    refine HIS2.out.mono ?_
    rintro e w4 ⟨rfl, hb4⟩
    have HN3 := Lib.hid (HN2.out.below hb4)
    rw [HI40.out]
    have HW3 := Lib.hid (HWr.out w4 HN3.out.pw)
    clear hb4
    go_wp2_with fail
    refine HW3.out.mono ?_
    rintro e w5 ⟨rfl, hb5⟩
    have FIN := Lib.hid (NmPost.err (c := c) (g := g) (cap := cap) (ts := ts) (pn := ((tk ts s1.i).pos, 4)) HRB.out (HN3.out.grown.trans (.below hb5)))
    clear hb5
    go_wp2
    exact ⟨rfl, FIN.out⟩

set_option maxRecDepth 100000 in
set_option maxHeartbeats 2000000 in
theorem named_call (F : Nat) (b g cap : Nat) (ts : List Tok) (s : St) (c id pos : Nat) (w : World) (hw : PW b g cap ts s w) (hbox : Blk c (smZ id pos) 39 w) (hcb : c ≠ b) (hcg : c ≠ g) (t : Tok) (s1 : St) (hk : kindR 1 ts s = .ok (t, s1)) (h61 : (tk ts s1.i).text ≠ [61]) (h91 : (tk ts s1.i).text ≠ [91]) (h40 : (tk ts s1.i).text = [40]) (hne : namedF ts F id pos s ≠ gone) :
    Calls Tryz.prog 85 #[.pointer (some ⟨b, 0, none⟩), .pointer (some ⟨c, 0, none⟩)] w (NmPost b g cap ts c w (namedF ts F id pos s)) := by
  have hrb := namedF_eq ts F id pos s
  rw [hk, bindR_ok, if_neg h61, if_neg h91, if_pos h40] at hrb
  rw [hrb] at hne
  have HRB := Lib.hid hrb
  have HNE := Lib.hid hne
  have HKK := Lib.hid hk
  have HK := Lib.hid (kind_any b g cap ts s 1 (by decide) w hw)
  have HNo := Lib.hid fun w1 (h1 : PW b g cap ts s1 w1) => accept_no b g cap ts s1 [61] w1 h1 h61
  have HIs := Lib.hid fun w1 (h1 : PW b g cap ts s1 w1) => is_any b g cap ts s1 [91] w1 h1
  have e91 : ((tk ts s1.i).text == [91]) = false := by simpa using h91
  have HI91 := Lib.hid e91
  have e40 : ((tk ts s1.i).text == [40]) = true := by simpa using h40
  have HI40 := Lib.hid e40
  have HIp := Lib.hid fun w1 (h1 : PW b g cap ts s1 w1) => is_any b g cap ts s1 [40] w1 h1
  have HCl := Lib.hid fun w1 (h1 : PW b g cap ts s1 w1) (h2 : callF ts F t s1 ≠ gone) => call_any (binC F) b g cap ts t s1 w1 h1 h2
  have HSe := Lib.hid fun s' w1 (h1 : PW b g cap ts s' w1) => expect_any b g cap ts s' [59] (by simp) w1 h1
  have HB0 := Lib.hid hbox
  have lb := hw.blk.lt
  have lg := hw.toks.lt
  have lc := hbox.lt
  clear hw hbox hk h61 h91 h40 hrb hne e91 e40
  go_enter Tryz.func85, Tryz.ntmps85
  go_wp2_with fail
  refine HK.out.mono ?_
  rintro e w1 h1
  rcases h1.elim with ⟨pn, hr, hg, rfl⟩ | ⟨⟨t0, t1, t2, t3⟩, s1', hr, hg, rfl, hp⟩
  · have := HKK.out.symm.trans hr; cases this
  · have e1 := HKK.out.symm.trans hr
    simp only [Except.ok.injEq, Prod.mk.injEq] at e1
    obtain ⟨rfl, rfl⟩ := e1
    unfold tokV'
    obtain ⟨V, hV⟩ : ∃ V, V = w1.alloc (.cells #[.int .u8 (t0 : Int), .int .i64 (t1 : Int), .string ⟨t2.toArray⟩, .int .i64 (t3 : Int)] 55) := ⟨_, rfl⟩
    have hbV : Below w1.heap.size w1 V := by rw [hV]; exact (Below.refl _ _).alloc (Nat.le_refl _) _
    have hN0 : NmW b g cap ts s1 c w w1.heap.size ⟨t0, t1, t2, t3⟩ (smZ id pos) V := by
      refine ⟨(Grown2.of1 hg).trans (.below hbV), by rw [hV]; exact Blk.new _ _ _, (HB0.out.other hg (by simpa using hcb)).below hbV (Nat.lt_of_lt_of_le lc hg.size), hp.below hbV, hg.size, lb, lg, lc, hcb, hcg⟩
    have HN0 := Lib.hid hN0
    have hVV := Lib.hid hV
    have HNO := Lib.hid (HNo.out V hN0.pw)
    clear hr hg h1 hp hbV hV hN0
    go_upto_region 2 with (fail)
    rw [← hVV.out]
    clear hVV
    generalize w1.heap.size = M at *
    go_wp2_with fail
    refine HNO.out.mono ?_
    rintro e w2 ⟨rfl, hb2⟩
    have HN1 := Lib.hid (HN0.out.below hb2)
    have HIS := Lib.hid (HIs.out w2 HN1.out.pw)
    clear hb2
    go_wp2_with fail
    refine HIS.out.mono ?_
    rintro e w3 ⟨rfl, hb3⟩
    have HN2 := Lib.hid (HN1.out.below hb3)
    rw [HI91.out]
    have HIS2 := Lib.hid (HIp.out w3 HN2.out.pw)
    clear hb3
    go_wp2_with fail
    refine HIS2.out.mono ?_
    rintro e w4 ⟨rfl, hb4⟩
    have HN3 := Lib.hid (HN2.out.below hb4)
    rw [HI40.out]
    clear hb4
    have HC := Lib.hid (HCl.out w4 HN3.out.pw (bindR_gone HNE.out))
    go_upto_region 9 with (fail)
    obtain ⟨c0, c1, c2, c3⟩ := HN3.out.tok.get4
    go_wp2_with fail
    refine HC.out.mono ?_
    rintro e w5 h5
    rcases h5.elim with ⟨pn, hr, hg, rfl⟩ | ⟨x, s2, hr, hg, ⟨k, op, nm, n, ps, a, m, d, rfl, hx⟩, hp⟩
    · have FIN := Lib.hid (NmPost.err (c := c) (g := g) (cap := cap) (ts := ts) (HRB.out.trans (by rw [hr]; rfl)) (HN3.out.grown.trans (.of1 hg)))
      clear hr hg h5 c0 c1 c2 c3
      go_wp2
      exact ⟨rfl, FIN.out⟩
    · have HR2 := Lib.hid (HRB.out.trans (by rw [hr, bindR_ok]))
      have hN5 := HN3.out.other hg hp
      have hs4 := HN3.out.grown.size
      have hs5 := hg.size
      have hcl := HN3.out.lc
      have HN5 := Lib.hid hN5
      have HX5 := Lib.hid hx
      have hEx := Lib.hid (show (exCells k op nm n ps a m d) = #[.int .u8 (k : Int), .int .u8 (op : Int), .string ⟨nm.toArray⟩, .int .i64 (n : Int), .int .i64 (ps : Int), .slice a m d] from rfl)
      obtain ⟨j0, j1, j2, j3, j4, j5, j6, j7, j8⟩ := hN5.box.get9
      obtain ⟨g0, g1, g2, g3, g4, g5, g6, g7, g8⟩ := hN5.box.free9
      have hc5 := hN5.box.lt
      have hcn : ¬ c = w5.heap.size := by omega
      clear hr hg h5 hp hx hN5 c0 c1 c2 c3 HC
      go_upto_region 10 with (fail)
      obtain ⟨Y, hY⟩ : ∃ Y, Y = (w5.setCell ⟨c, 0, none⟩ (.int .u8 8)).setCell ⟨c, 6, none⟩ (.slice (some ⟨w5.heap.size, 0, none⟩) 1 1) := ⟨_, rfl⟩
      obtain ⟨Z, hZ⟩ : ∃ Z, Z = Y.alloc (.cells #[.int .u8 (k : Int), .int .u8 (op : Int), .string ⟨nm.toArray⟩, .int .i64 (n : Int), .int .i64 (ps : Int), .slice a m d] 36) := ⟨_, rfl⟩
      rw [← hY, ← hZ]
      have hYs : Y.heap.size = w5.heap.size := by rw [hY]; simp [World.setCell]
      have hbZ : Below Y.heap.size Y Z := by rw [hZ]; exact (Below.refl _ _).alloc (Nat.le_refl _) _
      have hN7 : NmW b g cap ts s2 c w M ⟨t0, t1, t2, t3⟩ #[.int .u8 8, .int .i64 (id : Int), .string ⟨#[]⟩, .int .u8 0, .int .i64 0, .int .i64 (pos : Int), .slice (some ⟨w5.heap.size, 0, none⟩) 1 1, .slice none 0 0, .slice none 0 0] Z :=
        NmW.below (by rw [hY]; exact (HN5.out.set 0 (.int .u8 8)).set 6 _) hbZ
      have hxY : ExC Y (fun h => w4.heap.size ≤ h) x (exCells k op nm n ps a m d).toList := by
        rw [hY]
        exact (HX5.out.stays (stays_of_grown (ok' := fun h => w4.heap.size ≤ h) (Lib.grownBy_setCell _ c 0 _) fun h hh => ⟨by omega, hh⟩)).stays (stays_of_grown (Lib.grownBy_setCell _ c 6 _) fun h hh => ⟨by omega, hh⟩)
      have hbk : Z.heap[w5.heap.size]? = some (.cells #[.int .u8 (k : Int), .int .u8 (op : Int), .string ⟨nm.toArray⟩, .int .i64 (n : Int), .int .i64 (ps : Int), .slice a m d] 36 (0, 0)) := by rw [hZ, ← hYs]; exact heap_alloc_new Y _
      have hrow7 : ExRow Z (fun h => w.heap.size ≤ h) [x] (.slice (some ⟨w5.heap.size, 0, none⟩) 1 1) := by
        refine Or.inr ⟨w5.heap.size, 1, (exCells k op nm n ps a m d).toList, rfl, by omega, ⟨rfl, Or.inr ⟨_, _, _, rfl, Nat.zero_le _, hbk, Nat.le_refl _, by decide, rfl, rfl⟩⟩, ?_⟩
        simp only [ExsC]
        exact ⟨_, [], by simp, hxY.stays fun h hh hl => ⟨hbZ.block h hl, by omega⟩, rfl⟩
      have FZ := Lib.hid (And.intro hN7 hrow7)
      have HS := Lib.hid (HSe.out s2 Z hN7.pw)
      clear hZ hY hYs hbZ hN7 hxY hbk hrow7 HN5 HX5 hEx j0 j1 j2 j3 j4 j5 j6 j7 j8 g0 g1 g2 g3 g4 g5 g6 g7 g8 hcn hc5
      go_wp2_with fail
      refine HS.out.mono ?_
      rintro e w10 h10
      rcases h10.elim with ⟨pn, hr, hg, rfl⟩ | ⟨⟨p0, p1, p2, p3⟩, s5, hr, hg, rfl, hp⟩
      · have FIN := Lib.hid (NmPost.err (c := c) (g := g) (cap := cap) (ts := ts) (HR2.out.trans (by rw [hr]; rfl)) (FZ.out.1.grown.trans (.of1 hg)))
        clear hg hr h10
        go_wp2
        exact ⟨rfl, FIN.out⟩
      · have N10 := FZ.out.1.other hg hp
        have hrow : ExRow w10 (fun h => w.heap.size ≤ h) [x] (.slice (some ⟨w5.heap.size, 0, none⟩) 1 1) := FZ.out.2.stays (stays_of_grown hg fun h hh => ⟨by omega, by omega⟩)
        have FIN := Lib.hid (NmPost.ok (c := c) (g := g) (cap := cap) (ts := ts) (HR2.out.trans (by rw [hr, bindR_ok])) N10.grown (smB_of (k := 8) (id := id) (nm := []) (t := 0) (n := 0) (pos := pos) (a1 := some ⟨w5.heap.size, 0, none⟩) (m1 := 1) (c1 := 1) (a2 := none) (m2 := 0) (c2 := 0) (a3 := none) (m3 := 0) (c3 := 0) N10.box (by
          simp only [SmC]
          exact ⟨_, _, _, rfl, hrow, by simp, by simp⟩)) hp)
        clear hg hr h10 hp hrow N10
        unfold tokV'
        go_wp2
        go_end0
        exact FIN.out

set_option maxRecDepth 100000 in
theorem named_err (F : Nat) (b g cap : Nat) (ts : List Tok) (s : St) (c id pos : Nat) (w : World) (hw : PW b g cap ts s w) (pn : Nat × Nat) (hk : kindR 1 ts s = .error pn) :
    Calls Tryz.prog 85 #[.pointer (some ⟨b, 0, none⟩), .pointer (some ⟨c, 0, none⟩)] w (NmPost b g cap ts c w (namedF ts F id pos s)) := by
  have hrb := namedF_eq ts F id pos s
  rw [hk, bindR_error] at hrb
  have HRB := Lib.hid hrb
  have HKK := Lib.hid hk
  have HK := Lib.hid (kind_any b g cap ts s 1 (by decide) w hw)
  clear hw hk hrb
  go_enter Tryz.func85, Tryz.ntmps85
  go_wp2_with fail
  refine HK.out.mono ?_
  rintro e w1 h1
  rcases h1.elim with ⟨pn', hr, hg, rfl⟩ | ⟨t, s1', hr, hg, _, hp⟩
  · obtain rfl : pn = pn' := by have := HKK.out.symm.trans hr; simpa using this
    have FIN := Lib.hid (NmPost.err (c := c) (g := g) (cap := cap) (ts := ts) HRB.out (.of1 hg))
    clear hr hg h1
    go_wp2
    exact ⟨rfl, FIN.out⟩
  · have := HKK.out.symm.trans hr; cases this

theorem named_any (F : Nat) (b g cap : Nat) (ts : List Tok) (s : St) (c id pos : Nat) (w : World) (hw : PW b g cap ts s w) (hbox : Blk c (smZ id pos) 39 w) (hcb : c ≠ b) (hcg : c ≠ g) (hne : namedF ts F id pos s ≠ gone) :
    Calls Tryz.prog 85 #[.pointer (some ⟨b, 0, none⟩), .pointer (some ⟨c, 0, none⟩)] w (NmPost b g cap ts c w (namedF ts F id pos s)) := by
  rcases hk : kindR 1 ts s with pn | ⟨t, s1⟩
  · exact named_err F b g cap ts s c id pos w hw pn hk
  · by_cases h61 : (tk ts s1.i).text = [61]
    · exact named_set F b g cap ts s c id pos w hw hbox hcb hcg t s1 hk h61 hne
    by_cases h91 : (tk ts s1.i).text = [91]
    · exact named_put F b g cap ts s c id pos w hw hbox hcb hcg t s1 hk h61 h91 hne
    by_cases h40 : (tk ts s1.i).text = [40]
    · exact named_call F b g cap ts s c id pos w hw hbox hcb hcg t s1 hk h61 h91 h40 hne
    · exact named_wrong F b g cap ts s c id pos w hw hbox hcb hcg t s1 hk h61 h91 h40 hne
end Go.Proofs.YtcgllooeimacdaaGreatDoor
