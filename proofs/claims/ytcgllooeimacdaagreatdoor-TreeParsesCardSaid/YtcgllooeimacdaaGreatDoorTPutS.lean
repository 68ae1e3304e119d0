/-
  A statement that begins with a name: a cell is set.
-/
import Derived.Test.YtcgllooeimacdaaGreatDoorTNm
import Derived.Test.YtcgllooeimacdaaGreatDoorTOne
import Derived.Test.YtcgllooeimacdaaGreatDoorDrawn
namespace Go.Proofs.YtcgllooeimacdaaGreatDoor
open Go Go.RowKit Px
open Lx (Tok)

theorem namedF_eq (ts : List Tok) (f id pos : Nat) (s : St) : namedF ts f id pos s = bindR (kindR 1 ts s) fun t s =>
  if (tk ts s.i).text = [61] then bindR (takeR ts s) fun _ s => bindR (binF ts f 1 s) fun x s => bindR (expectR [59] ts s) fun _ s => .ok (.mk 2 id t.text 0 0 pos [x] [] [], s)
  else if (tk ts s.i).text = [91] then bindR (placeF ts f s) fun x s => bindR (expectR [61] ts s) fun _ s => bindR (binF ts f 1 s) fun y s => bindR (expectR [59] ts s) fun _ s => .ok (.mk 3 id t.text 0 0 pos [x, y] [] [], s)
  else if (tk ts s.i).text = [40] then bindR (callF ts f t s) fun x s => bindR (expectR [59] ts s) fun _ s => .ok (.mk 8 id [] 0 0 pos [x] [] [], s)
  else wrongR ts s := rfl

abbrev nilV : Value := .slice none 0 0
abbrev smZ (id pos : Nat) : Array Value := #[.int .u8 0, .int .i64 (id : Int), .string ⟨#[]⟩, .int .u8 0, .int .i64 0, .int .i64 (pos : Int), .slice none 0 0, .slice none 0 0, .slice none 0 0]

theorem six_of {w : World} {g : Nat} (h : ∀ j, j < 6 → ∃ u, zEx[j]? = some u ∧ w.cell? ⟨g, 6 + j, none⟩ = some u ∧ w.frozen? ⟨g, 6 + j, none⟩ = false) :
    (w.cell? ⟨g, 6, none⟩ = some (.int .u8 0) ∧ w.frozen? ⟨g, 6, none⟩ = false) ∧ (w.cell? ⟨g, 7, none⟩ = some (.int .u8 0) ∧ w.frozen? ⟨g, 7, none⟩ = false) ∧ (w.cell? ⟨g, 8, none⟩ = some (.string ⟨#[]⟩) ∧ w.frozen? ⟨g, 8, none⟩ = false) ∧
    (w.cell? ⟨g, 9, none⟩ = some (.int .i64 0) ∧ w.frozen? ⟨g, 9, none⟩ = false) ∧ (w.cell? ⟨g, 10, none⟩ = some (.int .i64 0) ∧ w.frozen? ⟨g, 10, none⟩ = false) ∧ (w.cell? ⟨g, 11, none⟩ = some (.slice none 0 0) ∧ w.frozen? ⟨g, 11, none⟩ = false) := by
  refine ⟨?_, ?_, ?_, ?_, ?_, ?_⟩
  · obtain ⟨u, hu, h1⟩ := h 0 (by decide); cases hu; exact h1
  · obtain ⟨u, hu, h1⟩ := h 1 (by decide); cases hu; exact h1
  · obtain ⟨u, hu, h1⟩ := h 2 (by decide); cases hu; exact h1
  · obtain ⟨u, hu, h1⟩ := h 3 (by decide); cases hu; exact h1
  · obtain ⟨u, hu, h1⟩ := h 4 (by decide); cases hu; exact h1
  · obtain ⟨u, hu, h1⟩ := h 5 (by decide); cases hu; exact h1

set_option maxRecDepth 100000 in
set_option maxHeartbeats 2000000 in
theorem named_put (F : Nat) (b g cap : Nat) (ts : List Tok) (s : St) (c id pos : Nat) (w : World) (hw : PW b g cap ts s w) (hbox : Blk c (smZ id pos) 39 w) (hcb : c ≠ b) (hcg : c ≠ g) (t : Tok) (s1 : St) (hk : kindR 1 ts s = .ok (t, s1)) (h61 : (tk ts s1.i).text ≠ [61]) (h91 : (tk ts s1.i).text = [91]) (hne : namedF ts F id pos s ≠ gone) :
    Calls Tryz.prog 85 #[.pointer (some ⟨b, 0, none⟩), .pointer (some ⟨c, 0, none⟩)] w (NmPost b g cap ts c w (namedF ts F id pos s)) := by
  have hrb := namedF_eq ts F id pos s
  rw [hk, bindR_ok, if_neg h61, if_pos h91] at hrb
  rw [hrb] at hne
  have HRB := Lib.hid hrb
  have HNE := Lib.hid hne
  have HKK := Lib.hid hk
  have HK := Lib.hid (kind_any b g cap ts s 1 (by decide) w hw)
  have HNo := Lib.hid fun w1 (h1 : PW b g cap ts s1 w1) => accept_no b g cap ts s1 [61] w1 h1 h61
  have HIs := Lib.hid fun w1 (h1 : PW b g cap ts s1 w1) => is_any b g cap ts s1 [91] w1 h1
  have e91 : ((tk ts s1.i).text == [91]) = true := by simpa using h91
  have HI91 := Lib.hid e91
  have HPl := Lib.hid fun w1 (h1 : PW b g cap ts s1 w1) (h2 : placeF ts F s1 ≠ gone) => place_any F b g cap ts s1 w1 h1 h2
  have HEq := Lib.hid fun s' w1 (h1 : PW b g cap ts s' w1) => expect_any b g cap ts s' [61] (by simp) w1 h1
  have HSe := Lib.hid fun s' w1 (h1 : PW b g cap ts s' w1) => expect_any b g cap ts s' [59] (by simp) w1 h1
  have HEx := Lib.hid fun s' w1 (h1 : PW b g cap ts s' w1) (h : binF ts F 1 s' ≠ gone) => expr_any (binC F) b g cap ts s' w1 h1 h
  have HB0 := Lib.hid hbox
  have lb := hw.blk.lt
  have lg := hw.toks.lt
  have lc := hbox.lt
  clear hw hbox hk h61 h91 hrb hne e91
  go_enter Tryz.func85, Tryz.ntmps85
  go_wp2_with fail
  refine HK.out.mono ?_
  rintro e w1 h1
  rcases h1.elim with ⟨pn, hr, hg, rfl⟩ | ⟨⟨t0, t1, t2, t3⟩, s1', hr, hg, rfl, hp⟩
  · have := HKK.out.symm.trans hr; cases this
  · have e1 := HKK.out.symm.trans hr
    simp only [Except.ok.injEq, Prod.mk.injEq] at e1
    obtain ⟨rfl, rfl⟩ := e1
    unfold tokV'
    obtain ⟨V, hV⟩ : ∃ V, V = w1.alloc (.cells #[.int .u8 (t0 : Int), .int .i64 (t1 : Int), .string ⟨t2.toArray⟩, .int .i64 (t3 : Int)] 55) := ⟨_, rfl⟩
    have hbV : Below w1.heap.size w1 V := by rw [hV]; exact (Below.refl _ _).alloc (Nat.le_refl _) _
    have hN0 : NmW b g cap ts s1 c w w1.heap.size ⟨t0, t1, t2, t3⟩ (smZ id pos) V := by
      refine ⟨(Grown2.of1 hg).trans (.below hbV), by rw [hV]; exact Blk.new _ _ _, (HB0.out.other hg (by simpa using hcb)).below hbV (Nat.lt_of_lt_of_le lc hg.size), hp.below hbV, hg.size, lb, lg, lc, hcb, hcg⟩
    have HN0 := Lib.hid hN0
    have hVV := Lib.hid hV
    have HNO := Lib.hid (HNo.out V hN0.pw)
    clear hr hg h1 hp hbV hV hN0
    go_upto_region 2 with (fail)
    rw [← hVV.out]
    clear hVV
    generalize w1.heap.size = M at *
    go_wp2_with fail
    refine HNO.out.mono ?_
    rintro e w2 ⟨rfl, hb2⟩
    have HN1 := Lib.hid (HN0.out.below hb2)
    have HIS := Lib.hid (HIs.out w2 HN1.out.pw)
    clear hb2
    go_wp2_with fail
    refine HIS.out.mono ?_
    rintro e w3 ⟨rfl, hb3⟩
    have HN2 := Lib.hid (HN1.out.below hb3)
    rw [HI91.out]
    clear hb3
    go_upto_region 5 with (fail)
    have c2 := (HN2.out.tok.get 2 (.string ⟨t2.toArray⟩) rfl)
    have hS : (fun w' : World => w'.cell? ⟨M, 2, none⟩ = some (.string ⟨t2.toArray⟩)) w3.drew := c2
    refine wp_region_dep (S := fun w' => w'.cell? ⟨M, 2, none⟩ = some (.string ⟨t2.toArray⟩)) (dep := [13, 14, 15]) (by kernel_rfl) ?_
    change wpAnyD _ _ _ _ _ _ _ _ _ (World.drew _)
    refine wpAnyD_take (i := 0) (v := ?_) rfl (by kernel_rfl) (by kernel_rfl) (by kernel_rfl) (by kernel_rfl) (by kernel_rfl) (fun _ _ _ h => h) hS (Or.inl ⟨by rfl, ?_⟩) ?_
    rotate_left
    · intro w hSw; (try dsimp only at hSw); go_simp
      try with_reducible rfl
    try simp only [Act.put, List.setIfInBounds_toArray, List.set_cons_zero, List.set_cons_succ]
    refine wpAnyD_take (i := 1) (v := ?_) rfl (by kernel_rfl) (by kernel_rfl) (by kernel_rfl) (by kernel_rfl) (by kernel_rfl) (fun _ _ _ h => h) hS (Or.inl ⟨by rfl, ?_⟩) ?_
    rotate_left
    · intro w hSw; (try dsimp only at hSw); go_simp
      try with_reducible rfl
    try simp only [Act.put, List.setIfInBounds_toArray, List.set_cons_zero, List.set_cons_succ]
    refine wpAnyD_take (i := 2) (v := ?_) rfl (by kernel_rfl) (by kernel_rfl) (by kernel_rfl) (by kernel_rfl) (by kernel_rfl) (fun _ _ _ h => h) hS (Or.inl ⟨by rfl, ?_⟩) ?_
    rotate_left
    · intro w hSw; (try dsimp only at hSw); go_simp
      try with_reducible rfl
    try simp only [Act.put, List.setIfInBounds_toArray, List.set_cons_zero, List.set_cons_succ]
    refine wpAnyD_take (i := 3) (v := ?_) rfl (by kernel_rfl) (by kernel_rfl) (by kernel_rfl) (by kernel_rfl) (by kernel_rfl) (fun _ _ _ h => h) hS (Or.inl ⟨by rfl, ?_⟩) ?_
    rotate_left
    · intro w hSw; (try dsimp only at hSw); go_simp
      try with_reducible rfl
    try simp only [Act.put, List.setIfInBounds_toArray, List.set_cons_zero, List.set_cons_succ]
    refine wpAnyD_take (i := 4) (v := ?_) rfl (by kernel_rfl) (by kernel_rfl) (by kernel_rfl) (by kernel_rfl) (by kernel_rfl) (fun _ _ _ h => h) hS (Or.inl ⟨by rfl, ?_⟩) ?_
    rotate_left
    · intro w hSw; (try dsimp only at hSw); go_simp
      try with_reducible rfl
    try simp only [Act.put, List.setIfInBounds_toArray, List.set_cons_zero, List.set_cons_succ]
    refine wpAnyD_take (i := 5) (v := ?_) rfl (by kernel_rfl) (by kernel_rfl) (by kernel_rfl) (by kernel_rfl) (by kernel_rfl) (fun _ _ _ h => h) hS (Or.inl ⟨by rfl, ?_⟩) ?_
    rotate_left
    · intro w hSw; (try dsimp only at hSw); go_simp
      try with_reducible rfl
    try simp only [Act.put, List.setIfInBounds_toArray, List.set_cons_zero, List.set_cons_succ]
    have HC := Lib.hid (HPl.out w3.drew (HN2.out.pw.below (Below.refl _ _).drew) (bindR_gone HNE.out))
    clear hS c2
    refine wpAnyD_one (i := 6) rfl (by kernel_rfl) rfl (fun K hK => ?_)
    go_simp
    refine HC.out.mono ?_
    rintro e w4 h4
    rcases h4.elim with ⟨pn, hr, hg, rfl⟩ | ⟨x, s2, hr, hg, ⟨gr, rfl, hx⟩, hp⟩
    · exact ⟨rfl, NmPost.err (HRB.out.trans (by rw [hr]; rfl)) (HN2.out.grown.trans ((Grown2.below (Below.refl _ _).drew).trans (.of1 hg)))⟩
    · have hN4 := (HN2.out.below (Below.refl _ _).drew).other hg hp
      have HR4 := Lib.hid (HRB.out.trans (by rw [hr, bindR_ok]))
      have hne4 := HNE.out
      rw [hr, bindR_ok] at hne4
      have HNE4 := Lib.hid hne4
      have HX4 := Lib.hid hx
      have hsz4 : w.heap.size ≤ w3.heap.size := HN2.out.grown.size
      have hMc : ¬ M = c := by have := hN4.lt; omega
      have HN4 := Lib.hid hN4
      obtain ⟨k0, k1, k2, k3, k4, k5, k6, k7, k8⟩ := hN4.box.get9
      obtain ⟨f0, f1, f2, f3, f4, f5, f6, f7, f8⟩ := hN4.box.free9
      have c2 := hN4.tok.get 2 (.string ⟨t2.toArray⟩) rfl
      clear hr hg h4 hx hp hN4 hne4 HC
      refine hK _ _ (Or.inr c2) ?_
      clear hK K
      try simp only [Act.put, List.setIfInBounds_toArray, List.set_cons_zero, List.set_cons_succ]
      refine wpAnyD_one (i := 7) rfl (by kernel_rfl) rfl (fun K hK => ?_)
      go_simp
      refine hK _ _ (Or.inr c2) ?_
      clear hK K
      try simp only [Act.put, List.setIfInBounds_toArray, List.set_cons_zero, List.set_cons_succ]
      refine wpAnyD_one (i := 8) rfl (by kernel_rfl) rfl (fun K hK => ?_)
      go_simp
      refine hK _ _ (Or.inr c2) ?_
      clear hK K
      try simp only [Act.put, List.setIfInBounds_toArray, List.set_cons_zero, List.set_cons_succ]
      refine wpAnyD_one (i := 9) rfl (by kernel_rfl) rfl (fun K hK => ?_)
      go_simp
      refine hK _ _ (Or.inr (by show World.cell? _ _ = _; rw [World.cell?_setCell_other _ _ _ _ (by simp [hMc])]; exact c2)) ?_
      clear hK K
      try simp only [Act.put, List.setIfInBounds_toArray, List.set_cons_zero, List.set_cons_succ]
      refine wpAnyD_one (i := 10) rfl (by kernel_rfl) rfl (fun K hK => ?_)
      go_simp
      refine hK _ _ (Or.inr (by show World.cell? _ _ = _; rw [World.cell?_setCell_other _ _ _ _ (by simp [hMc])]; exact c2)) ?_
      clear hK K
      try simp only [Act.put, List.setIfInBounds_toArray, List.set_cons_zero, List.set_cons_succ]
      refine wpAnyD_one (i := 11) rfl (by kernel_rfl) rfl (fun K hK => ?_)
      go_simp
      refine hK _ _ (Or.inr (by show World.cell? _ _ = _; rw [World.cell?_setCell_other _ _ _ _ (by simp [hMc])]; exact c2)) ?_
      clear hK K
      try simp only [Act.put, List.setIfInBounds_toArray, List.set_cons_zero, List.set_cons_succ]
      refine wpAnyD_one (i := 12) rfl (by kernel_rfl) rfl (fun K hK => ?_)
      go_simp
      refine hK _ _ (Or.inr (by show World.cell? _ _ = _; rw [World.cell?_setCell_other _ _ _ _ (by simp [hMc]), World.cell?_setCell_other _ _ _ _ (by simp [hMc])]; exact c2)) ?_
      clear hK K
      try simp only [Act.put, List.setIfInBounds_toArray, List.set_cons_zero, List.set_cons_succ]
      refine wpAnyD_one (i := 13) rfl (by kernel_rfl) rfl (fun K hK => ?_)
      go_simp
      refine hK _ _ (Or.inl rfl) ?_
      clear hK K
      try simp only [Act.put, List.setIfInBounds_toArray, List.set_cons_zero, List.set_cons_succ]
      refine wpAnyD_one (i := 14) rfl (by kernel_rfl) rfl (fun K hK => ?_)
      go_simp
      refine hK _ _ (Or.inl rfl) ?_
      clear hK K
      try simp only [Act.put, List.setIfInBounds_toArray, List.set_cons_zero, List.set_cons_succ]
      refine wpAnyD_one (i := 15) rfl (by kernel_rfl) rfl (fun K hK => ?_)
      go_simp
      refine hK _ _ (Or.inl rfl) ?_
      clear hK K
      try simp only [Act.put, List.setIfInBounds_toArray, List.set_cons_zero, List.set_cons_succ]
      refine wpAnyD_done (by kernel_rfl) ?_ _
      obtain ⟨Z, hZ⟩ : ∃ Z, Z = ((w4.setCell ⟨c, 0, none⟩ (.int .u8 3)).setCell ⟨c, 2, none⟩ (.string ⟨t2.toArray⟩)).setCell ⟨c, 6, none⟩ (.slice (some ⟨gr, 0, none⟩) 1 1) := ⟨_, rfl⟩
      rw [← hZ]
      clear k0 k1 k2 k3 k4 k5 k6 k7 k8 f0 f1 f2 f3 f4 f5 f6 f7 f8 c2
      have hN5 : NmW b g cap ts s2 c w M ⟨t0, t1, t2, t3⟩ #[.int .u8 3, .int .i64 (id : Int), .string ⟨t2.toArray⟩, .int .u8 0, .int .i64 0, .int .i64 (pos : Int), .slice (some ⟨gr, 0, none⟩) 1 1, .slice none 0 0, .slice none 0 0] Z := by
        rw [hZ]
        exact ((HN4.out.set 0 (.int .u8 3)).set 2 (.string ⟨t2.toArray⟩)).set 6 (.slice (some ⟨gr, 0, none⟩) 1 1)
      have hx5 : ExRow1 Z w3.heap.size gr x := by
        have hc : ∀ h, w3.heap.size ≤ h → h ≠ c := fun h hh => by omega
        rw [hZ]
        exact ((HX4.out.stays (Nat.le_refl _) fun j hj hl => (Lib.grownBy_setCell _ c 0 _).block j hl (by simpa using hc j hj)).stays (Nat.le_refl _) fun j hj hl => (Lib.grownBy_setCell _ c 2 _).block j hl (by simpa using hc j hj)).stays (Nat.le_refl _) fun j hj hl => (Lib.grownBy_setCell _ c 6 _).block j hl (by simpa using hc j hj)
      have HN5 := Lib.hid (And.intro hN5 hx5)
      have HE5 := Lib.hid (HEq.out s2 Z hN5.pw)
      clear hN5 hx5 hZ HN4 HX4
      go_wp2_with fail
      refine HE5.out.mono ?_
      rintro e w6 h6
      rcases h6.elim with ⟨pn, hr, hg, rfl⟩ | ⟨⟨q0, q1, q2, q3⟩, s3, hr, hg, rfl, hp⟩
      · have FIN := Lib.hid (NmPost.err (c := c) (g := g) (cap := cap) (ts := ts) (HR4.out.trans (by rw [hr]; rfl)) (HN5.out.1.grown.trans (.of1 hg)))
        clear hg hr h6
        go_wp2
        exact ⟨rfl, FIN.out⟩
      · have hne6 := HNE4.out
        rw [hr, bindR_ok] at hne6
        have HNE6 := Lib.hid hne6
        have HR6 := Lib.hid (HR4.out.trans (by rw [hr, bindR_ok]))
        have hszb : b < w3.heap.size := by omega
        have hN6 := HN5.out.1.other hg hp
        have hx6 : ExRow1 w6 w3.heap.size gr x := HN5.out.2.stays (Nat.le_refl _) fun j hj hl => hg.block j hl (by simp; omega)
        have HN6 := Lib.hid (And.intro hN6 hx6)
        clear hg hr h6 hp hne6 HE5 HN5 HR4 HNE4 hN6 hx6
        unfold tokV'
        go_upto_region 7 with (fail)
        have hsz3 : w.heap.size ≤ w3.heap.size := hsz4
        have hMB : M < w3.heap.size := HN2.out.tok.lt
        obtain ⟨i0, hi, hz0, hz1, hz2⟩ := info_parts Tryz.infoEx
        obtain ⟨hgrB, xc, hxo, hxc⟩ := HN6.out.2
        have hgrl := HN6.out.2.lt
        have HX6 := Lib.hid (And.intro hxo hxc)
        clear hxo hxc
        have c6 := HN6.out.1.box.get 6 (.slice (some ⟨gr, 0, none⟩) 1 1) rfl
        have hS : (fun w' : World => w'.cell? ⟨c, 6, none⟩ = some (.slice (some ⟨gr, 0, none⟩) 1 1)) w6.drew := c6
        refine wp_region_dep (S := fun w' => w'.cell? ⟨c, 6, none⟩ = some (.slice (some ⟨gr, 0, none⟩) 1 1)) (dep := [9, 10, 11, 12, 13]) (by kernel_rfl) ?_
        change wpAnyD _ _ _ _ _ _ _ _ _ (World.drew _)
        refine wpAnyD_take (i := 0) (v := ?_) rfl (by kernel_rfl) (by kernel_rfl) (by kernel_rfl) (by kernel_rfl) (by kernel_rfl) (fun _ _ _ h => h) hS (Or.inl ⟨by rfl, ?_⟩) ?_
        rotate_left
        · intro w hSw; (try dsimp only at hSw); go_simp
          try with_reducible rfl
        try simp only [Act.put, List.setIfInBounds_toArray, List.set_cons_zero, List.set_cons_succ]
        refine wpAnyD_take (i := 1) (v := ?_) rfl (by kernel_rfl) (by kernel_rfl) (by kernel_rfl) (by kernel_rfl) (by kernel_rfl) (fun _ _ _ h => h) hS (Or.inl ⟨by rfl, ?_⟩) ?_
        rotate_left
        · intro w hSw; (try dsimp only at hSw); go_simp
          try with_reducible rfl
        try simp only [Act.put, List.setIfInBounds_toArray, List.set_cons_zero, List.set_cons_succ]
        refine wpAnyD_take (i := 2) (v := ?_) rfl (by kernel_rfl) (by kernel_rfl) (by kernel_rfl) (by kernel_rfl) (by kernel_rfl) (fun _ _ _ h => h) hS (Or.inl ⟨by rfl, ?_⟩) ?_
        rotate_left
        · intro w hSw; (try dsimp only at hSw); go_simp
          try with_reducible rfl
        try simp only [Act.put, List.setIfInBounds_toArray, List.set_cons_zero, List.set_cons_succ]
        refine wpAnyD_take (i := 3) (v := ?_) rfl (by kernel_rfl) (by kernel_rfl) (by kernel_rfl) (by kernel_rfl) (by kernel_rfl) (fun _ _ _ h => h) hS (Or.inl ⟨by rfl, ?_⟩) ?_
        rotate_left
        · intro w hSw; (try dsimp only at hSw); go_simp
          try with_reducible rfl
        try simp only [Act.put, List.setIfInBounds_toArray, List.set_cons_zero, List.set_cons_succ]
        refine wpAnyD_take (i := 4) (v := ?_) rfl (by kernel_rfl) (by kernel_rfl) (by kernel_rfl) (by kernel_rfl) (by kernel_rfl) (fun _ _ _ h => h) hS (Or.inl ⟨by rfl, ?_⟩) ?_
        rotate_left
        · intro w hSw; (try dsimp only at hSw); go_simp
          try with_reducible rfl
        try simp only [Act.put, List.setIfInBounds_toArray, List.set_cons_zero, List.set_cons_succ]
        refine wpAnyD_take (i := 6) (v := ?_) rfl (by kernel_rfl) (by kernel_rfl) (by kernel_rfl) (by kernel_rfl) (by kernel_rfl) (fun _ _ _ h => h) hS (Or.inl ⟨by rfl, ?_⟩) ?_
        rotate_left
        · intro w hSw; (try dsimp only at hSw); go_simp
          try with_reducible rfl
        try simp only [Act.put, List.setIfInBounds_toArray, List.set_cons_zero, List.set_cons_succ]
        clear hS c6
        refine wpAnyD_two (i := 5) (j := 7) rfl rfl (by kernel_rfl) rfl rfl (fun K hK => ?_) (fun K hK => ?_)
        · have HC := Lib.hid (HEx.out s3 w6.drew (HN6.out.1.pw.below (Below.refl _ _).drew) (bindR_gone HNE6.out))
          go_simp
          refine HC.out.mono ?_
          rintro e w7 h7
          rcases h7.elim with ⟨pn, hr, hg, rfl⟩ | ⟨y, s4, hr, hg, ⟨yk, yo, ynm, yn, yp, ya, ym, yc, rfl, hy⟩, hp⟩
          · exact ⟨rfl, NmPost.err (HR6.out.trans (by rw [hr]; rfl)) (HN6.out.1.grown.trans ((Grown2.below (Below.refl _ _).drew).trans (.of1 hg)))⟩
          · have hN7 := (HN6.out.1.below (Below.refl _ _).drew).other hg hp
            have HR7 := Lib.hid (HR6.out.trans (by rw [hr, bindR_ok]))
            have hbZ : Below w7.heap.size w7 (w7.alloc (.cells zEx 36)) := (Below.refl _ _).alloc (Nat.le_refl _) _
            have N8 := Lib.hid (hN7.below hbZ)
            have hs7 := hg.size
            have X8 : Hid ((w7.alloc (.cells zEx 36)).ownsRow 0 36 6 (.slice (some ⟨gr, 0, none⟩) 1 1) 1 xc ∧ ExC (w7.alloc (.cells zEx 36)) (fun h => w3.heap.size ≤ h ∧ h < gr) x xc) := by
              have o7 := owns_stays HX6.out.1 (hg.block gr hgrl (by simp; omega))
              exact ⟨owns_stays o7 (hbZ.block gr (Nat.lt_of_lt_of_le hgrl hs7)), ExC.stays (w := w7) (ok := fun h => w3.heap.size ≤ h ∧ h < gr) (fun j hj hl => ⟨hbZ.block j hl, hj⟩) x xc (ExC.stays (w := w6) (w' := w7) (ok := fun h => w3.heap.size ≤ h ∧ h < gr) (fun j hj hl => ⟨hg.block j hl (by simp; omega), hj⟩) x xc HX6.out.2)⟩
            have hs6 : w6.heap.size = w6.drew.heap.size := rfl
            have Y8 := Lib.hid (show ExC (w7.alloc (.cells zEx 36)) (fun h => gr < h) y _ from hy.stays fun j hj hl => ⟨hbZ.block j hl, by omega⟩)
            have c6 := hN7.box.get 6 (.slice (some ⟨gr, 0, none⟩) 1 1) rfl
            have c6' := (hN7.below hbZ).box.get 6 (.slice (some ⟨gr, 0, none⟩) 1 1) rfl
            have hsz8 : w3.heap.size ≤ (w7.alloc (.cells zEx 36)).heap.size := by simp; omega
            have hgr8 : gr < (w7.alloc (.cells zEx 36)).heap.size := by simp; omega
            clear hr hg h7 hp hN7 hbZ hy
            refine hK _ _ (Or.inr c6) ?_
            clear hK K
            try simp only [Act.put, List.setIfInBounds_toArray, List.set_cons_zero, List.set_cons_succ]
            refine wpAnyD_one (i := 7) rfl (by kernel_rfl) rfl (fun K hK => ?_)
            go_simp
            refine hK _ _ (Or.inr c6') ?_
            clear hK K c6 c6'
            try simp only [Act.put, List.setIfInBounds_toArray, List.set_cons_zero, List.set_cons_succ]
            refine wpAnyD_one (i := 8) rfl (by kernel_rfl) rfl (fun K hK => ?_)
            refine wp_append_lies _ (.tmp 56) (.tmp 60) 34 rfl w3.heap.size 36 i0 _ 6 64 Tryz.underlying34 hi hz0 hz1 hz2 rfl (by omega) (.slice (some ⟨gr, 0, none⟩) 1 1) 1 xc rfl (owns_up X8.out.1 hgrB) ⟨w7.heap.size, 0, none⟩ 1 1 zEx.toList rfl rfl (World.news_of_block (heap_alloc_new w7 _)) ex_one (by omega) (by unfold maxLen; omega) (by omega) hsz8 _ rfl ?_
            intro gg cg w9 hown hgrow hat hlt9
            have HF := Lib.hid (put_fin N8.out hsz3 hMB hgrB hgr8 X8.out.2 Y8.out hown hgrow (hat.imp (fun h => Option.some.inj (show some gr = some gg from h)) fun h => h))
            clear hown hgrow hat
            refine hK _ _ (Or.inr (HF.out.1.box.get 6 (.slice (some ⟨gr, 0, none⟩) 1 1) rfl)) ?_
            clear hK K
            try simp only [Act.put, List.setIfInBounds_toArray, List.set_cons_zero, List.set_cons_succ]
            refine wpAnyD_free (i := 9) (v := ?_) rfl (by kernel_rfl) (by kernel_rfl) (by kernel_rfl) (by kernel_rfl) (fun _ _ _ h => h) (Or.inl ⟨by rfl, ?_⟩) ?_
            rotate_left
            · intro w hSw; clear hSw; go_simp
              try with_reducible rfl
            try simp only [Act.put, List.setIfInBounds_toArray, List.set_cons_zero, List.set_cons_succ]
            refine wpAnyD_free (i := 11) (v := ?_) rfl (by kernel_rfl) (by kernel_rfl) (by kernel_rfl) (by kernel_rfl) (fun _ _ _ h => h) (Or.inl ⟨by rfl, ?_⟩) ?_
            rotate_left
            · intro w hSw; clear hSw; go_simp
              try with_reducible rfl
            try simp only [Act.put, List.setIfInBounds_toArray, List.set_cons_zero, List.set_cons_succ]
            refine wpAnyD_free (i := 12) (v := ?_) rfl (by kernel_rfl) (by kernel_rfl) (by kernel_rfl) (by kernel_rfl) (fun _ _ _ h => h) (Or.inl ⟨by rfl, ?_⟩) ?_
            rotate_left
            · intro w hSw; clear hSw; go_simp
              try with_reducible rfl
            try simp only [Act.put, List.setIfInBounds_toArray, List.set_cons_zero, List.set_cons_succ]
            have c6 := HF.out.1.box.get 6 (.slice (some ⟨gr, 0, none⟩) 1 1) rfl
            have k6 := HF.out.1.box.free 6
            obtain ⟨d0, d1, d2, d3, d4, d5⟩ := six_of HF.out.2.1
            have hgc := HF.out.2.2.1
            refine wpAnyD_two (i := 10) (j := 13) rfl rfl (by kernel_rfl) rfl rfl (fun K hK => ?_) (fun K hK => ?_)
            · go_simp
              rw [← el6_eq]
              refine hK _ _ (Or.inl rfl) ?_
              clear hK K
              try simp only [Act.put, List.setIfInBounds_toArray, List.set_cons_zero, List.set_cons_succ]
              have hbx := HF.out.1.box.other (grown_el6 w9 gg (.int .u8 (yk : Int)) (.int .u8 (yo : Int)) (.string ⟨ynm.toArray⟩) (.int .i64 (yn : Int)) (.int .i64 (yp : Int)) (.slice ya ym yc)) (by simpa using Ne.symm hgc)
              have hFZ := HF.out.2.2.2 _ (Or.inl rfl)
              have c6 := hbx.get 6 (.slice (some ⟨gr, 0, none⟩) 1 1) rfl
              have k6 := hbx.free 6
              generalize el6 w9 gg (.int .u8 (yk : Int)) (.int .u8 (yo : Int)) (.string ⟨ynm.toArray⟩) (.int .i64 (yn : Int)) (.int .i64 (yp : Int)) (.slice ya ym yc) = E at *
              clear hbx
              refine wpAnyD_one (i := 13) rfl (by kernel_rfl) rfl (fun K hK => ?_)
              go_simp
              refine hK _ _ (Or.inl rfl) ?_
              clear hK K
              try simp only [Act.put, List.setIfInBounds_toArray, List.set_cons_zero, List.set_cons_succ]
              refine wpAnyD_done (by kernel_rfl) ?_ _
              obtain ⟨Z, hZ⟩ : ∃ Z, Z = E.setCell ⟨c, 6, none⟩ (.slice (some ⟨gg, 0, none⟩) 2 cg) := ⟨_, rfl⟩
              rw [← hZ] at hFZ ⊢
              have FZ := Lib.hid hFZ
              clear hFZ hZ HF d0 d1 d2 d3 d4 d5 hgc c6 k6 hlt9
              have HS := Lib.hid (HSe.out s4 Z FZ.out.1.pw)
              go_wp2_with fail
              refine HS.out.mono ?_
              rintro e w10 h10
              rcases h10.elim with ⟨pn, hr, hg, rfl⟩ | ⟨⟨p0, p1, p2, p3⟩, s5, hr, hg, rfl, hp⟩
              · have FIN := Lib.hid (NmPost.err (c := c) (g := g) (cap := cap) (ts := ts) (HR7.out.trans (by rw [hr]; rfl)) (FZ.out.1.grown.trans (.of1 hg)))
                clear hg hr h10
                go_wp2
                exact ⟨rfl, FIN.out⟩
              · have N10 := FZ.out.1.other hg hp
                have hrow : ExRow w10 (fun h => w.heap.size ≤ h) [x, y] (.slice (some ⟨gg, 0, none⟩) 2 cg) := FZ.out.2.stays (stays_of_grown hg fun h hh => ⟨by omega, hh⟩)
                have FIN := Lib.hid (NmPost.ok (c := c) (g := g) (cap := cap) (ts := ts) (HR7.out.trans (by rw [hr, bindR_ok])) N10.grown (smB_of (k := 3) (id := id) (nm := t2) (t := 0) (n := 0) (pos := pos) (a1 := some ⟨gg, 0, none⟩) (m1 := 2) (c1 := cg) (a2 := none) (m2 := 0) (c2 := 0) (a3 := none) (m3 := 0) (c3 := 0) N10.box (by
                  simp only [SmC]
                  exact ⟨_, _, _, rfl, hrow, by simp, by simp⟩)) hp)
                clear hg hr h10 hp hrow N10
                unfold tokV'
                go_wp2
                go_end0
                exact FIN.out
            · go_simp
              refine hK _ _ (Or.inl rfl) ?_
              clear hK K
              try simp only [Act.put, List.setIfInBounds_toArray, List.set_cons_zero, List.set_cons_succ]
              have hFZ := HF.out.2.2.2 _ (Or.inr rfl)
              have hoc : ∀ j u, w9.cell? ⟨gg, j, none⟩ = some u ∧ w9.frozen? ⟨gg, j, none⟩ = false → (w9.setCell ⟨c, 6, none⟩ (.slice (some ⟨gg, 0, none⟩) 2 cg)).cell? ⟨gg, j, none⟩ = some u ∧ (w9.setCell ⟨c, 6, none⟩ (.slice (some ⟨gg, 0, none⟩) 2 cg)).frozen? ⟨gg, j, none⟩ = false := fun j u h => ⟨(World.cell?_of_block (w := w9) (a := ⟨gg, j, none⟩) (Below.heap_setCell _ _ _ _ hgc)).trans h.1, (World.frozen?_of_block (w := w9) (a := ⟨gg, j, none⟩) (Below.heap_setCell _ _ _ _ hgc)).trans h.2⟩
              replace d0 := hoc _ _ d0
              replace d1 := hoc _ _ d1
              replace d2 := hoc _ _ d2
              replace d3 := hoc _ _ d3
              replace d4 := hoc _ _ d4
              replace d5 := hoc _ _ d5
              clear hoc
              generalize w9.setCell ⟨c, 6, none⟩ (.slice (some ⟨gg, 0, none⟩) 2 cg) = E at *
              refine wpAnyD_one (i := 10) rfl (by kernel_rfl) rfl (fun K hK => ?_)
              go_simp
              rw [← el6_eq]
              refine hK _ _ (Or.inl rfl) ?_
              clear hK K
              try simp only [Act.put, List.setIfInBounds_toArray, List.set_cons_zero, List.set_cons_succ]
              refine wpAnyD_done (by kernel_rfl) ?_ _
              obtain ⟨Z, hZ⟩ : ∃ Z, Z = el6 E gg (.int .u8 (yk : Int)) (.int .u8 (yo : Int)) (.string ⟨ynm.toArray⟩) (.int .i64 (yn : Int)) (.int .i64 (yp : Int)) (.slice ya ym yc) := ⟨_, rfl⟩
              rw [← hZ] at hFZ ⊢
              have FZ := Lib.hid hFZ
              clear hFZ hZ HF d0 d1 d2 d3 d4 d5 hgc c6 k6 hlt9
              have HS := Lib.hid (HSe.out s4 Z FZ.out.1.pw)
              go_wp2_with fail
              refine HS.out.mono ?_
              rintro e w10 h10
              rcases h10.elim with ⟨pn, hr, hg, rfl⟩ | ⟨⟨p0, p1, p2, p3⟩, s5, hr, hg, rfl, hp⟩
              · have FIN := Lib.hid (NmPost.err (c := c) (g := g) (cap := cap) (ts := ts) (HR7.out.trans (by rw [hr]; rfl)) (FZ.out.1.grown.trans (.of1 hg)))
                clear hg hr h10
                go_wp2
                exact ⟨rfl, FIN.out⟩
              · have N10 := FZ.out.1.other hg hp
                have hrow : ExRow w10 (fun h => w.heap.size ≤ h) [x, y] (.slice (some ⟨gg, 0, none⟩) 2 cg) := FZ.out.2.stays (stays_of_grown hg fun h hh => ⟨by omega, hh⟩)
                have FIN := Lib.hid (NmPost.ok (c := c) (g := g) (cap := cap) (ts := ts) (HR7.out.trans (by rw [hr, bindR_ok])) N10.grown (smB_of (k := 3) (id := id) (nm := t2) (t := 0) (n := 0) (pos := pos) (a1 := some ⟨gg, 0, none⟩) (m1 := 2) (c1 := cg) (a2 := none) (m2 := 0) (c2 := 0) (a3 := none) (m3 := 0) (c3 := 0) N10.box (by
                  simp only [SmC]
                  exact ⟨_, _, _, rfl, hrow, by simp, by simp⟩)) hp)
                clear hg hr h10 hp hrow N10
                unfold tokV'
                go_wp2
                go_end0
                exact FIN.out
        · go_simp
          have hbZ : Below w6.drew.heap.size w6.drew (w6.drew.alloc (.cells zEx 36)) := (Below.refl _ _).alloc (Nat.le_refl _) _
          have hbZ6 : Below w6.heap.size w6 (w6.drew.alloc (.cells zEx 36)) := ((Below.refl w6.heap.size w6).drew).alloc (Nat.le_refl _) _
          have hN6' := HN6.out.1.below hbZ6
          have c6 := hN6'.box.get 6 (.slice (some ⟨gr, 0, none⟩) 1 1) rfl
          have hzb : Blk w6.heap.size zEx 36 (w6.drew.alloc (.cells zEx 36)) := Blk.new w6.drew _ _
          have hs6 : (w6.drew.alloc (.cells zEx 36)).heap.size = w6.heap.size + 1 := by show (w6.heap.push _).size = _; exact Array.size_push _
          refine hK _ _ (Or.inr c6) ?_
          clear hK K c6 hbZ
          try simp only [Act.put, List.setIfInBounds_toArray, List.set_cons_zero, List.set_cons_succ]
          change wpAnyD _ _ _ _ _ _ _ _ _ (w6.drew.alloc (.cells zEx 36))
          generalize w6.drew.alloc (.cells zEx 36) = W6 at *
          have HC := Lib.hid (HEx.out s3 W6 hN6'.pw (bindR_gone HNE6.out))
          refine wpAnyD_one (i := 5) rfl (by kernel_rfl) rfl (fun K hK => ?_)
          go_simp
          refine HC.out.mono ?_
          rintro e w7 h7
          rcases h7.elim with ⟨pn, hr, hg, rfl⟩ | ⟨y, s4, hr, hg, ⟨yk, yo, ynm, yn, yp, ya, ym, yc, rfl, hy⟩, hp⟩
          · exact ⟨rfl, NmPost.err (HR6.out.trans (by rw [hr]; rfl)) (hN6'.grown.trans (.of1 hg))⟩
          · have hN7 := hN6'.other hg hp
            have HR7 := Lib.hid (HR6.out.trans (by rw [hr, bindR_ok]))
            have N8 := Lib.hid hN7
            have hs7 := hg.size
            have X8 : Hid (w7.ownsRow 0 36 6 (.slice (some ⟨gr, 0, none⟩) 1 1) 1 xc ∧ ExC w7 (fun h => w3.heap.size ≤ h ∧ h < gr) x xc) := by
              have o7 := owns_stays HX6.out.1 (hbZ6.block gr hgrl)
              exact ⟨owns_stays o7 (hg.block gr (by omega) (by simp; omega)), ExC.stays (w := W6) (ok := fun h => w3.heap.size ≤ h ∧ h < gr) (fun j hj hl => ⟨hg.block j hl (by simp; omega), hj⟩) x xc (ExC.stays (w := w6) (w' := W6) (ok := fun h => w3.heap.size ≤ h ∧ h < gr) (fun j hj hl => ⟨hbZ6.block j hl, hj⟩) x xc HX6.out.2)⟩
            have Y8 := Lib.hid (show ExC w7 (fun h => gr < h) y _ from hy.stays fun j hj hl => ⟨rfl, by omega⟩)
            have c6 := hN7.box.get 6 (.slice (some ⟨gr, 0, none⟩) 1 1) rfl
            have hzb7 := hzb.other hg (by simp; omega)
            have hsz8 : w3.heap.size ≤ w7.heap.size := by omega
            have hgr8 : gr < w7.heap.size := by omega
            clear hr hg h7 hp hN7 hbZ6 hy hzb hN6'
            refine hK _ _ (Or.inr c6) ?_
            clear hK K c6
            try simp only [Act.put, List.setIfInBounds_toArray, List.set_cons_zero, List.set_cons_succ]
            refine wpAnyD_one (i := 8) rfl (by kernel_rfl) rfl (fun K hK => ?_)
            refine wp_append_lies _ (.tmp 56) (.tmp 60) 34 rfl w3.heap.size 36 i0 _ 6 64 Tryz.underlying34 hi hz0 hz1 hz2 rfl (by omega) (.slice (some ⟨gr, 0, none⟩) 1 1) 1 xc rfl (owns_up X8.out.1 hgrB) ⟨w6.heap.size, 0, none⟩ 1 1 zEx.toList rfl rfl (World.news_of_block hzb7) ex_one (by omega) (by unfold maxLen; omega) (by omega) hsz8 _ rfl ?_
            intro gg cg w9 hown hgrow hat hlt9
            have HF := Lib.hid (put_fin N8.out hsz3 hMB hgrB hgr8 X8.out.2 Y8.out hown hgrow (hat.imp (fun h => Option.some.inj (show some gr = some gg from h)) fun h => h))
            clear hown hgrow hat
            refine hK _ _ (Or.inr (HF.out.1.box.get 6 (.slice (some ⟨gr, 0, none⟩) 1 1) rfl)) ?_
            clear hK K
            try simp only [Act.put, List.setIfInBounds_toArray, List.set_cons_zero, List.set_cons_succ]
            refine wpAnyD_free (i := 9) (v := ?_) rfl (by kernel_rfl) (by kernel_rfl) (by kernel_rfl) (by kernel_rfl) (fun _ _ _ h => h) (Or.inl ⟨by rfl, ?_⟩) ?_
            rotate_left
            · intro w hSw; clear hSw; go_simp
              try with_reducible rfl
            try simp only [Act.put, List.setIfInBounds_toArray, List.set_cons_zero, List.set_cons_succ]
            refine wpAnyD_free (i := 11) (v := ?_) rfl (by kernel_rfl) (by kernel_rfl) (by kernel_rfl) (by kernel_rfl) (fun _ _ _ h => h) (Or.inl ⟨by rfl, ?_⟩) ?_
            rotate_left
            · intro w hSw; clear hSw; go_simp
              try with_reducible rfl
            try simp only [Act.put, List.setIfInBounds_toArray, List.set_cons_zero, List.set_cons_succ]
            refine wpAnyD_free (i := 12) (v := ?_) rfl (by kernel_rfl) (by kernel_rfl) (by kernel_rfl) (by kernel_rfl) (fun _ _ _ h => h) (Or.inl ⟨by rfl, ?_⟩) ?_
            rotate_left
            · intro w hSw; clear hSw; go_simp
              try with_reducible rfl
            try simp only [Act.put, List.setIfInBounds_toArray, List.set_cons_zero, List.set_cons_succ]
            have c6 := HF.out.1.box.get 6 (.slice (some ⟨gr, 0, none⟩) 1 1) rfl
            have k6 := HF.out.1.box.free 6
            obtain ⟨d0, d1, d2, d3, d4, d5⟩ := six_of HF.out.2.1
            have hgc := HF.out.2.2.1
            refine wpAnyD_two (i := 10) (j := 13) rfl rfl (by kernel_rfl) rfl rfl (fun K hK => ?_) (fun K hK => ?_)
            · go_simp
              rw [← el6_eq]
              refine hK _ _ (Or.inl rfl) ?_
              clear hK K
              try simp only [Act.put, List.setIfInBounds_toArray, List.set_cons_zero, List.set_cons_succ]
              have hbx := HF.out.1.box.other (grown_el6 w9 gg (.int .u8 (yk : Int)) (.int .u8 (yo : Int)) (.string ⟨ynm.toArray⟩) (.int .i64 (yn : Int)) (.int .i64 (yp : Int)) (.slice ya ym yc)) (by simpa using Ne.symm hgc)
              have hFZ := HF.out.2.2.2 _ (Or.inl rfl)
              have c6 := hbx.get 6 (.slice (some ⟨gr, 0, none⟩) 1 1) rfl
              have k6 := hbx.free 6
              generalize el6 w9 gg (.int .u8 (yk : Int)) (.int .u8 (yo : Int)) (.string ⟨ynm.toArray⟩) (.int .i64 (yn : Int)) (.int .i64 (yp : Int)) (.slice ya ym yc) = E at *
              clear hbx
              refine wpAnyD_one (i := 13) rfl (by kernel_rfl) rfl (fun K hK => ?_)
              go_simp
              refine hK _ _ (Or.inl rfl) ?_
              clear hK K
              try simp only [Act.put, List.setIfInBounds_toArray, List.set_cons_zero, List.set_cons_succ]
              refine wpAnyD_done (by kernel_rfl) ?_ _
              obtain ⟨Z, hZ⟩ : ∃ Z, Z = E.setCell ⟨c, 6, none⟩ (.slice (some ⟨gg, 0, none⟩) 2 cg) := ⟨_, rfl⟩
              rw [← hZ] at hFZ ⊢
              have FZ := Lib.hid hFZ
              clear hFZ hZ HF d0 d1 d2 d3 d4 d5 hgc c6 k6 hlt9
              have HS := Lib.hid (HSe.out s4 Z FZ.out.1.pw)
              go_wp2_with fail
              refine HS.out.mono ?_
              rintro e w10 h10
              rcases h10.elim with ⟨pn, hr, hg, rfl⟩ | ⟨⟨p0, p1, p2, p3⟩, s5, hr, hg, rfl, hp⟩
              · have FIN := Lib.hid (NmPost.err (c := c) (g := g) (cap := cap) (ts := ts) (HR7.out.trans (by rw [hr]; rfl)) (FZ.out.1.grown.trans (.of1 hg)))
                clear hg hr h10
                go_wp2
                exact ⟨rfl, FIN.out⟩
              · have N10 := FZ.out.1.other hg hp
                have hrow : ExRow w10 (fun h => w.heap.size ≤ h) [x, y] (.slice (some ⟨gg, 0, none⟩) 2 cg) := FZ.out.2.stays (stays_of_grown hg fun h hh => ⟨by omega, hh⟩)
                have FIN := Lib.hid (NmPost.ok (c := c) (g := g) (cap := cap) (ts := ts) (HR7.out.trans (by rw [hr, bindR_ok])) N10.grown (smB_of (k := 3) (id := id) (nm := t2) (t := 0) (n := 0) (pos := pos) (a1 := some ⟨gg, 0, none⟩) (m1 := 2) (c1 := cg) (a2 := none) (m2 := 0) (c2 := 0) (a3 := none) (m3 := 0) (c3 := 0) N10.box (by
                  simp only [SmC]
                  exact ⟨_, _, _, rfl, hrow, by simp, by simp⟩)) hp)
                clear hg hr h10 hp hrow N10
                unfold tokV'
                go_wp2
                go_end0
                exact FIN.out
            · go_simp
              refine hK _ _ (Or.inl rfl) ?_
              clear hK K
              try simp only [Act.put, List.setIfInBounds_toArray, List.set_cons_zero, List.set_cons_succ]
              have hFZ := HF.out.2.2.2 _ (Or.inr rfl)
              have hoc : ∀ j u, w9.cell? ⟨gg, j, none⟩ = some u ∧ w9.frozen? ⟨gg, j, none⟩ = false → (w9.setCell ⟨c, 6, none⟩ (.slice (some ⟨gg, 0, none⟩) 2 cg)).cell? ⟨gg, j, none⟩ = some u ∧ (w9.setCell ⟨c, 6, none⟩ (.slice (some ⟨gg, 0, none⟩) 2 cg)).frozen? ⟨gg, j, none⟩ = false := fun j u h => ⟨(World.cell?_of_block (w := w9) (a := ⟨gg, j, none⟩) (Below.heap_setCell _ _ _ _ hgc)).trans h.1, (World.frozen?_of_block (w := w9) (a := ⟨gg, j, none⟩) (Below.heap_setCell _ _ _ _ hgc)).trans h.2⟩
              replace d0 := hoc _ _ d0
              replace d1 := hoc _ _ d1
              replace d2 := hoc _ _ d2
              replace d3 := hoc _ _ d3
              replace d4 := hoc _ _ d4
              replace d5 := hoc _ _ d5
              clear hoc
              generalize w9.setCell ⟨c, 6, none⟩ (.slice (some ⟨gg, 0, none⟩) 2 cg) = E at *
              refine wpAnyD_one (i := 10) rfl (by kernel_rfl) rfl (fun K hK => ?_)
              go_simp
              rw [← el6_eq]
              refine hK _ _ (Or.inl rfl) ?_
              clear hK K
              try simp only [Act.put, List.setIfInBounds_toArray, List.set_cons_zero, List.set_cons_succ]
              refine wpAnyD_done (by kernel_rfl) ?_ _
              obtain ⟨Z, hZ⟩ : ∃ Z, Z = el6 E gg (.int .u8 (yk : Int)) (.int .u8 (yo : Int)) (.string ⟨ynm.toArray⟩) (.int .i64 (yn : Int)) (.int .i64 (yp : Int)) (.slice ya ym yc) := ⟨_, rfl⟩
              rw [← hZ] at hFZ ⊢
              have FZ := Lib.hid hFZ
              clear hFZ hZ HF d0 d1 d2 d3 d4 d5 hgc c6 k6 hlt9
              have HS := Lib.hid (HSe.out s4 Z FZ.out.1.pw)
              go_wp2_with fail
              refine HS.out.mono ?_
              rintro e w10 h10
              rcases h10.elim with ⟨pn, hr, hg, rfl⟩ | ⟨⟨p0, p1, p2, p3⟩, s5, hr, hg, rfl, hp⟩
              · have FIN := Lib.hid (NmPost.err (c := c) (g := g) (cap := cap) (ts := ts) (HR7.out.trans (by rw [hr]; rfl)) (FZ.out.1.grown.trans (.of1 hg)))
                clear hg hr h10
                go_wp2
                exact ⟨rfl, FIN.out⟩
              · have N10 := FZ.out.1.other hg hp
                have hrow : ExRow w10 (fun h => w.heap.size ≤ h) [x, y] (.slice (some ⟨gg, 0, none⟩) 2 cg) := FZ.out.2.stays (stays_of_grown hg fun h hh => ⟨by omega, hh⟩)
                have FIN := Lib.hid (NmPost.ok (c := c) (g := g) (cap := cap) (ts := ts) (HR7.out.trans (by rw [hr, bindR_ok])) N10.grown (smB_of (k := 3) (id := id) (nm := t2) (t := 0) (n := 0) (pos := pos) (a1 := some ⟨gg, 0, none⟩) (m1 := 2) (c1 := cg) (a2 := none) (m2 := 0) (c2 := 0) (a3 := none) (m3 := 0) (c3 := 0) N10.box (by
                  simp only [SmC]
                  exact ⟨_, _, _, rfl, hrow, by simp, by simp⟩)) hp)
                clear hg hr h10 hp hrow N10
                unfold tokV'
                go_wp2
                go_end0
                exact FIN.out
end Go.Proofs.YtcgllooeimacdaaGreatDoor
