/-
  The reference's reader in memory: statements and blocks, whole.
-/
import Derived.Test.YtcgllooeimacdaaGreatDoorTRdB
import Derived.Test.YtcgllooeimacdaaGreatDoorTFun
namespace Go.Proofs.YtcgllooeimacdaaGreatDoor
open Go Go.RowKit Px
open Lx (Tok)

set_option maxRecDepth 100000 in
set_option maxHeartbeats 20000000 in
theorem stmt_w {F : Nat} (hL : ∀ G, G ≤ F → LevC G) (hP : ∀ G, G ≤ F → PlcC G) (hA : ∀ G, G ≤ F → ArgC G) (hB : BlcC F) : StC (F + 1) := by
  intro b g cap ts s x s' w hw h
  rw [stmtM] at h
  by_cases hn : s.n < 1000000
  rotate_left
  · rw [if_neg hn] at h; cases h
  rw [if_pos hn] at h
  obtain ⟨t, s1, h1, h2⟩ := bindO_inv h
  unfold stmtK at h2
  have H2 := Lib.hid h2
  have hlen := hw.len
  obtain ⟨rfl, _⟩ := nowM_inv h1
  have hbl := hw.lt
  have hgl := hw.toks.lt
  have hnb : (s.n : Int) < 1000000 := by omega
  have hbA : Below w.heap.size w (w.alloc sm0) := (Below.refl _ _).alloc (Nat.le_refl _) _
  have p3 := (hw.below hbA).c3
  have q3 := (hw.below hbA).blk.free 3
  obtain ⟨Y, hY⟩ : ∃ Y, Y = w.setCell ⟨b, 3, none⟩ (.int .i64 ((s.n : Int) + 1)) := ⟨_, rfl⟩
  have hgY : w.grownBy Y (some b) := by rw [hY]; exact Lib.grownBy_setCell _ _ _ _
  have hrY : RW b g cap ts ⟨s.i, s.o, s.n + 1, s.pl, s.e⟩ Y := by rw [hY]; exact hw.step (Lib.grownBy_setCell _ _ _ _) (hw.blk.set 3 _)
  have hYs : Y.heap.size = w.heap.size := by rw [hY]; simp [World.setCell]
  obtain ⟨X, hX⟩ : ∃ X, X = Y.alloc sm0 := ⟨_, rfl⟩
  have hbX : Below Y.heap.size Y X := by rw [hX]; exact (Below.refl _ _).alloc (Nat.le_refl _) _
  have hzX : Blk w.heap.size zSm 39 X := by rw [hX]; exact Blk.new' _ _ _ hYs.symm
  have hsX : w.heap.size < X.heap.size := hzX.lt
  have HX := Lib.hid (And.intro (gtrans hgY (grown_of_below (row := some b) hbX)) (And.intro (hrY.below hbX) hzX))
  have HN := Lib.hid fun w1 (hr : RW b g cap ts ⟨s.i, s.o, s.n + 1, s.pl, s.e⟩ w1) => now_w b g cap ts ⟨s.i, s.o, s.n + 1, s.pl, s.e⟩ ⟨s.i, s.o, s.n + 1, s.pl, s.e⟩ t w1 hr h1
  have HXX := Lib.hid hX
  have HYY := Lib.hid hY
  have HLv := Lib.hid hL
  have HPl := Lib.hid hP
  have HAr := Lib.hid hA
  have HBk := Lib.hid hB
  clear h1 hw hn hX hY hbA hgY hrY hYs hbX hzX hL hP hA hB h h2
  obtain ⟨tk, tp, tt, tn⟩ := t
  have hft := fTok1
  go_enter Tryz.func57, Tryz.ntmps57
  go_upto_region 2 with (fail)
  rw [← HYY.out, ← HXX.out]
  clear p3 q3 HXX HYY
  have c3 : X.cell? ⟨b, 3, none⟩ = some (.int .i64 ((s.n : Int) + 1)) := HX.out.2.1.c3
  go_cut [3] from 14 to 22 (fun p W => ∃ M, p = .pointer (some ⟨M, 0, none⟩) ∧ SW b g cap ts ⟨s.i, s.o, s.n + 1, s.pl, s.e⟩ w M 0 (s.n + 1) [] 0 0 tp [] [] [] (.slice none 0 0) (.slice none 0 0) (.slice none 0 0) W)
  case first =>
    have hS : (fun w' : World => w'.cell? ⟨b, 3, none⟩ = some (.int .i64 ((s.n : Int) + 1))) X.drew := c3
    refine wp_region_dep (S := fun w' => w'.cell? ⟨b, 3, none⟩ = some (.int .i64 ((s.n : Int) + 1))) (dep := [9]) (by kernel_rfl) ?_
    change wpAnyD _ _ _ _ _ _ _ _ _ (World.drew _)
    refine wpAnyD_take (i := 0) (v := ?_) rfl (by kernel_rfl) (by kernel_rfl) (by kernel_rfl) (by kernel_rfl) (by kernel_rfl) (fun _ _ _ h => h) hS (Or.inl ⟨by rfl, ?_⟩) ?_
    rotate_left
    · intro w hSw; go_simp
      try with_reducible rfl
    try simp only [Act.put, List.setIfInBounds_toArray]
    refine wpAnyD_take (i := 1) (v := ?_) rfl (by kernel_rfl) (by kernel_rfl) (by kernel_rfl) (by kernel_rfl) (by kernel_rfl) (fun _ _ _ h => h) hS (Or.inl ⟨by rfl, ?_⟩) ?_
    rotate_left
    · intro w hSw; go_simp
      try with_reducible rfl
    try simp only [Act.put]
    refine wpAnyD_take (i := 2) (v := ?_) rfl (by kernel_rfl) (by kernel_rfl) (by kernel_rfl) (by kernel_rfl) (by kernel_rfl) (fun _ _ _ h => h) hS (Or.inl ⟨by rfl, ?_⟩) ?_
    rotate_left
    · intro w hSw; go_simp
      try with_reducible rfl
    try simp only [Act.put]
    refine wpAnyD_take (i := 3) (v := ?_) rfl (by kernel_rfl) (by kernel_rfl) (by kernel_rfl) (by kernel_rfl) (by kernel_rfl) (fun _ _ _ h => h) hS (Or.inl ⟨by rfl, ?_⟩) ?_
    rotate_left
    · intro w hSw; go_simp
      try with_reducible rfl
    try simp only [Act.put]
    refine wpAnyD_take (i := 4) (v := ?_) rfl (by kernel_rfl) (by kernel_rfl) (by kernel_rfl) (by kernel_rfl) (by kernel_rfl) (fun _ _ _ h => h) hS (Or.inl ⟨by rfl, ?_⟩) ?_
    rotate_left
    · intro w hSw; go_simp
      try with_reducible rfl
    try simp only [Act.put]
    have hXD : Below X.heap.size X X.drew := (Below.refl _ _).drew
    refine wpAnyD_two (i := 5) (j := 8) rfl rfl (by kernel_rfl) rfl rfl (fun K hK => ?_) (fun K hK => ?_)
    · have HC := Lib.hid (HN.out X.drew (HX.out.2.1.below hXD))
      clear hS c3
      go_simp
      refine HC.out.mono ?_
      rintro e w1 ⟨rfl, hb1⟩
      have hb2 : Below X.heap.size X w1 := hXD.trans hb1
      have HX1 := Lib.hid (And.intro (gtrans HX.out.1 (grown_of_below (row := some b) hb2)) (And.intro (HX.out.2.1.below hb2) (And.intro (HX.out.2.2.below hb2 hsX) hb2.size)))
      have hS : (fun w' : World => w'.cell? ⟨b, 3, none⟩ = some (.int .i64 ((s.n : Int) + 1))) w1 := HX1.out.2.1.c3
      clear hb1 hb2 HC
      unfold tokV'
      refine hK _ _ (Or.inr hS) ?_
      clear hK K
      try simp only []
      refine wpAnyD_take (i := 6) (v := ?_) rfl (by kernel_rfl) (by kernel_rfl) (by kernel_rfl) (by kernel_rfl) (by kernel_rfl) (fun _ _ _ h => h) hS (Or.inl ⟨by rfl, ?_⟩) ?_
      rotate_left
      · intro w hSw; go_simp
        try with_reducible rfl
      try simp only [Act.put, List.setIfInBounds_toArray]
      refine wpAnyD_take (i := 7) (v := ?_) rfl (by kernel_rfl) (by kernel_rfl) (by kernel_rfl) (by kernel_rfl) (by kernel_rfl) (fun _ _ _ h => h) hS (Or.inl ⟨by rfl, ?_⟩) ?_
      rotate_left
      · intro w hSw; go_simp
        try with_reducible rfl
      try simp only [Act.put]
      clear hS
      refine wpAnyD_one (i := 8) rfl (by kernel_rfl) rfl (fun K hK => ?_)
      go_simp
      obtain ⟨V, hV⟩ : ∃ V, V = w1.alloc sm0 := ⟨_, rfl⟩
      have hbV : Below w1.heap.size w1 V := by rw [hV]; exact (Below.refl _ _).alloc (Nat.le_refl _) _
      have hzV : Blk w1.heap.size zSm 39 V := by rw [hV]; exact Blk.new _ _ _
      have HV := Lib.hid (And.intro (gtrans HX1.out.1 (grown_of_below (row := some b) hbV)) (And.intro (HX1.out.2.1.below hbV) (And.intro (HX1.out.2.2.1.below hbV (by have := HX1.out.2.2.2; omega)) hzV)))
      have hMw : w.heap.size < w1.heap.size := by have := HX1.out.2.2.2; omega
      rw [← hV]
      clear hV hbV hzV HX1
      generalize w1.heap.size = M at *
      refine hK _ _ (Or.inr HV.out.2.1.c3) ?_
      clear hK K
      try simp only [Act.put, List.setIfInBounds_toArray, List.set_cons_zero, List.set_cons_succ]
      obtain ⟨z0, z1, z2, z3, z4, z5, z6, z7, z8⟩ := HV.out.2.2.2.get9
      obtain ⟨f0, f1, f2, f3, f4, f5, f6, f7, f8⟩ := HV.out.2.2.2.free9
      obtain ⟨Z, hZ⟩ : ∃ Z, Z = set9 V M (.int .u8 0) (.int .i64 ((s.n : Int) + 1)) (.string ⟨#[]⟩) (.int .u8 0) (.int .i64 0) (.int .i64 (tp : Int)) (.slice none 0 0) (.slice none 0 0) (.slice none 0 0) := ⟨_, rfl⟩
      have hgZ : V.grownBy Z (some M) := by rw [hZ]; exact grown_set9 _ _ _ _ _ _ _ _ _ _ _
      have hSZ : SW b g cap ts ⟨s.i, s.o, s.n + 1, s.pl, s.e⟩ w M 0 (s.n + 1) [] 0 0 tp [] [] [] (.slice none 0 0) (.slice none 0 0) (.slice none 0 0) Z :=
        ⟨gnew HV.out.1 (by omega) hgZ, HV.out.2.2.1.other hgZ (by simp; omega), by rw [hZ]; exact HV.out.2.2.2.set9 _ _ _ _ _ _ _ _ _, ⟨[], World.ownsRow_nil _ _ _ _, rfl⟩, Or.inl ⟨rfl, rfl⟩, Or.inl ⟨rfl, rfl⟩, HV.out.2.1.other hgZ (by simp; omega) (by simp; omega), hMw, hbl, hgl⟩
      have HSZ := Lib.hid hSZ
      have HZZ := Lib.hid hZ
      clear hZ hgZ hSZ
      refine wpAnyD_one (i := 9) rfl (by kernel_rfl) rfl (fun K hK => ?_)
      go_simp
      rw [← set9_eq, ← HZZ.out]
      refine hK _ _ (Or.inl rfl) ?_
      clear hK K z0 z1 z2 z3 z4 z5 z6 z7 z8 f0 f1 f2 f3 f4 f5 f6 f7 f8
      try simp only [Act.put, List.setIfInBounds_toArray, List.set_cons_zero, List.set_cons_succ]
      refine wpAnyD_done (by kernel_rfl) ?_ _
      go_wp2_with fail
      go_meet
      case rel => exact ⟨M, rfl, HSZ.out⟩
    · have hbV : Below X.heap.size X (X.drew.alloc sm0) := hXD.alloc (Nat.le_refl _) _
      have HV0 := Lib.hid (And.intro (gtrans HX.out.1 (grown_of_below (row := some b) hbV)) (And.intro (HX.out.2.1.below hbV) (And.intro (HX.out.2.2.below hbV hsX) (show Blk X.heap.size zSm 39 (X.drew.alloc sm0) from Blk.new' _ _ _ rfl))))
      go_simp
      change K _ (X.drew.alloc sm0)
      clear hS c3 hXD hbV
      generalize X.drew.alloc sm0 = U at *
      generalize X.heap.size = M at *
      have hMw : w.heap.size < M := hsX
      refine hK _ _ (Or.inr HV0.out.2.1.c3) ?_
      clear hK K
      try simp only [Act.put, List.setIfInBounds_toArray, List.set_cons_zero, List.set_cons_succ]
      have HC := Lib.hid (HN.out U HV0.out.2.1)
      refine wpAnyD_one (i := 5) rfl (by kernel_rfl) rfl (fun K hK => ?_)
      go_simp
      refine HC.out.mono ?_
      rintro e V ⟨rfl, hb1⟩
      have HV := Lib.hid (And.intro (gtrans HV0.out.1 (grown_of_below (row := some b) hb1)) (And.intro (HV0.out.2.1.below hb1) (And.intro (HV0.out.2.2.1.below hb1 HV0.out.2.2.1.lt) (HV0.out.2.2.2.below hb1 HV0.out.2.2.2.lt))))
      have hS : (fun w' : World => w'.cell? ⟨b, 3, none⟩ = some (.int .i64 ((s.n : Int) + 1))) V := HV.out.2.1.c3
      clear hb1 HC HV0
      unfold tokV'
      refine hK _ _ (Or.inr hS) ?_
      clear hK K
      try simp only []
      refine wpAnyD_take (i := 6) (v := ?_) rfl (by kernel_rfl) (by kernel_rfl) (by kernel_rfl) (by kernel_rfl) (by kernel_rfl) (fun _ _ _ h => h) hS (Or.inl ⟨by rfl, ?_⟩) ?_
      rotate_left
      · intro w hSw; go_simp
        try with_reducible rfl
      try simp only [Act.put, List.setIfInBounds_toArray]
      refine wpAnyD_take (i := 7) (v := ?_) rfl (by kernel_rfl) (by kernel_rfl) (by kernel_rfl) (by kernel_rfl) (by kernel_rfl) (fun _ _ _ h => h) hS (Or.inl ⟨by rfl, ?_⟩) ?_
      rotate_left
      · intro w hSw; go_simp
        try with_reducible rfl
      try simp only [Act.put]
      clear hS
      obtain ⟨z0, z1, z2, z3, z4, z5, z6, z7, z8⟩ := HV.out.2.2.2.get9
      obtain ⟨f0, f1, f2, f3, f4, f5, f6, f7, f8⟩ := HV.out.2.2.2.free9
      obtain ⟨Z, hZ⟩ : ∃ Z, Z = set9 V M (.int .u8 0) (.int .i64 ((s.n : Int) + 1)) (.string ⟨#[]⟩) (.int .u8 0) (.int .i64 0) (.int .i64 (tp : Int)) (.slice none 0 0) (.slice none 0 0) (.slice none 0 0) := ⟨_, rfl⟩
      have hgZ : V.grownBy Z (some M) := by rw [hZ]; exact grown_set9 _ _ _ _ _ _ _ _ _ _ _
      have hSZ : SW b g cap ts ⟨s.i, s.o, s.n + 1, s.pl, s.e⟩ w M 0 (s.n + 1) [] 0 0 tp [] [] [] (.slice none 0 0) (.slice none 0 0) (.slice none 0 0) Z :=
        ⟨gnew HV.out.1 (by omega) hgZ, HV.out.2.2.1.other hgZ (by simp; omega), by rw [hZ]; exact HV.out.2.2.2.set9 _ _ _ _ _ _ _ _ _, ⟨[], World.ownsRow_nil _ _ _ _, rfl⟩, Or.inl ⟨rfl, rfl⟩, Or.inl ⟨rfl, rfl⟩, HV.out.2.1.other hgZ (by simp; omega) (by simp; omega), hMw, hbl, hgl⟩
      have HSZ := Lib.hid hSZ
      have HZZ := Lib.hid hZ
      clear hZ hgZ hSZ
      refine wpAnyD_one (i := 9) rfl (by kernel_rfl) rfl (fun K hK => ?_)
      go_simp
      rw [← set9_eq, ← HZZ.out]
      refine hK _ _ (Or.inl rfl) ?_
      clear hK K z0 z1 z2 z3 z4 z5 z6 z7 z8 f0 f1 f2 f3 f4 f5 f6 f7 f8
      try simp only [Act.put, List.setIfInBounds_toArray, List.set_cons_zero, List.set_cons_succ]
      refine wpAnyD_done (by kernel_rfl) ?_ _
      go_wp2_with fail
      go_meet
      case rel => exact ⟨M, rfl, HSZ.out⟩
  case rest =>
    obtain ⟨M, rfl, hSW⟩ := hcut
    have HS0 := Lib.hid hSW
    clear hSW c3 hsX HX HN
    generalize s.n + 1 = id at *
    generalize (⟨s.i, s.o, id, s.pl, s.e⟩ : RdS) = s1 at *
    obtain ⟨i0, hi, hz0, hz1, hz2⟩ := info_parts Tryz.infoEx
    have h2 := H2.out
    clear H2
    obtain ⟨v0w, r0, a0, h2⟩ := bindO_inv h2
    have K0 := Lib.hid h2
    clear h2
    have HC1 := Lib.hid (has_w b g cap ts s1 r0 [108, 101, 116] v0w wc HS0.out.rw a0)
    go_wp2_with fail
    refine HC1.out.mono ?_
    rintro e u1 ⟨rfl, hg, hr⟩
    have HS1 := Lib.hid (HS0.out.call hg hr)
    clear hg hr HC1 HS0
    cases v0w with
    | true =>
      have h2 := K0.out
      rw [if_pos rfl] at h2
      clear K0
      unfold letM at h2
      obtain ⟨nm, s3, h3, h4⟩ := bindO_inv h2
      obtain ⟨⟨⟩, s4, h5, h6⟩ := bindO_inv h4
      obtain ⟨y, s5, h7, h8⟩ := bindO_inv h6
      have H8 := Lib.hid h8
      clear h2 h4 h6 h8
      have HC2 := Lib.hid (name_w b g cap ts r0 s3 nm u1 HS1.out.rw h3)
      go_wp2_with fail
      refine HC2.out.mono ?_
      rintro e u2 ⟨rfl, hg, hr⟩
      have HS2 := Lib.hid (HS1.out.call hg hr)
      clear hg hr HC2 HS1
      obtain ⟨u3, hX⟩ : ∃ X, X = (u2.setCell ⟨M, 0, none⟩ (.int .u8 1)).setCell ⟨M, 2, none⟩ (.string ⟨nm.toArray⟩) := ⟨_, rfl⟩
      have c0 := HS2.out.box.get 0 (.int .u8 0) rfl
      have e0 := HS2.out.box.free 0
      have c2 := HS2.out.box.get 2 (.string ⟨#[]⟩) rfl
      have e2 := HS2.out.box.free 2
      have hSX : SW b g cap ts s3 w M 1 id nm 0 0 tp [] [] [] (.slice none 0 0) (.slice none 0 0) (.slice none 0 0) u3 := by rw [hX]; exact ((HS2.out.putK 1).putNm nm)
      have HS3 := Lib.hid hSX
      have HXX := Lib.hid hX
      clear hSX hX
      go_upto_region 20 with (fail)
      rw [← HXX.out]
      clear c0 e0 c2 e2 HXX HS2
      have HC4 := Lib.hid (skip_w b g cap ts s3 s4 [58] u3 HS3.out.rw h5)
      go_wp2_with fail
      refine HC4.out.mono ?_
      rintro e u4 ⟨rfl, hg, hr⟩
      have HS4 := Lib.hid (HS3.out.call hg hr)
      clear hg hr HC4 HS3
      have HC5 := Lib.hid (typed_w b g cap ts s4 s5 true y u4 HS4.out.rw h7)
      go_wp2_with fail
      refine HC5.out.mono ?_
      rintro e u5 ⟨rfl, hg, hr⟩
      have HS5 := Lib.hid (HS4.out.call hg hr)
      clear hg hr HC5 HS4
      obtain ⟨u6, hX⟩ : ∃ X, X = u5.setCell ⟨M, 3, none⟩ (.int .u8 (y : Int)) := ⟨_, rfl⟩
      have c3 := HS5.out.box.get 3 (.int .u8 0) rfl
      have e3 := HS5.out.box.free 3
      have hSX : SW b g cap ts s5 w M 1 id nm y 0 tp [] [] [] (.slice none 0 0) (.slice none 0 0) (.slice none 0 0) u6 := by rw [hX]; exact (HS5.out.putT y)
      have HS6 := Lib.hid hSX
      have HXX := Lib.hid hX
      clear hSX hX
      go_upto_region 22 with (fail)
      rw [← HXX.out]
      clear c3 e3 HXX HS5
      have c3 := HS6.out.box.get 3 (.int .u8 (y : Int)) rfl
      by_cases hy : y = 3
      · have hyb : ((y : Int) == 3) = true := by simp [hy]
        have h8 := H8.out
        rw [if_pos hy] at h8
        obtain ⟨⟨⟩, s6, h9, h10⟩ := bindO_inv h8
        obtain ⟨q, s7, h11, h12⟩ := bindO_inv h10
        obtain ⟨rfl, hq⟩ := nowM_inv h11
        obtain ⟨n, s8, h13, h14⟩ := bindO_inv h12
        obtain ⟨⟨⟩, s9, h15, h16⟩ := bindO_inv h14
        obtain ⟨⟨⟩, s10, h17, h18⟩ := bindO_inv h16
        obtain ⟨hxx, rfl⟩ := Prod.mk.inj (Option.some.inj h18)
        obtain rfl : x = .mk 1 id nm y n tp [] [] [] := by rw [← hxx, hy]
        have H13 := Lib.hid (And.intro h13 hq)
        clear h8 h10 h12 h13 h14 h16 h18 hxx H8 hq hy
        have HC7 := Lib.hid (skip_w b g cap ts s5 s7 [91] u6 HS6.out.rw h9)
        go_wp2_with fail
        refine HC7.out.mono ?_
        rintro e u7 ⟨rfl, hg, hr⟩
        have HS7 := Lib.hid (HS6.out.call hg hr)
        clear hg hr HC7 HS6
        clear c3 hyb
        have HC8 := Lib.hid (now_w b g cap ts s7 s7 q u7 HS7.out.rw h11)
        obtain ⟨qk, qp, qt, qn⟩ := q
        go_wp2_with fail
        refine HC8.out.mono ?_
        rintro e v8 ⟨rfl, hb⟩
        unfold tokV'
        obtain ⟨u8, hV⟩ : ∃ V, V = v8.alloc (.cells #[.int .u8 (qk : Int), .int .i64 (qp : Int), .string ⟨qt.toArray⟩, .int .i64 (qn : Int)] 55) := ⟨_, rfl⟩
        have hbV : Below v8.heap.size v8 u8 := by rw [hV]; exact (Below.refl _ _).alloc (Nat.le_refl _) _
        have htV : Blk v8.heap.size #[.int .u8 (qk : Int), .int .i64 (qp : Int), .string ⟨qt.toArray⟩, .int .i64 (qn : Int)] 55 u8 := by rw [hV]; exact Blk.new _ _ _
        have HS8 := Lib.hid ((HS7.out.below hb).below hbV)
        have HTK := Lib.hid (And.intro htV (show M < v8.heap.size by have := hb.size; have := HS7.out.ltW; omega))
        have d0 := htV.get 0 _ rfl
        have d3 := htV.get 3 _ rfl
        have HVV := Lib.hid hV
        clear hb hV hbV htV HC8 HS7 h11
        go_upto_region 25 with (fail)
        rw [← HVV.out]
        clear HVV
        by_cases hqk : qk = 3
        · have hqb : ((qk : Int) == 3) = true := by simp [hqk]
          obtain ⟨h13, hq⟩ := H13.out
          rw [if_pos (show (⟨qk, qp, qt, qn⟩ : Tok).kind = 3 from hqk)] at h13
          obtain ⟨rfl, rfl⟩ := Prod.mk.inj (Option.some.inj h13)
          have hi7 : s7.i < ts.length := by
            rcases hq with h | h
            · exact h.2.1
            · rw [show qk = 0 from congrArg Tok.kind h.2] at hqk; omega
          have hib : (s7.i : Int) < 30000 := by omega
          clear h13 hq H13 hqk hi7
          obtain ⟨x9, hx⟩ : ∃ X, X = u8.setCell ⟨M, 4, none⟩ (.int .i64 (qn : Int)) := ⟨_, rfl⟩
          obtain ⟨u9, hX⟩ : ∃ X, X = x9.setCell ⟨b, 1, none⟩ (.int .i64 ((s7.i : Int) + 1)) := ⟨_, rfl⟩
          have hS1 : SW b g cap ts s7 w M 1 id nm y qn tp [] [] [] (.slice none 0 0) (.slice none 0 0) (.slice none 0 0) x9 := by rw [hx]; exact HS8.out.putN qn
          have hgX : x9.grownBy u9 (some b) := by rw [hX]; exact Lib.grownBy_setCell _ _ _ _
          have hBk : Blk b (rdCells g ts.length cap ⟨s7.i + 1, s7.o, s7.n, s7.pl, s7.e⟩) 70 u9 := by rw [hX]; exact hS1.rw.blk.set 1 _
          have HS9 := Lib.hid (hS1.call (s' := ⟨s7.i + 1, s7.o, s7.n, s7.pl, s7.e⟩) hgX (hS1.rw.step hgX hBk))
          have c1 := hS1.rw.c1
          have f1 := hS1.rw.blk.free 1
          have c4 := HS8.out.box.get 4 (.int .i64 0) rfl
          have e4 := HS8.out.box.free 4
          have hx' := Lib.hid hx
          have HXX := Lib.hid hX
          clear hS1 hgX hBk hx hX
          go_upto_region 27 with (fail)
          rw [← hx'.out]
          clear d0 d3 c4 e4 hx'
          go_upto_region 29 with (fail)
          rw [← HXX.out]
          clear c1 f1 HXX HS8
          have HC10 := Lib.hid (skip_w b g cap ts ⟨s7.i + 1, s7.o, s7.n, s7.pl, s7.e⟩ s9 [93] u9 HS9.out.rw h15)
          go_wp2_with fail
          refine HC10.out.mono ?_
          rintro e u10 ⟨rfl, hg, hr⟩
          have HS10 := Lib.hid (HS9.out.call hg hr)
          clear hg hr HC10 HS9
          have HC11 := Lib.hid (skip_w b g cap ts s9 s10 [59] u10 HS10.out.rw h17)
          go_wp2_with fail
          refine HC11.out.mono ?_
          rintro e u11 ⟨rfl, hg, hr⟩
          have HS11 := Lib.hid (HS10.out.call hg hr)
          clear hg hr HC11 HS10
          have FIN := Lib.hid (HS11.out.fin _ rfl)
          have FB := Lib.hid (show Blk w.heap.size #[.int .u8 1, .int .i64 (id : Int), .string ⟨nm.toArray⟩, .int .u8 (y : Int), .int .i64 (qn : Int), .int .i64 (tp : Int), .slice none 0 0, .slice none 0 0, .slice none 0 0] 39 (set9 u11 w.heap.size (.int .u8 1) (.int .i64 (id : Int)) (.string ⟨nm.toArray⟩) (.int .u8 (y : Int)) (.int .i64 (qn : Int)) (.int .i64 (tp : Int)) (.slice none 0 0) (.slice none 0 0) (.slice none 0 0)) from FIN.out.1)
          have hbx : Blk M #[.int .u8 1, .int .i64 (id : Int), .string ⟨nm.toArray⟩, .int .u8 (y : Int), .int .i64 (qn : Int), .int .i64 (tp : Int), .slice none 0 0, .slice none 0 0, .slice none 0 0] 39 u11 := HS11.out.box
          obtain ⟨k0, k1, k2, k3, k4, k5, k6, k7, k8⟩ := hbx.get9
          obtain ⟨z0, z1, z2, z3, z4, z5, z6, z7, z8⟩ := HS11.out.res.get9
          obtain ⟨e0, e1, e2, e3, e4, e5, e6, e7, e8⟩ := HS11.out.res.free9
          clear hbx
          go_wp2
          rw [← set9_eq]
          obtain ⟨y0, y1, y2, y3, y4, y5, y6, y7, y8⟩ := FB.out.get9
          clear k0 k1 k2 k3 k4 k5 k6 k7 k8 z0 z1 z2 z3 z4 z5 z6 z7 z8 e0 e1 e2 e3 e4 e5 e6 e7 e8
          exact bodyPost_ret (v := .agg #[.int .u8 1, .int .i64 (id : Int), .string ⟨nm.toArray⟩, .int .u8 (y : Int), .int .i64 (qn : Int), .int .i64 (tp : Int), .slice none 0 0, .slice none 0 0, .slice none 0 0]) (by simp [results, Tryz.results57, go_sem, y0, y1, y2, y3, y4, y5, y6, y7, y8]) rfl FIN.out.2
        · have hqb : ((qk : Int) == 3) = false := by simp; omega
          obtain ⟨h13, _⟩ := H13.out
          rw [if_neg (show ¬ (⟨qk, qp, qt, qn⟩ : Tok).kind = 3 from hqk)] at h13
          obtain ⟨⟨⟩, s11, h19, h20⟩ := bindO_inv h13
          obtain ⟨rfl, rfl⟩ := Prod.mk.inj (Option.some.inj h20)
          clear h13 h20 H13 hqk
          have HC9 := Lib.hid (fail_w b g cap 4 (by omega) ts s7 s11 u8 HS8.out.rw h19)
          go_wp2_with fail
          refine HC9.out.mono ?_
          rintro e u9 ⟨rfl, hg, hr⟩
          have HS9 := Lib.hid (HS8.out.call hg hr)
          clear hg hr HC9 HS8
          clear d0 d3
          have HC10 := Lib.hid (skip_w b g cap ts s11 s9 [93] u9 HS9.out.rw h15)
          go_wp2_with fail
          refine HC10.out.mono ?_
          rintro e u10 ⟨rfl, hg, hr⟩
          have HS10 := Lib.hid (HS9.out.call hg hr)
          clear hg hr HC10 HS9
          have HC11 := Lib.hid (skip_w b g cap ts s9 s10 [59] u10 HS10.out.rw h17)
          go_wp2_with fail
          refine HC11.out.mono ?_
          rintro e u11 ⟨rfl, hg, hr⟩
          have HS11 := Lib.hid (HS10.out.call hg hr)
          clear hg hr HC11 HS10
          have FIN := Lib.hid (HS11.out.fin _ rfl)
          have FB := Lib.hid (show Blk w.heap.size #[.int .u8 1, .int .i64 (id : Int), .string ⟨nm.toArray⟩, .int .u8 (y : Int), .int .i64 0, .int .i64 (tp : Int), .slice none 0 0, .slice none 0 0, .slice none 0 0] 39 (set9 u11 w.heap.size (.int .u8 1) (.int .i64 (id : Int)) (.string ⟨nm.toArray⟩) (.int .u8 (y : Int)) (.int .i64 0) (.int .i64 (tp : Int)) (.slice none 0 0) (.slice none 0 0) (.slice none 0 0)) from FIN.out.1)
          have hbx : Blk M #[.int .u8 1, .int .i64 (id : Int), .string ⟨nm.toArray⟩, .int .u8 (y : Int), .int .i64 0, .int .i64 (tp : Int), .slice none 0 0, .slice none 0 0, .slice none 0 0] 39 u11 := HS11.out.box
          obtain ⟨k0, k1, k2, k3, k4, k5, k6, k7, k8⟩ := hbx.get9
          obtain ⟨z0, z1, z2, z3, z4, z5, z6, z7, z8⟩ := HS11.out.res.get9
          obtain ⟨e0, e1, e2, e3, e4, e5, e6, e7, e8⟩ := HS11.out.res.free9
          clear hbx
          go_wp2
          rw [← set9_eq]
          obtain ⟨y0, y1, y2, y3, y4, y5, y6, y7, y8⟩ := FB.out.get9
          clear k0 k1 k2 k3 k4 k5 k6 k7 k8 z0 z1 z2 z3 z4 z5 z6 z7 z8 e0 e1 e2 e3 e4 e5 e6 e7 e8
          exact bodyPost_ret (v := .agg #[.int .u8 1, .int .i64 (id : Int), .string ⟨nm.toArray⟩, .int .u8 (y : Int), .int .i64 0, .int .i64 (tp : Int), .slice none 0 0, .slice none 0 0, .slice none 0 0]) (by simp [results, Tryz.results57, go_sem, y0, y1, y2, y3, y4, y5, y6, y7, y8]) rfl FIN.out.2
      · have hyb : ((y : Int) == 3) = false := by simp; omega
        have h8 := H8.out
        rw [if_neg hy] at h8
        obtain ⟨v, s6, h9, h10⟩ := bindO_inv h8
        obtain ⟨l, s7, h11, h12⟩ := bindO_inv h10
        obtain ⟨⟨⟩, s8, h13, h14⟩ := bindO_inv h12
        obtain ⟨rfl, rfl⟩ := Prod.mk.inj (Option.some.inj h14)
        have H11 := Lib.hid h11
        clear h8 h10 h11 h12 h14 H8 hy
        have HC7 := Lib.hid (has_w b g cap ts s5 s6 [61] v u6 HS6.out.rw h9)
        go_wp2_with fail
        refine HC7.out.mono ?_
        rintro e u7 ⟨rfl, hg, hr⟩
        have HS7 := Lib.hid (HS6.out.call hg hr)
        clear hg hr HC7 HS6
        clear c3 hyb
        cases v with
        | true =>
          have h11 := H11.out
          rw [if_pos rfl] at h11
          obtain ⟨z, s9, h15, h16⟩ := bindO_inv h11
          obtain ⟨rfl, rfl⟩ := Prod.mk.inj (Option.some.inj h16)
          clear h11 h16 H11
          go_upto_region 31 with (fail)
          have c6 := HS7.out.box.get 6 (.slice none 0 0) rfl
          have hS : (fun w' : World => w'.cell? ⟨M, 6, none⟩ = some (.slice none 0 0)) u7.drew := c6
          have hwd : Below u7.heap.size u7 u7.drew := (Below.refl _ _).drew
          have HSD := Lib.hid (HS7.out.below hwd)
          have HC := Lib.hid (HLv.out F (Nat.le_refl _) b g cap ts 1 s6 z s9 u7.drew HSD.out.rw (by omega) h15)
          clear hwd
          refine wp_region_dep (S := fun w' => w'.cell? ⟨M, 6, none⟩ = some (.slice none 0 0)) (dep := [6, 7]) (by kernel_rfl) ?_
          change wpAnyD _ _ _ _ _ _ _ _ _ (World.drew _)
          refine wpAnyD_take (i := 0) (v := ?_) rfl (by kernel_rfl) (by kernel_rfl) (by kernel_rfl) (by kernel_rfl) (by kernel_rfl) (fun _ _ _ h => h) hS (Or.inl ⟨by rfl, ?_⟩) ?_
          rotate_left
          · intro w hSw; go_simp
            try with_reducible rfl
          try simp only [Act.put, List.setIfInBounds_toArray]
          refine wpAnyD_take (i := 1) (v := ?_) rfl (by kernel_rfl) (by kernel_rfl) (by kernel_rfl) (by kernel_rfl) (by kernel_rfl) (fun _ _ _ h => h) hS (Or.inl ⟨by rfl, ?_⟩) ?_
          rotate_left
          · intro w hSw; go_simp
            try with_reducible rfl
          try simp only [Act.put]
          refine wpAnyD_take (i := 2) (v := ?_) rfl (by kernel_rfl) (by kernel_rfl) (by kernel_rfl) (by kernel_rfl) (by kernel_rfl) (fun _ _ _ h => h) hS (Or.inl ⟨by rfl, ?_⟩) ?_
          rotate_left
          · intro w hSw; go_simp
            try with_reducible rfl
          try simp only [Act.put]
          clear hS c6
          refine wpAnyD_one (i := 3) rfl (by kernel_rfl) rfl (fun K hK => ?_)
          go_simp
          refine HC.out.mono ?_
          rintro e w7 ⟨k, op, nm', n', pos, a, m, c, rfl, hx, hg, hr⟩
          have HCC7 := Lib.hid (HSD.out.call hg hr)
          have hDM : M + 1 ≤ u7.drew.heap.size := HSD.out.ltW
          obtain ⟨xs, ho, hxs⟩ := HCC7.out.ex
          have hvD : ∀ h, (Value.slice none 0 0).ownBlock = some h → h < u7.drew.heap.size := by
            obtain ⟨xs', ho', _⟩ := HSD.out.ex
            intro h e
            exact (ho'.lt h e).2
          have HA := Lib.hid fun g' c' w4 ho4 hg4 hat => HCC7.out.app (g' := g') (c' := c') (w4 := w4) hDM hvD hx ho hxs ho4 hg4 hat
          have HO := Lib.hid (ho.alloc (.cells (exCells k op nm' n' pos a m c) 36))
          have hbZ : Below w7.heap.size w7 (w7.alloc (.cells (exCells k op nm' n' pos a m c) 36)) := (Below.refl _ _).alloc (Nat.le_refl _) _
          have HTOP := Lib.hid (show M + 1 ≤ (w7.alloc (.cells (exCells k op nm' n' pos a m c) 36)).heap.size by have := hg.size; simp; omega)
          have c6 := HCC7.out.box.get 6 (.slice none 0 0) rfl
          have c6' := (HCC7.out.below hbZ).box.get 6 (.slice none 0 0) rfl
          clear ho hxs hvD hDM hx hg hr hbZ HC HSD HCC7 HS7
          refine hK _ _ (Or.inr c6) ?_
          clear hK K
          try simp only [Act.put, List.setIfInBounds_toArray, List.set_cons_zero, List.set_cons_succ]
          refine wpAnyD_one (i := 4) rfl (by kernel_rfl) rfl (fun K hK => ?_)
          go_simp
          refine hK _ _ (Or.inr c6') ?_
          clear hK K c6 c6'
          try simp only [Act.put, List.setIfInBounds_toArray, List.set_cons_zero, List.set_cons_succ]
          refine wpAnyD_one (i := 5) rfl (by kernel_rfl) rfl (fun K hK => ?_)
          refine wp_append_lies _ (.tmp 113) (.tmp 116) 34 rfl (M + 1) 36 i0 _ 6 64 Tryz.underlying34 hi hz0 hz1 hz2 rfl (by omega) (.slice none 0 0) 0 xs rfl HO.out ⟨w7.heap.size, 0, none⟩ 1 1 (exCells k op nm' n' pos a m c).toList rfl rfl (World.news_of_block (heap_alloc_new w7 _)) (ex_oneR k op nm' n' pos a m c) (by omega) (by unfold maxLen; omega) (by omega) HTOP.out _ rfl ?_
          intro gg8 cg8 w9 hown hgrow hat hlt9
          have HF := Lib.hid (HA.out gg8 cg8 w9 hown hgrow hat)
          clear hown hgrow hat hlt9 HA HO HTOP
          refine hK _ _ (Or.inr (HF.out.1.get 6 (.slice none 0 0) rfl)) ?_
          clear hK K
          try simp only [Act.put, List.setIfInBounds_toArray]
          refine wpAnyD_free (i := 6) (v := ?_) rfl (by kernel_rfl) (by kernel_rfl) (by kernel_rfl) (by kernel_rfl) (fun _ _ _ h => h) (Or.inl ⟨by rfl, ?_⟩) ?_
          rotate_left
          · intro w hSw; clear hSw; go_simp
            try with_reducible rfl
          try simp only [Act.put]
          have c6 := HF.out.1.get 6 (.slice none 0 0) rfl
          have k6 := HF.out.1.free 6
          refine wpAnyD_one (i := 7) rfl (by kernel_rfl) rfl (fun K hK => ?_)
          go_simp
          refine hK _ _ (Or.inl rfl) ?_
          clear hK K
          try simp only [Act.put, List.setIfInBounds_toArray, List.set_cons_zero, List.set_cons_succ]
          refine wpAnyD_done (by kernel_rfl) ?_ _
          clear c6 k6
          obtain ⟨u8, hZ⟩ : ∃ Z, Z = w9.setCell ⟨M, 6, none⟩ (.slice (some ⟨gg8, 0, none⟩) 1 cg8) := ⟨_, rfl⟩
          have HS8 := Lib.hid (show SW b g cap ts s9 w M 1 id nm y 0 tp [z] [] [] (.slice (some ⟨gg8, 0, none⟩) 1 cg8) (.slice none 0 0) (.slice none 0 0) u8 by rw [hZ]; exact HF.out.2)
          rw [← hZ]
          clear hZ HF
          have HC9 := Lib.hid (skip_w b g cap ts s9 s8 [59] u8 HS8.out.rw h13)
          go_wp2_with fail
          refine HC9.out.mono ?_
          rintro e u9 ⟨rfl, hg, hr⟩
          have HS9 := Lib.hid (HS8.out.call hg hr)
          clear hg hr HC9 HS8
          have FIN := Lib.hid (HS9.out.fin _ rfl)
          have FB := Lib.hid (show Blk w.heap.size #[.int .u8 1, .int .i64 (id : Int), .string ⟨nm.toArray⟩, .int .u8 (y : Int), .int .i64 0, .int .i64 (tp : Int), .slice (some ⟨gg8, 0, none⟩) 1 cg8, .slice none 0 0, .slice none 0 0] 39 (set9 u9 w.heap.size (.int .u8 1) (.int .i64 (id : Int)) (.string ⟨nm.toArray⟩) (.int .u8 (y : Int)) (.int .i64 0) (.int .i64 (tp : Int)) (.slice (some ⟨gg8, 0, none⟩) 1 cg8) (.slice none 0 0) (.slice none 0 0)) from FIN.out.1)
          have hbx : Blk M #[.int .u8 1, .int .i64 (id : Int), .string ⟨nm.toArray⟩, .int .u8 (y : Int), .int .i64 0, .int .i64 (tp : Int), .slice (some ⟨gg8, 0, none⟩) 1 cg8, .slice none 0 0, .slice none 0 0] 39 u9 := HS9.out.box
          obtain ⟨k0, k1, k2, k3, k4, k5, k6, k7, k8⟩ := hbx.get9
          obtain ⟨z0, z1, z2, z3, z4, z5, z6, z7, z8⟩ := HS9.out.res.get9
          obtain ⟨e0, e1, e2, e3, e4, e5, e6, e7, e8⟩ := HS9.out.res.free9
          clear hbx
          go_wp2
          rw [← set9_eq]
          obtain ⟨y0, y1, y2, y3, y4, y5, y6, y7, y8⟩ := FB.out.get9
          clear k0 k1 k2 k3 k4 k5 k6 k7 k8 z0 z1 z2 z3 z4 z5 z6 z7 z8 e0 e1 e2 e3 e4 e5 e6 e7 e8
          exact bodyPost_ret (v := .agg #[.int .u8 1, .int .i64 (id : Int), .string ⟨nm.toArray⟩, .int .u8 (y : Int), .int .i64 0, .int .i64 (tp : Int), .slice (some ⟨gg8, 0, none⟩) 1 cg8, .slice none 0 0, .slice none 0 0]) (by simp [results, Tryz.results57, go_sem, y0, y1, y2, y3, y4, y5, y6, y7, y8]) rfl FIN.out.2
        | false =>
          have h11 := H11.out
          rw [if_neg (by decide)] at h11
          obtain ⟨rfl, rfl⟩ := Prod.mk.inj (Option.some.inj h11)
          clear h11 H11
          have HC8 := Lib.hid (skip_w b g cap ts s6 s8 [59] u7 HS7.out.rw h13)
          go_wp2_with fail
          refine HC8.out.mono ?_
          rintro e u8 ⟨rfl, hg, hr⟩
          have HS8 := Lib.hid (HS7.out.call hg hr)
          clear hg hr HC8 HS7
          have FIN := Lib.hid (HS8.out.fin _ rfl)
          have FB := Lib.hid (show Blk w.heap.size #[.int .u8 1, .int .i64 (id : Int), .string ⟨nm.toArray⟩, .int .u8 (y : Int), .int .i64 0, .int .i64 (tp : Int), .slice none 0 0, .slice none 0 0, .slice none 0 0] 39 (set9 u8 w.heap.size (.int .u8 1) (.int .i64 (id : Int)) (.string ⟨nm.toArray⟩) (.int .u8 (y : Int)) (.int .i64 0) (.int .i64 (tp : Int)) (.slice none 0 0) (.slice none 0 0) (.slice none 0 0)) from FIN.out.1)
          have hbx : Blk M #[.int .u8 1, .int .i64 (id : Int), .string ⟨nm.toArray⟩, .int .u8 (y : Int), .int .i64 0, .int .i64 (tp : Int), .slice none 0 0, .slice none 0 0, .slice none 0 0] 39 u8 := HS8.out.box
          obtain ⟨k0, k1, k2, k3, k4, k5, k6, k7, k8⟩ := hbx.get9
          obtain ⟨z0, z1, z2, z3, z4, z5, z6, z7, z8⟩ := HS8.out.res.get9
          obtain ⟨e0, e1, e2, e3, e4, e5, e6, e7, e8⟩ := HS8.out.res.free9
          clear hbx
          go_wp2
          rw [← set9_eq]
          obtain ⟨y0, y1, y2, y3, y4, y5, y6, y7, y8⟩ := FB.out.get9
          clear k0 k1 k2 k3 k4 k5 k6 k7 k8 z0 z1 z2 z3 z4 z5 z6 z7 z8 e0 e1 e2 e3 e4 e5 e6 e7 e8
          exact bodyPost_ret (v := .agg #[.int .u8 1, .int .i64 (id : Int), .string ⟨nm.toArray⟩, .int .u8 (y : Int), .int .i64 0, .int .i64 (tp : Int), .slice none 0 0, .slice none 0 0, .slice none 0 0]) (by simp [results, Tryz.results57, go_sem, y0, y1, y2, y3, y4, y5, y6, y7, y8]) rfl FIN.out.2
    | false =>
      have h2 := K0.out
      rw [if_neg (by decide)] at h2
      clear K0
      obtain ⟨v1w, r1, a1, h2⟩ := bindO_inv h2
      have K1 := Lib.hid h2
      clear h2
      have HC2 := Lib.hid (has_w b g cap ts r0 r1 [105, 102] v1w u1 HS1.out.rw a1)
      go_wp2_with fail
      refine HC2.out.mono ?_
      rintro e u2 ⟨rfl, hg, hr⟩
      have HS2 := Lib.hid (HS1.out.call hg hr)
      clear hg hr HC2 HS1
      cases v1w with
      | true =>
        have h2 := K1.out
        rw [if_pos rfl] at h2
        clear K1
        obtain ⟨y, s3, h3, h4⟩ := bindO_inv h2
        obtain ⟨bl, s4, h5, h6⟩ := bindO_inv h4
        obtain ⟨v, s5, h7, h8⟩ := bindO_inv h6
        obtain ⟨el, s6, h9, h10⟩ := bindO_inv h8
        obtain ⟨rfl, rfl⟩ := Prod.mk.inj (Option.some.inj h10)
        have H9 := Lib.hid h9
        clear h2 h4 h6 h8 h9 h10
        obtain ⟨u3, hX⟩ : ∃ X, X = u2.setCell ⟨M, 0, none⟩ (.int .u8 4) := ⟨_, rfl⟩
        have c0 := HS2.out.box.get 0 (.int .u8 0) rfl
        have e0 := HS2.out.box.free 0
        have hSX : SW b g cap ts r1 w M 4 id [] 0 0 tp [] [] [] (.slice none 0 0) (.slice none 0 0) (.slice none 0 0) u3 := by rw [hX]; exact (HS2.out.putK 4)
        have HS3 := Lib.hid hSX
        have HXX := Lib.hid hX
        clear hSX hX
        go_upto_region 35 with (fail)
        rw [← HXX.out]
        clear c0 e0 HXX HS2
        have c6 := HS3.out.box.get 6 (.slice none 0 0) rfl
        have hS : (fun w' : World => w'.cell? ⟨M, 6, none⟩ = some (.slice none 0 0)) u3.drew := c6
        have hwd : Below u3.heap.size u3 u3.drew := (Below.refl _ _).drew
        have HSD := Lib.hid (HS3.out.below hwd)
        have HC := Lib.hid (HLv.out F (Nat.le_refl _) b g cap ts 1 r1 y s3 u3.drew HSD.out.rw (by omega) h3)
        clear hwd
        refine wp_region_dep (S := fun w' => w'.cell? ⟨M, 6, none⟩ = some (.slice none 0 0)) (dep := [6, 7]) (by kernel_rfl) ?_
        change wpAnyD _ _ _ _ _ _ _ _ _ (World.drew _)
        refine wpAnyD_take (i := 0) (v := ?_) rfl (by kernel_rfl) (by kernel_rfl) (by kernel_rfl) (by kernel_rfl) (by kernel_rfl) (fun _ _ _ h => h) hS (Or.inl ⟨by rfl, ?_⟩) ?_
        rotate_left
        · intro w hSw; go_simp
          try with_reducible rfl
        try simp only [Act.put, List.setIfInBounds_toArray]
        refine wpAnyD_take (i := 1) (v := ?_) rfl (by kernel_rfl) (by kernel_rfl) (by kernel_rfl) (by kernel_rfl) (by kernel_rfl) (fun _ _ _ h => h) hS (Or.inl ⟨by rfl, ?_⟩) ?_
        rotate_left
        · intro w hSw; go_simp
          try with_reducible rfl
        try simp only [Act.put]
        refine wpAnyD_take (i := 2) (v := ?_) rfl (by kernel_rfl) (by kernel_rfl) (by kernel_rfl) (by kernel_rfl) (by kernel_rfl) (fun _ _ _ h => h) hS (Or.inl ⟨by rfl, ?_⟩) ?_
        rotate_left
        · intro w hSw; go_simp
          try with_reducible rfl
        try simp only [Act.put]
        clear hS c6
        refine wpAnyD_one (i := 3) rfl (by kernel_rfl) rfl (fun K hK => ?_)
        go_simp
        refine HC.out.mono ?_
        rintro e w7 ⟨k, op, nm', n', pos, a, m, c, rfl, hx, hg, hr⟩
        have HCC7 := Lib.hid (HSD.out.call hg hr)
        have hDM : M + 1 ≤ u3.drew.heap.size := HSD.out.ltW
        obtain ⟨xs, ho, hxs⟩ := HCC7.out.ex
        have hvD : ∀ h, (Value.slice none 0 0).ownBlock = some h → h < u3.drew.heap.size := by
          obtain ⟨xs', ho', _⟩ := HSD.out.ex
          intro h e
          exact (ho'.lt h e).2
        have HA := Lib.hid fun g' c' w4 ho4 hg4 hat => HCC7.out.app (g' := g') (c' := c') (w4 := w4) hDM hvD hx ho hxs ho4 hg4 hat
        have HO := Lib.hid (ho.alloc (.cells (exCells k op nm' n' pos a m c) 36))
        have hbZ : Below w7.heap.size w7 (w7.alloc (.cells (exCells k op nm' n' pos a m c) 36)) := (Below.refl _ _).alloc (Nat.le_refl _) _
        have HTOP := Lib.hid (show M + 1 ≤ (w7.alloc (.cells (exCells k op nm' n' pos a m c) 36)).heap.size by have := hg.size; simp; omega)
        have c6 := HCC7.out.box.get 6 (.slice none 0 0) rfl
        have c6' := (HCC7.out.below hbZ).box.get 6 (.slice none 0 0) rfl
        clear ho hxs hvD hDM hx hg hr hbZ HC HSD HCC7 HS3
        refine hK _ _ (Or.inr c6) ?_
        clear hK K
        try simp only [Act.put, List.setIfInBounds_toArray, List.set_cons_zero, List.set_cons_succ]
        refine wpAnyD_one (i := 4) rfl (by kernel_rfl) rfl (fun K hK => ?_)
        go_simp
        refine hK _ _ (Or.inr c6') ?_
        clear hK K c6 c6'
        try simp only [Act.put, List.setIfInBounds_toArray, List.set_cons_zero, List.set_cons_succ]
        refine wpAnyD_one (i := 5) rfl (by kernel_rfl) rfl (fun K hK => ?_)
        refine wp_append_lies _ (.tmp 126) (.tmp 129) 34 rfl (M + 1) 36 i0 _ 6 64 Tryz.underlying34 hi hz0 hz1 hz2 rfl (by omega) (.slice none 0 0) 0 xs rfl HO.out ⟨w7.heap.size, 0, none⟩ 1 1 (exCells k op nm' n' pos a m c).toList rfl rfl (World.news_of_block (heap_alloc_new w7 _)) (ex_oneR k op nm' n' pos a m c) (by omega) (by unfold maxLen; omega) (by omega) HTOP.out _ rfl ?_
        intro gg4 cg4 w9 hown hgrow hat hlt9
        have HF := Lib.hid (HA.out gg4 cg4 w9 hown hgrow hat)
        clear hown hgrow hat hlt9 HA HO HTOP
        refine hK _ _ (Or.inr (HF.out.1.get 6 (.slice none 0 0) rfl)) ?_
        clear hK K
        try simp only [Act.put, List.setIfInBounds_toArray]
        refine wpAnyD_free (i := 6) (v := ?_) rfl (by kernel_rfl) (by kernel_rfl) (by kernel_rfl) (by kernel_rfl) (fun _ _ _ h => h) (Or.inl ⟨by rfl, ?_⟩) ?_
        rotate_left
        · intro w hSw; clear hSw; go_simp
          try with_reducible rfl
        try simp only [Act.put]
        have c6 := HF.out.1.get 6 (.slice none 0 0) rfl
        have k6 := HF.out.1.free 6
        refine wpAnyD_one (i := 7) rfl (by kernel_rfl) rfl (fun K hK => ?_)
        go_simp
        refine hK _ _ (Or.inl rfl) ?_
        clear hK K
        try simp only [Act.put, List.setIfInBounds_toArray, List.set_cons_zero, List.set_cons_succ]
        refine wpAnyD_done (by kernel_rfl) ?_ _
        clear c6 k6
        obtain ⟨u4, hZ⟩ : ∃ Z, Z = w9.setCell ⟨M, 6, none⟩ (.slice (some ⟨gg4, 0, none⟩) 1 cg4) := ⟨_, rfl⟩
        have HS4 := Lib.hid (show SW b g cap ts s3 w M 4 id [] 0 0 tp [y] [] [] (.slice (some ⟨gg4, 0, none⟩) 1 cg4) (.slice none 0 0) (.slice none 0 0) u4 by rw [hZ]; exact HF.out.2)
        rw [← hZ]
        clear hZ HF
        have HC5 := Lib.hid (HBk.out b g cap ts s3 bl s4 u4 HS4.out.rw h5)
        go_wp2_with fail
        refine HC5.out.mono ?_
        rintro e v5 ⟨a5, c5, rfl, hrow, hg, hr⟩
        have hSC := HS4.out.call hg hr
        have hwM := HS4.out.ltW
        have hrow' : SmRow v5 (fun h => M + 1 ≤ h) bl (.slice a5 bl.length c5) := SmRow.stays (stays_weaken fun h hh _ => by omega) hrow
        obtain ⟨u5, hX⟩ : ∃ X, X = v5.setCell ⟨M, 7, none⟩ (.slice a5 bl.length c5) := ⟨_, rfl⟩
        have hSX := hSC.putBd hrow'
        rw [← hX] at hSX
        have cc := hSC.box.get 7 (.slice none 0 0) rfl
        have ee := hSC.box.free 7
        have HS5 := Lib.hid (show SW b g cap ts s4 w M 4 id [] 0 0 tp [y] bl [] (.slice (some ⟨gg4, 0, none⟩) 1 cg4) (.slice a5 bl.length c5) (.slice none 0 0) u5 from hSX)
        have HXX := Lib.hid hX
        clear hSC hwM hrow hrow' hX hSX hg hr HC5
        go_upto_region 37 with (fail)
        rw [← HXX.out]
        clear cc ee HXX HS4
        have HC6 := Lib.hid (has_w b g cap ts s4 s5 [101, 108, 115, 101] v u5 HS5.out.rw h7)
        go_wp2_with fail
        refine HC6.out.mono ?_
        rintro e u6 ⟨rfl, hg, hr⟩
        have HS6 := Lib.hid (HS5.out.call hg hr)
        clear hg hr HC6 HS5
        cases v with
        | true =>
          have h9 := H9.out
          rw [if_pos rfl] at h9
          clear H9
          have HC7 := Lib.hid (HBk.out b g cap ts s5 el s6 u6 HS6.out.rw h9)
          go_wp2_with fail
          refine HC7.out.mono ?_
          rintro e v7 ⟨a7, c7, rfl, hrow, hg, hr⟩
          have hSC := HS6.out.call hg hr
          have hwM := HS6.out.ltW
          have hrow' : SmRow v7 (fun h => M + 1 ≤ h) el (.slice a7 el.length c7) := SmRow.stays (stays_weaken fun h hh _ => by omega) hrow
          obtain ⟨u7, hX⟩ : ∃ X, X = v7.setCell ⟨M, 8, none⟩ (.slice a7 el.length c7) := ⟨_, rfl⟩
          have hSX := hSC.putEl hrow'
          rw [← hX] at hSX
          have cc := hSC.box.get 8 (.slice none 0 0) rfl
          have ee := hSC.box.free 8
          have HS7 := Lib.hid (show SW b g cap ts s6 w M 4 id [] 0 0 tp [y] bl el (.slice (some ⟨gg4, 0, none⟩) 1 cg4) (.slice a5 bl.length c5) (.slice a7 el.length c7) u7 from hSX)
          have HXX := Lib.hid hX
          clear hSC hwM hrow hrow' hX hSX hg hr HC7
          go_upto_region 52 with (fail)
          rw [← HXX.out]
          clear cc ee HXX HS6
          have FIN := Lib.hid (HS7.out.fin _ rfl)
          have FB := Lib.hid (show Blk w.heap.size #[.int .u8 4, .int .i64 (id : Int), .string ⟨#[]⟩, .int .u8 0, .int .i64 0, .int .i64 (tp : Int), .slice (some ⟨gg4, 0, none⟩) 1 cg4, .slice a5 bl.length c5, .slice a7 el.length c7] 39 (set9 u7 w.heap.size (.int .u8 4) (.int .i64 (id : Int)) (.string ⟨#[]⟩) (.int .u8 0) (.int .i64 0) (.int .i64 (tp : Int)) (.slice (some ⟨gg4, 0, none⟩) 1 cg4) (.slice a5 bl.length c5) (.slice a7 el.length c7)) from FIN.out.1)
          have hbx : Blk M #[.int .u8 4, .int .i64 (id : Int), .string ⟨#[]⟩, .int .u8 0, .int .i64 0, .int .i64 (tp : Int), .slice (some ⟨gg4, 0, none⟩) 1 cg4, .slice a5 bl.length c5, .slice a7 el.length c7] 39 u7 := HS7.out.box
          obtain ⟨k0, k1, k2, k3, k4, k5, k6, k7, k8⟩ := hbx.get9
          obtain ⟨z0, z1, z2, z3, z4, z5, z6, z7, z8⟩ := HS7.out.res.get9
          obtain ⟨e0, e1, e2, e3, e4, e5, e6, e7, e8⟩ := HS7.out.res.free9
          clear hbx
          go_wp2
          rw [← set9_eq]
          obtain ⟨y0, y1, y2, y3, y4, y5, y6, y7, y8⟩ := FB.out.get9
          clear k0 k1 k2 k3 k4 k5 k6 k7 k8 z0 z1 z2 z3 z4 z5 z6 z7 z8 e0 e1 e2 e3 e4 e5 e6 e7 e8
          exact bodyPost_ret (v := .agg #[.int .u8 4, .int .i64 (id : Int), .string ⟨#[]⟩, .int .u8 0, .int .i64 0, .int .i64 (tp : Int), .slice (some ⟨gg4, 0, none⟩) 1 cg4, .slice a5 bl.length c5, .slice a7 el.length c7]) (by simp [results, Tryz.results57, go_sem, y0, y1, y2, y3, y4, y5, y6, y7, y8]) rfl FIN.out.2
        | false =>
          have h9 := H9.out
          rw [if_neg (by decide)] at h9
          obtain ⟨rfl, rfl⟩ := Prod.mk.inj (Option.some.inj h9)
          clear H9 h9
          have FIN := Lib.hid (HS6.out.fin _ rfl)
          have FB := Lib.hid (show Blk w.heap.size #[.int .u8 4, .int .i64 (id : Int), .string ⟨#[]⟩, .int .u8 0, .int .i64 0, .int .i64 (tp : Int), .slice (some ⟨gg4, 0, none⟩) 1 cg4, .slice a5 bl.length c5, .slice none 0 0] 39 (set9 u6 w.heap.size (.int .u8 4) (.int .i64 (id : Int)) (.string ⟨#[]⟩) (.int .u8 0) (.int .i64 0) (.int .i64 (tp : Int)) (.slice (some ⟨gg4, 0, none⟩) 1 cg4) (.slice a5 bl.length c5) (.slice none 0 0)) from FIN.out.1)
          have hbx : Blk M #[.int .u8 4, .int .i64 (id : Int), .string ⟨#[]⟩, .int .u8 0, .int .i64 0, .int .i64 (tp : Int), .slice (some ⟨gg4, 0, none⟩) 1 cg4, .slice a5 bl.length c5, .slice none 0 0] 39 u6 := HS6.out.box
          obtain ⟨k0, k1, k2, k3, k4, k5, k6, k7, k8⟩ := hbx.get9
          obtain ⟨z0, z1, z2, z3, z4, z5, z6, z7, z8⟩ := HS6.out.res.get9
          obtain ⟨e0, e1, e2, e3, e4, e5, e6, e7, e8⟩ := HS6.out.res.free9
          clear hbx
          go_wp2
          rw [← set9_eq]
          obtain ⟨y0, y1, y2, y3, y4, y5, y6, y7, y8⟩ := FB.out.get9
          clear k0 k1 k2 k3 k4 k5 k6 k7 k8 z0 z1 z2 z3 z4 z5 z6 z7 z8 e0 e1 e2 e3 e4 e5 e6 e7 e8
          exact bodyPost_ret (v := .agg #[.int .u8 4, .int .i64 (id : Int), .string ⟨#[]⟩, .int .u8 0, .int .i64 0, .int .i64 (tp : Int), .slice (some ⟨gg4, 0, none⟩) 1 cg4, .slice a5 bl.length c5, .slice none 0 0]) (by simp [results, Tryz.results57, go_sem, y0, y1, y2, y3, y4, y5, y6, y7, y8]) rfl FIN.out.2
      | false =>
        have h2 := K1.out
        rw [if_neg (by decide)] at h2
        clear K1
        obtain ⟨v2w, r2, a2, h2⟩ := bindO_inv h2
        have K2 := Lib.hid h2
        clear h2
        have HC3 := Lib.hid (has_w b g cap ts r1 r2 [119, 104, 105, 108, 101] v2w u2 HS2.out.rw a2)
        go_wp2_with fail
        refine HC3.out.mono ?_
        rintro e u3 ⟨rfl, hg, hr⟩
        have HS3 := Lib.hid (HS2.out.call hg hr)
        clear hg hr HC3 HS2
        cases v2w with
        | true =>
          have h2 := K2.out
          rw [if_pos rfl] at h2
          clear K2
          obtain ⟨y, s3, h3, h4⟩ := bindO_inv h2
          obtain ⟨bl, s4, h5, h6⟩ := bindO_inv h4
          obtain ⟨rfl, rfl⟩ := Prod.mk.inj (Option.some.inj h6)
          clear h2 h4 h6
          obtain ⟨u4, hX⟩ : ∃ X, X = u3.setCell ⟨M, 0, none⟩ (.int .u8 5) := ⟨_, rfl⟩
          have c0 := HS3.out.box.get 0 (.int .u8 0) rfl
          have e0 := HS3.out.box.free 0
          have hSX : SW b g cap ts r2 w M 5 id [] 0 0 tp [] [] [] (.slice none 0 0) (.slice none 0 0) (.slice none 0 0) u4 := by rw [hX]; exact (HS3.out.putK 5)
          have HS4 := Lib.hid hSX
          have HXX := Lib.hid hX
          clear hSX hX
          go_upto_region 41 with (fail)
          rw [← HXX.out]
          clear c0 e0 HXX HS3
          have c6 := HS4.out.box.get 6 (.slice none 0 0) rfl
          have hS : (fun w' : World => w'.cell? ⟨M, 6, none⟩ = some (.slice none 0 0)) u4.drew := c6
          have hwd : Below u4.heap.size u4 u4.drew := (Below.refl _ _).drew
          have HSD := Lib.hid (HS4.out.below hwd)
          have HC := Lib.hid (HLv.out F (Nat.le_refl _) b g cap ts 1 r2 y s3 u4.drew HSD.out.rw (by omega) h3)
          clear hwd
          refine wp_region_dep (S := fun w' => w'.cell? ⟨M, 6, none⟩ = some (.slice none 0 0)) (dep := [6, 7]) (by kernel_rfl) ?_
          change wpAnyD _ _ _ _ _ _ _ _ _ (World.drew _)
          refine wpAnyD_take (i := 0) (v := ?_) rfl (by kernel_rfl) (by kernel_rfl) (by kernel_rfl) (by kernel_rfl) (by kernel_rfl) (fun _ _ _ h => h) hS (Or.inl ⟨by rfl, ?_⟩) ?_
          rotate_left
          · intro w hSw; go_simp
            try with_reducible rfl
          try simp only [Act.put, List.setIfInBounds_toArray]
          refine wpAnyD_take (i := 1) (v := ?_) rfl (by kernel_rfl) (by kernel_rfl) (by kernel_rfl) (by kernel_rfl) (by kernel_rfl) (fun _ _ _ h => h) hS (Or.inl ⟨by rfl, ?_⟩) ?_
          rotate_left
          · intro w hSw; go_simp
            try with_reducible rfl
          try simp only [Act.put]
          refine wpAnyD_take (i := 2) (v := ?_) rfl (by kernel_rfl) (by kernel_rfl) (by kernel_rfl) (by kernel_rfl) (by kernel_rfl) (fun _ _ _ h => h) hS (Or.inl ⟨by rfl, ?_⟩) ?_
          rotate_left
          · intro w hSw; go_simp
            try with_reducible rfl
          try simp only [Act.put]
          clear hS c6
          refine wpAnyD_one (i := 3) rfl (by kernel_rfl) rfl (fun K hK => ?_)
          go_simp
          refine HC.out.mono ?_
          rintro e w7 ⟨k, op, nm', n', pos, a, m, c, rfl, hx, hg, hr⟩
          have HCC7 := Lib.hid (HSD.out.call hg hr)
          have hDM : M + 1 ≤ u4.drew.heap.size := HSD.out.ltW
          obtain ⟨xs, ho, hxs⟩ := HCC7.out.ex
          have hvD : ∀ h, (Value.slice none 0 0).ownBlock = some h → h < u4.drew.heap.size := by
            obtain ⟨xs', ho', _⟩ := HSD.out.ex
            intro h e
            exact (ho'.lt h e).2
          have HA := Lib.hid fun g' c' w4 ho4 hg4 hat => HCC7.out.app (g' := g') (c' := c') (w4 := w4) hDM hvD hx ho hxs ho4 hg4 hat
          have HO := Lib.hid (ho.alloc (.cells (exCells k op nm' n' pos a m c) 36))
          have hbZ : Below w7.heap.size w7 (w7.alloc (.cells (exCells k op nm' n' pos a m c) 36)) := (Below.refl _ _).alloc (Nat.le_refl _) _
          have HTOP := Lib.hid (show M + 1 ≤ (w7.alloc (.cells (exCells k op nm' n' pos a m c) 36)).heap.size by have := hg.size; simp; omega)
          have c6 := HCC7.out.box.get 6 (.slice none 0 0) rfl
          have c6' := (HCC7.out.below hbZ).box.get 6 (.slice none 0 0) rfl
          clear ho hxs hvD hDM hx hg hr hbZ HC HSD HCC7 HS4
          refine hK _ _ (Or.inr c6) ?_
          clear hK K
          try simp only [Act.put, List.setIfInBounds_toArray, List.set_cons_zero, List.set_cons_succ]
          refine wpAnyD_one (i := 4) rfl (by kernel_rfl) rfl (fun K hK => ?_)
          go_simp
          refine hK _ _ (Or.inr c6') ?_
          clear hK K c6 c6'
          try simp only [Act.put, List.setIfInBounds_toArray, List.set_cons_zero, List.set_cons_succ]
          refine wpAnyD_one (i := 5) rfl (by kernel_rfl) rfl (fun K hK => ?_)
          refine wp_append_lies _ (.tmp 145) (.tmp 148) 34 rfl (M + 1) 36 i0 _ 6 64 Tryz.underlying34 hi hz0 hz1 hz2 rfl (by omega) (.slice none 0 0) 0 xs rfl HO.out ⟨w7.heap.size, 0, none⟩ 1 1 (exCells k op nm' n' pos a m c).toList rfl rfl (World.news_of_block (heap_alloc_new w7 _)) (ex_oneR k op nm' n' pos a m c) (by omega) (by unfold maxLen; omega) (by omega) HTOP.out _ rfl ?_
          intro gg5 cg5 w9 hown hgrow hat hlt9
          have HF := Lib.hid (HA.out gg5 cg5 w9 hown hgrow hat)
          clear hown hgrow hat hlt9 HA HO HTOP
          refine hK _ _ (Or.inr (HF.out.1.get 6 (.slice none 0 0) rfl)) ?_
          clear hK K
          try simp only [Act.put, List.setIfInBounds_toArray]
          refine wpAnyD_free (i := 6) (v := ?_) rfl (by kernel_rfl) (by kernel_rfl) (by kernel_rfl) (by kernel_rfl) (fun _ _ _ h => h) (Or.inl ⟨by rfl, ?_⟩) ?_
          rotate_left
          · intro w hSw; clear hSw; go_simp
            try with_reducible rfl
          try simp only [Act.put]
          have c6 := HF.out.1.get 6 (.slice none 0 0) rfl
          have k6 := HF.out.1.free 6
          refine wpAnyD_one (i := 7) rfl (by kernel_rfl) rfl (fun K hK => ?_)
          go_simp
          refine hK _ _ (Or.inl rfl) ?_
          clear hK K
          try simp only [Act.put, List.setIfInBounds_toArray, List.set_cons_zero, List.set_cons_succ]
          refine wpAnyD_done (by kernel_rfl) ?_ _
          clear c6 k6
          obtain ⟨u5, hZ⟩ : ∃ Z, Z = w9.setCell ⟨M, 6, none⟩ (.slice (some ⟨gg5, 0, none⟩) 1 cg5) := ⟨_, rfl⟩
          have HS5 := Lib.hid (show SW b g cap ts s3 w M 5 id [] 0 0 tp [y] [] [] (.slice (some ⟨gg5, 0, none⟩) 1 cg5) (.slice none 0 0) (.slice none 0 0) u5 by rw [hZ]; exact HF.out.2)
          rw [← hZ]
          clear hZ HF
          have HC6 := Lib.hid (HBk.out b g cap ts s3 bl s4 u5 HS5.out.rw h5)
          go_wp2_with fail
          refine HC6.out.mono ?_
          rintro e v6 ⟨a6, c6, rfl, hrow, hg, hr⟩
          have hSC := HS5.out.call hg hr
          have hwM := HS5.out.ltW
          have hrow' : SmRow v6 (fun h => M + 1 ≤ h) bl (.slice a6 bl.length c6) := SmRow.stays (stays_weaken fun h hh _ => by omega) hrow
          obtain ⟨u6, hX⟩ : ∃ X, X = v6.setCell ⟨M, 7, none⟩ (.slice a6 bl.length c6) := ⟨_, rfl⟩
          have hSX := hSC.putBd hrow'
          rw [← hX] at hSX
          have cc := hSC.box.get 7 (.slice none 0 0) rfl
          have ee := hSC.box.free 7
          have HS6 := Lib.hid (show SW b g cap ts s4 w M 5 id [] 0 0 tp [y] bl [] (.slice (some ⟨gg5, 0, none⟩) 1 cg5) (.slice a6 bl.length c6) (.slice none 0 0) u6 from hSX)
          have HXX := Lib.hid hX
          clear hSC hwM hrow hrow' hX hSX hg hr HC6
          go_upto_region 52 with (fail)
          rw [← HXX.out]
          clear cc ee HXX HS5
          have FIN := Lib.hid (HS6.out.fin _ rfl)
          have FB := Lib.hid (show Blk w.heap.size #[.int .u8 5, .int .i64 (id : Int), .string ⟨#[]⟩, .int .u8 0, .int .i64 0, .int .i64 (tp : Int), .slice (some ⟨gg5, 0, none⟩) 1 cg5, .slice a6 bl.length c6, .slice none 0 0] 39 (set9 u6 w.heap.size (.int .u8 5) (.int .i64 (id : Int)) (.string ⟨#[]⟩) (.int .u8 0) (.int .i64 0) (.int .i64 (tp : Int)) (.slice (some ⟨gg5, 0, none⟩) 1 cg5) (.slice a6 bl.length c6) (.slice none 0 0)) from FIN.out.1)
          have hbx : Blk M #[.int .u8 5, .int .i64 (id : Int), .string ⟨#[]⟩, .int .u8 0, .int .i64 0, .int .i64 (tp : Int), .slice (some ⟨gg5, 0, none⟩) 1 cg5, .slice a6 bl.length c6, .slice none 0 0] 39 u6 := HS6.out.box
          obtain ⟨k0, k1, k2, k3, k4, k5, k6, k7, k8⟩ := hbx.get9
          obtain ⟨z0, z1, z2, z3, z4, z5, z6, z7, z8⟩ := HS6.out.res.get9
          obtain ⟨e0, e1, e2, e3, e4, e5, e6, e7, e8⟩ := HS6.out.res.free9
          clear hbx
          go_wp2
          rw [← set9_eq]
          obtain ⟨y0, y1, y2, y3, y4, y5, y6, y7, y8⟩ := FB.out.get9
          clear k0 k1 k2 k3 k4 k5 k6 k7 k8 z0 z1 z2 z3 z4 z5 z6 z7 z8 e0 e1 e2 e3 e4 e5 e6 e7 e8
          exact bodyPost_ret (v := .agg #[.int .u8 5, .int .i64 (id : Int), .string ⟨#[]⟩, .int .u8 0, .int .i64 0, .int .i64 (tp : Int), .slice (some ⟨gg5, 0, none⟩) 1 cg5, .slice a6 bl.length c6, .slice none 0 0]) (by simp [results, Tryz.results57, go_sem, y0, y1, y2, y3, y4, y5, y6, y7, y8]) rfl FIN.out.2
        | false =>
          have h2 := K2.out
          rw [if_neg (by decide)] at h2
          clear K2
          obtain ⟨v3w, r3, a3, h2⟩ := bindO_inv h2
          have K3 := Lib.hid h2
          clear h2
          have HC4 := Lib.hid (has_w b g cap ts r2 r3 [114, 101, 116, 117, 114, 110] v3w u3 HS3.out.rw a3)
          go_wp2_with fail
          refine HC4.out.mono ?_
          rintro e u4 ⟨rfl, hg, hr⟩
          have HS4 := Lib.hid (HS3.out.call hg hr)
          clear hg hr HC4 HS3
          cases v3w with
          | true =>
            have h2 := K3.out
            rw [if_pos rfl] at h2
            clear K3
            obtain ⟨v, s3, h3, h4⟩ := bindO_inv h2
            obtain ⟨rfl, _⟩ := isM_inv h3
            obtain ⟨l, s4, h5, h6⟩ := bindO_inv h4
            obtain ⟨⟨⟩, s5, h7, h8⟩ := bindO_inv h6
            obtain ⟨rfl, rfl⟩ := Prod.mk.inj (Option.some.inj h8)
            have H5 := Lib.hid h5
            clear h2 h4 h5 h6 h8
            obtain ⟨u5, hX⟩ : ∃ X, X = u4.setCell ⟨M, 0, none⟩ (.int .u8 6) := ⟨_, rfl⟩
            have c0 := HS4.out.box.get 0 (.int .u8 0) rfl
            have e0 := HS4.out.box.free 0
            have hSX : SW b g cap ts s3 w M 6 id [] 0 0 tp [] [] [] (.slice none 0 0) (.slice none 0 0) (.slice none 0 0) u5 := by rw [hX]; exact (HS4.out.putK 6)
            have HS5 := Lib.hid hSX
            have HXX := Lib.hid hX
            clear hSX hX
            go_upto_region 45 with (fail)
            rw [← HXX.out]
            clear c0 e0 HXX HS4
            have HC6 := Lib.hid (is_w b g cap ts s3 s3 [59] v u5 HS5.out.rw h3)
            go_wp2_with fail
            refine HC6.out.mono ?_
            rintro e u6 ⟨rfl, hb⟩
            have HS6 := Lib.hid (HS5.out.below hb)
            clear hb HC6 HS5
            cases v with
            | false =>
              have h5 := H5.out
              rw [if_pos rfl] at h5
              obtain ⟨y, s6, h9, h10⟩ := bindO_inv h5
              obtain ⟨rfl, rfl⟩ := Prod.mk.inj (Option.some.inj h10)
              clear H5 h5 h10
              go_upto_region 46 with (fail)
              have c6 := HS6.out.box.get 6 (.slice none 0 0) rfl
              have hS : (fun w' : World => w'.cell? ⟨M, 6, none⟩ = some (.slice none 0 0)) u6.drew := c6
              have hwd : Below u6.heap.size u6 u6.drew := (Below.refl _ _).drew
              have HSD := Lib.hid (HS6.out.below hwd)
              have HC := Lib.hid (HLv.out F (Nat.le_refl _) b g cap ts 1 s3 y s6 u6.drew HSD.out.rw (by omega) h9)
              clear hwd
              refine wp_region_dep (S := fun w' => w'.cell? ⟨M, 6, none⟩ = some (.slice none 0 0)) (dep := [6, 7]) (by kernel_rfl) ?_
              change wpAnyD _ _ _ _ _ _ _ _ _ (World.drew _)
              refine wpAnyD_take (i := 0) (v := ?_) rfl (by kernel_rfl) (by kernel_rfl) (by kernel_rfl) (by kernel_rfl) (by kernel_rfl) (fun _ _ _ h => h) hS (Or.inl ⟨by rfl, ?_⟩) ?_
              rotate_left
              · intro w hSw; go_simp
                try with_reducible rfl
              try simp only [Act.put, List.setIfInBounds_toArray]
              refine wpAnyD_take (i := 1) (v := ?_) rfl (by kernel_rfl) (by kernel_rfl) (by kernel_rfl) (by kernel_rfl) (by kernel_rfl) (fun _ _ _ h => h) hS (Or.inl ⟨by rfl, ?_⟩) ?_
              rotate_left
              · intro w hSw; go_simp
                try with_reducible rfl
              try simp only [Act.put]
              refine wpAnyD_take (i := 2) (v := ?_) rfl (by kernel_rfl) (by kernel_rfl) (by kernel_rfl) (by kernel_rfl) (by kernel_rfl) (fun _ _ _ h => h) hS (Or.inl ⟨by rfl, ?_⟩) ?_
              rotate_left
              · intro w hSw; go_simp
                try with_reducible rfl
              try simp only [Act.put]
              clear hS c6
              refine wpAnyD_one (i := 3) rfl (by kernel_rfl) rfl (fun K hK => ?_)
              go_simp
              refine HC.out.mono ?_
              rintro e w7 ⟨k, op, nm', n', pos, a, m, c, rfl, hx, hg, hr⟩
              have HCC7 := Lib.hid (HSD.out.call hg hr)
              have hDM : M + 1 ≤ u6.drew.heap.size := HSD.out.ltW
              obtain ⟨xs, ho, hxs⟩ := HCC7.out.ex
              have hvD : ∀ h, (Value.slice none 0 0).ownBlock = some h → h < u6.drew.heap.size := by
                obtain ⟨xs', ho', _⟩ := HSD.out.ex
                intro h e
                exact (ho'.lt h e).2
              have HA := Lib.hid fun g' c' w4 ho4 hg4 hat => HCC7.out.app (g' := g') (c' := c') (w4 := w4) hDM hvD hx ho hxs ho4 hg4 hat
              have HO := Lib.hid (ho.alloc (.cells (exCells k op nm' n' pos a m c) 36))
              have hbZ : Below w7.heap.size w7 (w7.alloc (.cells (exCells k op nm' n' pos a m c) 36)) := (Below.refl _ _).alloc (Nat.le_refl _) _
              have HTOP := Lib.hid (show M + 1 ≤ (w7.alloc (.cells (exCells k op nm' n' pos a m c) 36)).heap.size by have := hg.size; simp; omega)
              have c6 := HCC7.out.box.get 6 (.slice none 0 0) rfl
              have c6' := (HCC7.out.below hbZ).box.get 6 (.slice none 0 0) rfl
              clear ho hxs hvD hDM hx hg hr hbZ HC HSD HCC7 HS6
              refine hK _ _ (Or.inr c6) ?_
              clear hK K
              try simp only [Act.put, List.setIfInBounds_toArray, List.set_cons_zero, List.set_cons_succ]
              refine wpAnyD_one (i := 4) rfl (by kernel_rfl) rfl (fun K hK => ?_)
              go_simp
              refine hK _ _ (Or.inr c6') ?_
              clear hK K c6 c6'
              try simp only [Act.put, List.setIfInBounds_toArray, List.set_cons_zero, List.set_cons_succ]
              refine wpAnyD_one (i := 5) rfl (by kernel_rfl) rfl (fun K hK => ?_)
              refine wp_append_lies _ (.tmp 162) (.tmp 165) 34 rfl (M + 1) 36 i0 _ 6 64 Tryz.underlying34 hi hz0 hz1 hz2 rfl (by omega) (.slice none 0 0) 0 xs rfl HO.out ⟨w7.heap.size, 0, none⟩ 1 1 (exCells k op nm' n' pos a m c).toList rfl rfl (World.news_of_block (heap_alloc_new w7 _)) (ex_oneR k op nm' n' pos a m c) (by omega) (by unfold maxLen; omega) (by omega) HTOP.out _ rfl ?_
              intro gg7 cg7 w9 hown hgrow hat hlt9
              have HF := Lib.hid (HA.out gg7 cg7 w9 hown hgrow hat)
              clear hown hgrow hat hlt9 HA HO HTOP
              refine hK _ _ (Or.inr (HF.out.1.get 6 (.slice none 0 0) rfl)) ?_
              clear hK K
              try simp only [Act.put, List.setIfInBounds_toArray]
              refine wpAnyD_free (i := 6) (v := ?_) rfl (by kernel_rfl) (by kernel_rfl) (by kernel_rfl) (by kernel_rfl) (fun _ _ _ h => h) (Or.inl ⟨by rfl, ?_⟩) ?_
              rotate_left
              · intro w hSw; clear hSw; go_simp
                try with_reducible rfl
              try simp only [Act.put]
              have c6 := HF.out.1.get 6 (.slice none 0 0) rfl
              have k6 := HF.out.1.free 6
              refine wpAnyD_one (i := 7) rfl (by kernel_rfl) rfl (fun K hK => ?_)
              go_simp
              refine hK _ _ (Or.inl rfl) ?_
              clear hK K
              try simp only [Act.put, List.setIfInBounds_toArray, List.set_cons_zero, List.set_cons_succ]
              refine wpAnyD_done (by kernel_rfl) ?_ _
              clear c6 k6
              obtain ⟨u7, hZ⟩ : ∃ Z, Z = w9.setCell ⟨M, 6, none⟩ (.slice (some ⟨gg7, 0, none⟩) 1 cg7) := ⟨_, rfl⟩
              have HS7 := Lib.hid (show SW b g cap ts s6 w M 6 id [] 0 0 tp [y] [] [] (.slice (some ⟨gg7, 0, none⟩) 1 cg7) (.slice none 0 0) (.slice none 0 0) u7 by rw [hZ]; exact HF.out.2)
              rw [← hZ]
              clear hZ HF
              have HC8 := Lib.hid (skip_w b g cap ts s6 s5 [59] u7 HS7.out.rw h7)
              go_wp2_with fail
              refine HC8.out.mono ?_
              rintro e u8 ⟨rfl, hg, hr⟩
              have HS8 := Lib.hid (HS7.out.call hg hr)
              clear hg hr HC8 HS7
              have FIN := Lib.hid (HS8.out.fin _ rfl)
              have FB := Lib.hid (show Blk w.heap.size #[.int .u8 6, .int .i64 (id : Int), .string ⟨#[]⟩, .int .u8 0, .int .i64 0, .int .i64 (tp : Int), .slice (some ⟨gg7, 0, none⟩) 1 cg7, .slice none 0 0, .slice none 0 0] 39 (set9 u8 w.heap.size (.int .u8 6) (.int .i64 (id : Int)) (.string ⟨#[]⟩) (.int .u8 0) (.int .i64 0) (.int .i64 (tp : Int)) (.slice (some ⟨gg7, 0, none⟩) 1 cg7) (.slice none 0 0) (.slice none 0 0)) from FIN.out.1)
              have hbx : Blk M #[.int .u8 6, .int .i64 (id : Int), .string ⟨#[]⟩, .int .u8 0, .int .i64 0, .int .i64 (tp : Int), .slice (some ⟨gg7, 0, none⟩) 1 cg7, .slice none 0 0, .slice none 0 0] 39 u8 := HS8.out.box
              obtain ⟨k0, k1, k2, k3, k4, k5, k6, k7, k8⟩ := hbx.get9
              obtain ⟨z0, z1, z2, z3, z4, z5, z6, z7, z8⟩ := HS8.out.res.get9
              obtain ⟨e0, e1, e2, e3, e4, e5, e6, e7, e8⟩ := HS8.out.res.free9
              clear hbx
              go_wp2
              rw [← set9_eq]
              obtain ⟨y0, y1, y2, y3, y4, y5, y6, y7, y8⟩ := FB.out.get9
              clear k0 k1 k2 k3 k4 k5 k6 k7 k8 z0 z1 z2 z3 z4 z5 z6 z7 z8 e0 e1 e2 e3 e4 e5 e6 e7 e8
              exact bodyPost_ret (v := .agg #[.int .u8 6, .int .i64 (id : Int), .string ⟨#[]⟩, .int .u8 0, .int .i64 0, .int .i64 (tp : Int), .slice (some ⟨gg7, 0, none⟩) 1 cg7, .slice none 0 0, .slice none 0 0]) (by simp [results, Tryz.results57, go_sem, y0, y1, y2, y3, y4, y5, y6, y7, y8]) rfl FIN.out.2
            | true =>
              have h5 := H5.out
              rw [if_neg (by decide)] at h5
              obtain ⟨rfl, rfl⟩ := Prod.mk.inj (Option.some.inj h5)
              clear H5 h5
              have HC7 := Lib.hid (skip_w b g cap ts s3 s5 [59] u6 HS6.out.rw h7)
              go_wp2_with fail
              refine HC7.out.mono ?_
              rintro e u7 ⟨rfl, hg, hr⟩
              have HS7 := Lib.hid (HS6.out.call hg hr)
              clear hg hr HC7 HS6
              have FIN := Lib.hid (HS7.out.fin _ rfl)
              have FB := Lib.hid (show Blk w.heap.size #[.int .u8 6, .int .i64 (id : Int), .string ⟨#[]⟩, .int .u8 0, .int .i64 0, .int .i64 (tp : Int), .slice none 0 0, .slice none 0 0, .slice none 0 0] 39 (set9 u7 w.heap.size (.int .u8 6) (.int .i64 (id : Int)) (.string ⟨#[]⟩) (.int .u8 0) (.int .i64 0) (.int .i64 (tp : Int)) (.slice none 0 0) (.slice none 0 0) (.slice none 0 0)) from FIN.out.1)
              have hbx : Blk M #[.int .u8 6, .int .i64 (id : Int), .string ⟨#[]⟩, .int .u8 0, .int .i64 0, .int .i64 (tp : Int), .slice none 0 0, .slice none 0 0, .slice none 0 0] 39 u7 := HS7.out.box
              obtain ⟨k0, k1, k2, k3, k4, k5, k6, k7, k8⟩ := hbx.get9
              obtain ⟨z0, z1, z2, z3, z4, z5, z6, z7, z8⟩ := HS7.out.res.get9
              obtain ⟨e0, e1, e2, e3, e4, e5, e6, e7, e8⟩ := HS7.out.res.free9
              clear hbx
              go_wp2
              rw [← set9_eq]
              obtain ⟨y0, y1, y2, y3, y4, y5, y6, y7, y8⟩ := FB.out.get9
              clear k0 k1 k2 k3 k4 k5 k6 k7 k8 z0 z1 z2 z3 z4 z5 z6 z7 z8 e0 e1 e2 e3 e4 e5 e6 e7 e8
              exact bodyPost_ret (v := .agg #[.int .u8 6, .int .i64 (id : Int), .string ⟨#[]⟩, .int .u8 0, .int .i64 0, .int .i64 (tp : Int), .slice none 0 0, .slice none 0 0, .slice none 0 0]) (by simp [results, Tryz.results57, go_sem, y0, y1, y2, y3, y4, y5, y6, y7, y8]) rfl FIN.out.2
          | false =>
            have h2 := K3.out
            rw [if_neg (by decide)] at h2
            clear K3
            obtain ⟨v4w, r4, a4, h2⟩ := bindO_inv h2
            have K4 := Lib.hid h2
            clear h2
            have HC5 := Lib.hid (has_w b g cap ts r3 r4 [112, 114, 105, 110, 116] v4w u4 HS4.out.rw a4)
            go_wp2_with fail
            refine HC5.out.mono ?_
            rintro e u5 ⟨rfl, hg, hr⟩
            have HS5 := Lib.hid (HS4.out.call hg hr)
            clear hg hr HC5 HS4
            cases v4w with
            | true =>
              have h2 := K4.out
              rw [if_pos rfl] at h2
              clear K4
              obtain ⟨y, s3, h3, h4⟩ := bindO_inv h2
              obtain ⟨⟨⟩, s4, h5, h6⟩ := bindO_inv h4
              obtain ⟨rfl, rfl⟩ := Prod.mk.inj (Option.some.inj h6)
              clear h2 h4 h6
              obtain ⟨u6, hX⟩ : ∃ X, X = u5.setCell ⟨M, 0, none⟩ (.int .u8 7) := ⟨_, rfl⟩
              have c0 := HS5.out.box.get 0 (.int .u8 0) rfl
              have e0 := HS5.out.box.free 0
              have hSX : SW b g cap ts r4 w M 7 id [] 0 0 tp [] [] [] (.slice none 0 0) (.slice none 0 0) (.slice none 0 0) u6 := by rw [hX]; exact (HS5.out.putK 7)
              have HS6 := Lib.hid hSX
              have HXX := Lib.hid hX
              clear hSX hX
              go_upto_region 50 with (fail)
              rw [← HXX.out]
              clear c0 e0 HXX HS5
              have c6 := HS6.out.box.get 6 (.slice none 0 0) rfl
              have hS : (fun w' : World => w'.cell? ⟨M, 6, none⟩ = some (.slice none 0 0)) u6.drew := c6
              have hwd : Below u6.heap.size u6 u6.drew := (Below.refl _ _).drew
              have HSD := Lib.hid (HS6.out.below hwd)
              have HC := Lib.hid (HLv.out F (Nat.le_refl _) b g cap ts 1 r4 y s3 u6.drew HSD.out.rw (by omega) h3)
              clear hwd
              refine wp_region_dep (S := fun w' => w'.cell? ⟨M, 6, none⟩ = some (.slice none 0 0)) (dep := [6, 7]) (by kernel_rfl) ?_
              change wpAnyD _ _ _ _ _ _ _ _ _ (World.drew _)
              refine wpAnyD_take (i := 0) (v := ?_) rfl (by kernel_rfl) (by kernel_rfl) (by kernel_rfl) (by kernel_rfl) (by kernel_rfl) (fun _ _ _ h => h) hS (Or.inl ⟨by rfl, ?_⟩) ?_
              rotate_left
              · intro w hSw; go_simp
                try with_reducible rfl
              try simp only [Act.put, List.setIfInBounds_toArray]
              refine wpAnyD_take (i := 1) (v := ?_) rfl (by kernel_rfl) (by kernel_rfl) (by kernel_rfl) (by kernel_rfl) (by kernel_rfl) (fun _ _ _ h => h) hS (Or.inl ⟨by rfl, ?_⟩) ?_
              rotate_left
              · intro w hSw; go_simp
                try with_reducible rfl
              try simp only [Act.put]
              refine wpAnyD_take (i := 2) (v := ?_) rfl (by kernel_rfl) (by kernel_rfl) (by kernel_rfl) (by kernel_rfl) (by kernel_rfl) (fun _ _ _ h => h) hS (Or.inl ⟨by rfl, ?_⟩) ?_
              rotate_left
              · intro w hSw; go_simp
                try with_reducible rfl
              try simp only [Act.put]
              clear hS c6
              refine wpAnyD_one (i := 3) rfl (by kernel_rfl) rfl (fun K hK => ?_)
              go_simp
              refine HC.out.mono ?_
              rintro e w7 ⟨k, op, nm', n', pos, a, m, c, rfl, hx, hg, hr⟩
              have HCC7 := Lib.hid (HSD.out.call hg hr)
              have hDM : M + 1 ≤ u6.drew.heap.size := HSD.out.ltW
              obtain ⟨xs, ho, hxs⟩ := HCC7.out.ex
              have hvD : ∀ h, (Value.slice none 0 0).ownBlock = some h → h < u6.drew.heap.size := by
                obtain ⟨xs', ho', _⟩ := HSD.out.ex
                intro h e
                exact (ho'.lt h e).2
              have HA := Lib.hid fun g' c' w4 ho4 hg4 hat => HCC7.out.app (g' := g') (c' := c') (w4 := w4) hDM hvD hx ho hxs ho4 hg4 hat
              have HO := Lib.hid (ho.alloc (.cells (exCells k op nm' n' pos a m c) 36))
              have hbZ : Below w7.heap.size w7 (w7.alloc (.cells (exCells k op nm' n' pos a m c) 36)) := (Below.refl _ _).alloc (Nat.le_refl _) _
              have HTOP := Lib.hid (show M + 1 ≤ (w7.alloc (.cells (exCells k op nm' n' pos a m c) 36)).heap.size by have := hg.size; simp; omega)
              have c6 := HCC7.out.box.get 6 (.slice none 0 0) rfl
              have c6' := (HCC7.out.below hbZ).box.get 6 (.slice none 0 0) rfl
              clear ho hxs hvD hDM hx hg hr hbZ HC HSD HCC7 HS6
              refine hK _ _ (Or.inr c6) ?_
              clear hK K
              try simp only [Act.put, List.setIfInBounds_toArray, List.set_cons_zero, List.set_cons_succ]
              refine wpAnyD_one (i := 4) rfl (by kernel_rfl) rfl (fun K hK => ?_)
              go_simp
              refine hK _ _ (Or.inr c6') ?_
              clear hK K c6 c6'
              try simp only [Act.put, List.setIfInBounds_toArray, List.set_cons_zero, List.set_cons_succ]
              refine wpAnyD_one (i := 5) rfl (by kernel_rfl) rfl (fun K hK => ?_)
              refine wp_append_lies _ (.tmp 175) (.tmp 178) 34 rfl (M + 1) 36 i0 _ 6 64 Tryz.underlying34 hi hz0 hz1 hz2 rfl (by omega) (.slice none 0 0) 0 xs rfl HO.out ⟨w7.heap.size, 0, none⟩ 1 1 (exCells k op nm' n' pos a m c).toList rfl rfl (World.news_of_block (heap_alloc_new w7 _)) (ex_oneR k op nm' n' pos a m c) (by omega) (by unfold maxLen; omega) (by omega) HTOP.out _ rfl ?_
              intro gg7 cg7 w9 hown hgrow hat hlt9
              have HF := Lib.hid (HA.out gg7 cg7 w9 hown hgrow hat)
              clear hown hgrow hat hlt9 HA HO HTOP
              refine hK _ _ (Or.inr (HF.out.1.get 6 (.slice none 0 0) rfl)) ?_
              clear hK K
              try simp only [Act.put, List.setIfInBounds_toArray]
              refine wpAnyD_free (i := 6) (v := ?_) rfl (by kernel_rfl) (by kernel_rfl) (by kernel_rfl) (by kernel_rfl) (fun _ _ _ h => h) (Or.inl ⟨by rfl, ?_⟩) ?_
              rotate_left
              · intro w hSw; clear hSw; go_simp
                try with_reducible rfl
              try simp only [Act.put]
              have c6 := HF.out.1.get 6 (.slice none 0 0) rfl
              have k6 := HF.out.1.free 6
              refine wpAnyD_one (i := 7) rfl (by kernel_rfl) rfl (fun K hK => ?_)
              go_simp
              refine hK _ _ (Or.inl rfl) ?_
              clear hK K
              try simp only [Act.put, List.setIfInBounds_toArray, List.set_cons_zero, List.set_cons_succ]
              refine wpAnyD_done (by kernel_rfl) ?_ _
              clear c6 k6
              obtain ⟨u7, hZ⟩ : ∃ Z, Z = w9.setCell ⟨M, 6, none⟩ (.slice (some ⟨gg7, 0, none⟩) 1 cg7) := ⟨_, rfl⟩
              have HS7 := Lib.hid (show SW b g cap ts s3 w M 7 id [] 0 0 tp [y] [] [] (.slice (some ⟨gg7, 0, none⟩) 1 cg7) (.slice none 0 0) (.slice none 0 0) u7 by rw [hZ]; exact HF.out.2)
              rw [← hZ]
              clear hZ HF
              have HC8 := Lib.hid (skip_w b g cap ts s3 s4 [59] u7 HS7.out.rw h5)
              go_wp2_with fail
              refine HC8.out.mono ?_
              rintro e u8 ⟨rfl, hg, hr⟩
              have HS8 := Lib.hid (HS7.out.call hg hr)
              clear hg hr HC8 HS7
              have FIN := Lib.hid (HS8.out.fin _ rfl)
              have FB := Lib.hid (show Blk w.heap.size #[.int .u8 7, .int .i64 (id : Int), .string ⟨#[]⟩, .int .u8 0, .int .i64 0, .int .i64 (tp : Int), .slice (some ⟨gg7, 0, none⟩) 1 cg7, .slice none 0 0, .slice none 0 0] 39 (set9 u8 w.heap.size (.int .u8 7) (.int .i64 (id : Int)) (.string ⟨#[]⟩) (.int .u8 0) (.int .i64 0) (.int .i64 (tp : Int)) (.slice (some ⟨gg7, 0, none⟩) 1 cg7) (.slice none 0 0) (.slice none 0 0)) from FIN.out.1)
              have hbx : Blk M #[.int .u8 7, .int .i64 (id : Int), .string ⟨#[]⟩, .int .u8 0, .int .i64 0, .int .i64 (tp : Int), .slice (some ⟨gg7, 0, none⟩) 1 cg7, .slice none 0 0, .slice none 0 0] 39 u8 := HS8.out.box
              obtain ⟨k0, k1, k2, k3, k4, k5, k6, k7, k8⟩ := hbx.get9
              obtain ⟨z0, z1, z2, z3, z4, z5, z6, z7, z8⟩ := HS8.out.res.get9
              obtain ⟨e0, e1, e2, e3, e4, e5, e6, e7, e8⟩ := HS8.out.res.free9
              clear hbx
              go_wp2
              rw [← set9_eq]
              obtain ⟨y0, y1, y2, y3, y4, y5, y6, y7, y8⟩ := FB.out.get9
              clear k0 k1 k2 k3 k4 k5 k6 k7 k8 z0 z1 z2 z3 z4 z5 z6 z7 z8 e0 e1 e2 e3 e4 e5 e6 e7 e8
              exact bodyPost_ret (v := .agg #[.int .u8 7, .int .i64 (id : Int), .string ⟨#[]⟩, .int .u8 0, .int .i64 0, .int .i64 (tp : Int), .slice (some ⟨gg7, 0, none⟩) 1 cg7, .slice none 0 0, .slice none 0 0]) (by simp [results, Tryz.results57, go_sem, y0, y1, y2, y3, y4, y5, y6, y7, y8]) rfl FIN.out.2
            | false =>
              have h2 := K4.out
              rw [if_neg (by decide)] at h2
              clear K4
              unfold namedM at h2
              obtain ⟨nm, s2, h3, h4⟩ := bindO_inv h2
              obtain ⟨v, s3, h5, h6⟩ := bindO_inv h4
              obtain ⟨rfl, _⟩ := isM_inv h5
              have H6 := Lib.hid h6
              clear h2 h4 h6
              have HC6 := Lib.hid (name_w b g cap ts r4 s3 nm u5 HS5.out.rw h3)
              go_wp2_with fail
              refine HC6.out.mono ?_
              rintro e u6 ⟨rfl, hg, hr⟩
              have HS6 := Lib.hid (HS5.out.call hg hr)
              clear hg hr HC6 HS5
              have HC7 := Lib.hid (is_w b g cap ts s3 s3 [40] v u6 HS6.out.rw h5)
              go_wp2_with fail
              refine HC7.out.mono ?_
              rintro e u7 ⟨rfl, hb⟩
              have HS7 := Lib.hid (HS6.out.below hb)
              clear hb HC7 HS6
              cases v with
              | true =>
                have h6 := H6.out
                rw [if_pos rfl] at h6
                obtain ⟨l, s4, h7, h8⟩ := bindO_inv h6
                obtain ⟨⟨⟩, s5, h9, h10⟩ := bindO_inv h8
                obtain ⟨rfl, rfl⟩ := Prod.mk.inj (Option.some.inj h10)
                clear h6 h8 h10 H6
                obtain ⟨u8, hX⟩ : ∃ X, X = u7.setCell ⟨M, 0, none⟩ (.int .u8 8) := ⟨_, rfl⟩
                have c0 := HS7.out.box.get 0 (.int .u8 0) rfl
                have e0 := HS7.out.box.free 0
                have hSX : SW b g cap ts s3 w M 8 id [] 0 0 tp [] [] [] (.slice none 0 0) (.slice none 0 0) (.slice none 0 0) u8 := by rw [hX]; exact (HS7.out.putK 8)
                have HS8 := Lib.hid hSX
                have HXX := Lib.hid hX
                clear hSX hX
                go_upto_region 9 with (fail)
                rw [← HXX.out]
                clear c0 e0 HXX HS7
                have c5 := HS8.out.box.get 5 (.int .i64 (tp : Int)) rfl
                obtain ⟨y9, hY⟩ : ∃ Y, Y = u8.alloc (.cells #[.int .u8 5, .int .u8 0, .string ⟨nm.toArray⟩, .int .i64 0, .int .i64 (tp : Int), .slice none 0 0] 36) := ⟨_, rfl⟩
                have hbY : Below u8.heap.size u8 y9 := by rw [hY]; exact (Below.refl _ _).alloc (Nat.le_refl _) _
                have HSY := Lib.hid (HS8.out.below hbY)
                have HKK := Lib.hid fun (w2 : World) (a : Option Addr) (c : Nat) (hg : y9.grownBy w2 (some b)) (hr : RW b g cap ts s4 w2) (hrow : ExRow w2 (fun h => y9.heap.size ≤ h) l (.slice a l.length c)) => HS8.out.call1 (nm' := nm) hY hg hr hrow
                have HYY := Lib.hid hY
                clear hY hbY
                go_upto_region 10 with (fail)
                rw [← HYY.out]
                clear c5 HYY
                have HC9 := Lib.hid (HAr.out F (Nat.le_refl _) b g cap ts s3 l s4 y9 HSY.out.rw h7)
                go_wp2_with fail
                refine HC9.out.mono ?_
                rintro e w2 ⟨a, c, rfl, hrow, hg, hr⟩
                have HK1 := Lib.hid (HKK.out w2 a c hg hr hrow)
                clear hrow hg hr HC9 HKK HSY h7
                obtain ⟨z9, hZ⟩ : ∃ Z, Z = w2.setCell ⟨u8.heap.size, 5, none⟩ (.slice a l.length c) := ⟨_, rfl⟩
                obtain ⟨u9, hU⟩ : ∃ U, U = (z9.alloc (.cells #[.int .u8 5, .int .u8 0, .string ⟨nm.toArray⟩, .int .i64 0, .int .i64 (tp : Int), .slice a l.length c] 36)).setCell ⟨M, 6, none⟩ (.slice (some ⟨w2.heap.size, 0, none⟩) 1 1) := ⟨_, rfl⟩
                have hb2 : Blk u8.heap.size #[.int .u8 5, .int .u8 0, .string ⟨nm.toArray⟩, .int .i64 0, .int .i64 (tp : Int), .slice none 0 0] 36 w2 := HK1.out.1
                have hbZ : Blk u8.heap.size #[.int .u8 5, .int .u8 0, .string ⟨nm.toArray⟩, .int .i64 0, .int .i64 (tp : Int), .slice a l.length c] 36 z9 := by rw [hZ]; exact HK1.out.2.1
                have g5 := hb2.get 5 (.slice none 0 0) rfl
                have g5' := hb2.free 5
                obtain ⟨p0, p1, p2, p3, p4, p5⟩ := hbZ.get6
                have hszZ : z9.heap.size = w2.heap.size := by rw [hZ]; simp [World.setCell]
                have hMV : Blk M (smCells 8 id [] 0 0 tp (.slice none 0 0) (.slice none 0 0) (.slice none 0 0)) 39 (z9.alloc (.cells #[.int .u8 5, .int .u8 0, .string ⟨nm.toArray⟩, .int .i64 0, .int .i64 (tp : Int), .slice a l.length c] 36)) := by rw [hZ]; exact HK1.out.2.2.1
                have c6 := hMV.get 6 (.slice none 0 0) rfl
                have e6 := hMV.free 6
                have hSU : SW b g cap ts s4 w M 8 id [] 0 0 tp [.mk 5 0 nm 0 tp l] [] [] (.slice (some ⟨w2.heap.size, 0, none⟩) 1 1) (.slice none 0 0) (.slice none 0 0) u9 := by rw [hU, hZ]; exact HK1.out.2.2.2
                have HS9 := Lib.hid hSU
                have HZZ := Lib.hid (And.intro hZ hszZ)
                have HUU := Lib.hid hU
                clear hZ hU hb2 hbZ hszZ hMV hSU HK1
                go_upto_region 11 with (fail)
                rw [← HZZ.out.1]
                go_upto_region 17 with (fail)
                rw [HZZ.out.2, ← HUU.out]
                clear g5 g5' p0 p1 p2 p3 p4 p5 c6 e6 HZZ HUU HS8
                have HC10 := Lib.hid (skip_w b g cap ts s4 s5 [59] u9 HS9.out.rw h9)
                go_wp2_with fail
                refine HC10.out.mono ?_
                rintro e u10 ⟨rfl, hg, hr⟩
                have HS10 := Lib.hid (HS9.out.call hg hr)
                clear hg hr HC10 HS9
                have FIN := Lib.hid (HS10.out.fin _ rfl)
                have FB := Lib.hid (show Blk w.heap.size #[.int .u8 8, .int .i64 (id : Int), .string ⟨#[]⟩, .int .u8 0, .int .i64 0, .int .i64 (tp : Int), .slice (some ⟨w2.heap.size, 0, none⟩) 1 1, .slice none 0 0, .slice none 0 0] 39 (set9 u10 w.heap.size (.int .u8 8) (.int .i64 (id : Int)) (.string ⟨#[]⟩) (.int .u8 0) (.int .i64 0) (.int .i64 (tp : Int)) (.slice (some ⟨w2.heap.size, 0, none⟩) 1 1) (.slice none 0 0) (.slice none 0 0)) from FIN.out.1)
                have hbx : Blk M #[.int .u8 8, .int .i64 (id : Int), .string ⟨#[]⟩, .int .u8 0, .int .i64 0, .int .i64 (tp : Int), .slice (some ⟨w2.heap.size, 0, none⟩) 1 1, .slice none 0 0, .slice none 0 0] 39 u10 := HS10.out.box
                obtain ⟨k0, k1, k2, k3, k4, k5, k6, k7, k8⟩ := hbx.get9
                obtain ⟨z0, z1, z2, z3, z4, z5, z6, z7, z8⟩ := HS10.out.res.get9
                obtain ⟨e0, e1, e2, e3, e4, e5, e6, e7, e8⟩ := HS10.out.res.free9
                clear hbx
                go_wp2
                rw [← set9_eq]
                obtain ⟨y0, y1, y2, y3, y4, y5, y6, y7, y8⟩ := FB.out.get9
                clear k0 k1 k2 k3 k4 k5 k6 k7 k8 z0 z1 z2 z3 z4 z5 z6 z7 z8 e0 e1 e2 e3 e4 e5 e6 e7 e8
                exact bodyPost_ret (v := .agg #[.int .u8 8, .int .i64 (id : Int), .string ⟨#[]⟩, .int .u8 0, .int .i64 0, .int .i64 (tp : Int), .slice (some ⟨w2.heap.size, 0, none⟩) 1 1, .slice none 0 0, .slice none 0 0]) (by simp [results, Tryz.results57, go_sem, y0, y1, y2, y3, y4, y5, y6, y7, y8]) rfl FIN.out.2
              | false =>
                have h6 := H6.out
                rw [if_neg (by decide)] at h6
                obtain ⟨u, s4, h7, h8⟩ := bindO_inv h6
                obtain ⟨rfl, _⟩ := isM_inv h7
                have H8 := Lib.hid h8
                clear h6 h8 H6
                have HC8 := Lib.hid (is_w b g cap ts s4 s4 [91] u u7 HS7.out.rw h7)
                go_wp2_with fail
                refine HC8.out.mono ?_
                rintro e u8 ⟨rfl, hb⟩
                have HS8 := Lib.hid (HS7.out.below hb)
                clear hb HC8 HS7
                cases u with
                | true =>
                  have h8 := H8.out
                  rw [if_pos rfl] at h8
                  obtain ⟨y, s5, h9, h10⟩ := bindO_inv h8
                  obtain ⟨⟨⟩, s6, h11, h12⟩ := bindO_inv h10
                  obtain ⟨z, s7, h13, h14⟩ := bindO_inv h12
                  obtain ⟨⟨⟩, s8, h15, h16⟩ := bindO_inv h14
                  obtain ⟨rfl, rfl⟩ := Prod.mk.inj (Option.some.inj h16)
                  clear h8 h10 h12 h14 h16 H8
                  obtain ⟨u9, hX⟩ : ∃ X, X = (u8.setCell ⟨M, 0, none⟩ (.int .u8 3)).setCell ⟨M, 2, none⟩ (.string ⟨nm.toArray⟩) := ⟨_, rfl⟩
                  have c0 := HS8.out.box.get 0 (.int .u8 0) rfl
                  have e0 := HS8.out.box.free 0
                  have c2 := HS8.out.box.get 2 (.string ⟨#[]⟩) rfl
                  have e2 := HS8.out.box.free 2
                  have hSX : SW b g cap ts s4 w M 3 id nm 0 0 tp [] [] [] (.slice none 0 0) (.slice none 0 0) (.slice none 0 0) u9 := by rw [hX]; exact ((HS8.out.putK 3).putNm nm)
                  have HS9 := Lib.hid hSX
                  have HXX := Lib.hid hX
                  clear hSX hX
                  go_upto_region 14 with (fail)
                  rw [← HXX.out]
                  clear c0 e0 c2 e2 HXX HS8
                  have c6 := HS9.out.box.get 6 (.slice none 0 0) rfl
                  have hS : (fun w' : World => w'.cell? ⟨M, 6, none⟩ = some (.slice none 0 0)) u9.drew := c6
                  have hwd : Below u9.heap.size u9 u9.drew := (Below.refl _ _).drew
                  have HSD := Lib.hid (HS9.out.below hwd)
                  have HC := Lib.hid (HPl.out F (Nat.le_refl _) b g cap ts s4 y s5 u9.drew HSD.out.rw h9)
                  clear hwd
                  refine wp_region_dep (S := fun w' => w'.cell? ⟨M, 6, none⟩ = some (.slice none 0 0)) (dep := [6, 7]) (by kernel_rfl) ?_
                  change wpAnyD _ _ _ _ _ _ _ _ _ (World.drew _)
                  refine wpAnyD_take (i := 0) (v := ?_) rfl (by kernel_rfl) (by kernel_rfl) (by kernel_rfl) (by kernel_rfl) (by kernel_rfl) (fun _ _ _ h => h) hS (Or.inl ⟨by rfl, ?_⟩) ?_
                  rotate_left
                  · intro w hSw; go_simp
                    try with_reducible rfl
                  try simp only [Act.put, List.setIfInBounds_toArray]
                  refine wpAnyD_take (i := 1) (v := ?_) rfl (by kernel_rfl) (by kernel_rfl) (by kernel_rfl) (by kernel_rfl) (by kernel_rfl) (fun _ _ _ h => h) hS (Or.inl ⟨by rfl, ?_⟩) ?_
                  rotate_left
                  · intro w hSw; go_simp
                    try with_reducible rfl
                  try simp only [Act.put]
                  refine wpAnyD_take (i := 2) (v := ?_) rfl (by kernel_rfl) (by kernel_rfl) (by kernel_rfl) (by kernel_rfl) (by kernel_rfl) (fun _ _ _ h => h) hS (Or.inl ⟨by rfl, ?_⟩) ?_
                  rotate_left
                  · intro w hSw; go_simp
                    try with_reducible rfl
                  try simp only [Act.put]
                  clear hS c6
                  refine wpAnyD_one (i := 3) rfl (by kernel_rfl) rfl (fun K hK => ?_)
                  go_simp
                  refine HC.out.mono ?_
                  rintro e w7 ⟨k, op, nm', n', pos, a, m, c, rfl, hx, hg, hr⟩
                  have HCC7 := Lib.hid (HSD.out.call hg hr)
                  have hDM : M + 1 ≤ u9.drew.heap.size := HSD.out.ltW
                  obtain ⟨xs, ho, hxs⟩ := HCC7.out.ex
                  have hvD : ∀ h, (Value.slice none 0 0).ownBlock = some h → h < u9.drew.heap.size := by
                    obtain ⟨xs', ho', _⟩ := HSD.out.ex
                    intro h e
                    exact (ho'.lt h e).2
                  have HA := Lib.hid fun g' c' w4 ho4 hg4 hat => HCC7.out.app (g' := g') (c' := c') (w4 := w4) hDM hvD hx ho hxs ho4 hg4 hat
                  have HO := Lib.hid (ho.alloc (.cells (exCells k op nm' n' pos a m c) 36))
                  have hbZ : Below w7.heap.size w7 (w7.alloc (.cells (exCells k op nm' n' pos a m c) 36)) := (Below.refl _ _).alloc (Nat.le_refl _) _
                  have HTOP := Lib.hid (show M + 1 ≤ (w7.alloc (.cells (exCells k op nm' n' pos a m c) 36)).heap.size by have := hg.size; simp; omega)
                  have c6 := HCC7.out.box.get 6 (.slice none 0 0) rfl
                  have c6' := (HCC7.out.below hbZ).box.get 6 (.slice none 0 0) rfl
                  clear ho hxs hvD hDM hx hg hr hbZ HC HSD HCC7 HS9
                  refine hK _ _ (Or.inr c6) ?_
                  clear hK K
                  try simp only [Act.put, List.setIfInBounds_toArray, List.set_cons_zero, List.set_cons_succ]
                  refine wpAnyD_one (i := 4) rfl (by kernel_rfl) rfl (fun K hK => ?_)
                  go_simp
                  refine hK _ _ (Or.inr c6') ?_
                  clear hK K c6 c6'
                  try simp only [Act.put, List.setIfInBounds_toArray, List.set_cons_zero, List.set_cons_succ]
                  refine wpAnyD_one (i := 5) rfl (by kernel_rfl) rfl (fun K hK => ?_)
                  refine wp_append_lies _ (.tmp 57) (.tmp 60) 34 rfl (M + 1) 36 i0 _ 6 64 Tryz.underlying34 hi hz0 hz1 hz2 rfl (by omega) (.slice none 0 0) 0 xs rfl HO.out ⟨w7.heap.size, 0, none⟩ 1 1 (exCells k op nm' n' pos a m c).toList rfl rfl (World.news_of_block (heap_alloc_new w7 _)) (ex_oneR k op nm' n' pos a m c) (by omega) (by unfold maxLen; omega) (by omega) HTOP.out _ rfl ?_
                  intro gg10 cg10 w9 hown hgrow hat hlt9
                  have HF := Lib.hid (HA.out gg10 cg10 w9 hown hgrow hat)
                  clear hown hgrow hat hlt9 HA HO HTOP
                  refine hK _ _ (Or.inr (HF.out.1.get 6 (.slice none 0 0) rfl)) ?_
                  clear hK K
                  try simp only [Act.put, List.setIfInBounds_toArray]
                  refine wpAnyD_free (i := 6) (v := ?_) rfl (by kernel_rfl) (by kernel_rfl) (by kernel_rfl) (by kernel_rfl) (fun _ _ _ h => h) (Or.inl ⟨by rfl, ?_⟩) ?_
                  rotate_left
                  · intro w hSw; clear hSw; go_simp
                    try with_reducible rfl
                  try simp only [Act.put]
                  have c6 := HF.out.1.get 6 (.slice none 0 0) rfl
                  have k6 := HF.out.1.free 6
                  refine wpAnyD_one (i := 7) rfl (by kernel_rfl) rfl (fun K hK => ?_)
                  go_simp
                  refine hK _ _ (Or.inl rfl) ?_
                  clear hK K
                  try simp only [Act.put, List.setIfInBounds_toArray, List.set_cons_zero, List.set_cons_succ]
                  refine wpAnyD_done (by kernel_rfl) ?_ _
                  clear c6 k6
                  obtain ⟨u10, hZ⟩ : ∃ Z, Z = w9.setCell ⟨M, 6, none⟩ (.slice (some ⟨gg10, 0, none⟩) 1 cg10) := ⟨_, rfl⟩
                  have HS10 := Lib.hid (show SW b g cap ts s5 w M 3 id nm 0 0 tp [y] [] [] (.slice (some ⟨gg10, 0, none⟩) 1 cg10) (.slice none 0 0) (.slice none 0 0) u10 by rw [hZ]; exact HF.out.2)
                  rw [← hZ]
                  clear hZ HF
                  have HC11 := Lib.hid (skip_w b g cap ts s5 s6 [61] u10 HS10.out.rw h11)
                  go_wp2_with fail
                  refine HC11.out.mono ?_
                  rintro e u11 ⟨rfl, hg, hr⟩
                  have HS11 := Lib.hid (HS10.out.call hg hr)
                  clear hg hr HC11 HS10
                  go_upto_region 16 with (fail)
                  have c6 := HS11.out.box.get 6 (.slice (some ⟨gg10, 0, none⟩) 1 cg10) rfl
                  have hS : (fun w' : World => w'.cell? ⟨M, 6, none⟩ = some (.slice (some ⟨gg10, 0, none⟩) 1 cg10)) u11.drew := c6
                  have hwd : Below u11.heap.size u11 u11.drew := (Below.refl _ _).drew
                  have HSD := Lib.hid (HS11.out.below hwd)
                  have HC := Lib.hid (HLv.out F (Nat.le_refl _) b g cap ts 1 s6 z s7 u11.drew HSD.out.rw (by omega) h13)
                  clear hwd
                  refine wp_region_dep (S := fun w' => w'.cell? ⟨M, 6, none⟩ = some (.slice (some ⟨gg10, 0, none⟩) 1 cg10)) (dep := [6, 7]) (by kernel_rfl) ?_
                  change wpAnyD _ _ _ _ _ _ _ _ _ (World.drew _)
                  refine wpAnyD_take (i := 0) (v := ?_) rfl (by kernel_rfl) (by kernel_rfl) (by kernel_rfl) (by kernel_rfl) (by kernel_rfl) (fun _ _ _ h => h) hS (Or.inl ⟨by rfl, ?_⟩) ?_
                  rotate_left
                  · intro w hSw; go_simp
                    try with_reducible rfl
                  try simp only [Act.put, List.setIfInBounds_toArray]
                  refine wpAnyD_take (i := 1) (v := ?_) rfl (by kernel_rfl) (by kernel_rfl) (by kernel_rfl) (by kernel_rfl) (by kernel_rfl) (fun _ _ _ h => h) hS (Or.inl ⟨by rfl, ?_⟩) ?_
                  rotate_left
                  · intro w hSw; go_simp
                    try with_reducible rfl
                  try simp only [Act.put]
                  refine wpAnyD_take (i := 2) (v := ?_) rfl (by kernel_rfl) (by kernel_rfl) (by kernel_rfl) (by kernel_rfl) (by kernel_rfl) (fun _ _ _ h => h) hS (Or.inl ⟨by rfl, ?_⟩) ?_
                  rotate_left
                  · intro w hSw; go_simp
                    try with_reducible rfl
                  try simp only [Act.put]
                  clear hS c6
                  refine wpAnyD_one (i := 3) rfl (by kernel_rfl) rfl (fun K hK => ?_)
                  go_simp
                  refine HC.out.mono ?_
                  rintro e w7 ⟨k, op, nm', n', pos, a, m, c, rfl, hx, hg, hr⟩
                  have HCC7 := Lib.hid (HSD.out.call hg hr)
                  have hDM : M + 1 ≤ u11.drew.heap.size := HSD.out.ltW
                  obtain ⟨xs, ho, hxs⟩ := HCC7.out.ex
                  have hvD : ∀ h, (Value.slice (some ⟨gg10, 0, none⟩) 1 cg10).ownBlock = some h → h < u11.drew.heap.size := by
                    obtain ⟨xs', ho', _⟩ := HSD.out.ex
                    intro h e
                    exact (ho'.lt h e).2
                  have HA := Lib.hid fun g' c' w4 ho4 hg4 hat => HCC7.out.app (g' := g') (c' := c') (w4 := w4) hDM hvD hx ho hxs ho4 hg4 hat
                  have HO := Lib.hid (ho.alloc (.cells (exCells k op nm' n' pos a m c) 36))
                  have hbZ : Below w7.heap.size w7 (w7.alloc (.cells (exCells k op nm' n' pos a m c) 36)) := (Below.refl _ _).alloc (Nat.le_refl _) _
                  have HTOP := Lib.hid (show M + 1 ≤ (w7.alloc (.cells (exCells k op nm' n' pos a m c) 36)).heap.size by have := hg.size; simp; omega)
                  have c6 := HCC7.out.box.get 6 (.slice (some ⟨gg10, 0, none⟩) 1 cg10) rfl
                  have c6' := (HCC7.out.below hbZ).box.get 6 (.slice (some ⟨gg10, 0, none⟩) 1 cg10) rfl
                  clear ho hxs hvD hDM hx hg hr hbZ HC HSD HCC7 HS11
                  refine hK _ _ (Or.inr c6) ?_
                  clear hK K
                  try simp only [Act.put, List.setIfInBounds_toArray, List.set_cons_zero, List.set_cons_succ]
                  refine wpAnyD_one (i := 4) rfl (by kernel_rfl) rfl (fun K hK => ?_)
                  go_simp
                  refine hK _ _ (Or.inr c6') ?_
                  clear hK K c6 c6'
                  try simp only [Act.put, List.setIfInBounds_toArray, List.set_cons_zero, List.set_cons_succ]
                  refine wpAnyD_one (i := 5) rfl (by kernel_rfl) rfl (fun K hK => ?_)
                  refine wp_append_lies _ (.tmp 66) (.tmp 69) 34 rfl (M + 1) 36 i0 _ 6 64 Tryz.underlying34 hi hz0 hz1 hz2 rfl (by omega) (.slice (some ⟨gg10, 0, none⟩) 1 cg10) 1 xs rfl HO.out ⟨w7.heap.size, 0, none⟩ 1 1 (exCells k op nm' n' pos a m c).toList rfl rfl (World.news_of_block (heap_alloc_new w7 _)) (ex_oneR k op nm' n' pos a m c) (by omega) (by unfold maxLen; omega) (by omega) HTOP.out _ rfl ?_
                  intro gg12 cg12 w9 hown hgrow hat hlt9
                  have HF := Lib.hid (HA.out gg12 cg12 w9 hown hgrow hat)
                  clear hown hgrow hat hlt9 HA HO HTOP
                  refine hK _ _ (Or.inr (HF.out.1.get 6 (.slice (some ⟨gg10, 0, none⟩) 1 cg10) rfl)) ?_
                  clear hK K
                  try simp only [Act.put, List.setIfInBounds_toArray]
                  refine wpAnyD_free (i := 6) (v := ?_) rfl (by kernel_rfl) (by kernel_rfl) (by kernel_rfl) (by kernel_rfl) (fun _ _ _ h => h) (Or.inl ⟨by rfl, ?_⟩) ?_
                  rotate_left
                  · intro w hSw; clear hSw; go_simp
                    try with_reducible rfl
                  try simp only [Act.put]
                  have c6 := HF.out.1.get 6 (.slice (some ⟨gg10, 0, none⟩) 1 cg10) rfl
                  have k6 := HF.out.1.free 6
                  refine wpAnyD_one (i := 7) rfl (by kernel_rfl) rfl (fun K hK => ?_)
                  go_simp
                  refine hK _ _ (Or.inl rfl) ?_
                  clear hK K
                  try simp only [Act.put, List.setIfInBounds_toArray, List.set_cons_zero, List.set_cons_succ]
                  refine wpAnyD_done (by kernel_rfl) ?_ _
                  clear c6 k6
                  obtain ⟨u12, hZ⟩ : ∃ Z, Z = w9.setCell ⟨M, 6, none⟩ (.slice (some ⟨gg12, 0, none⟩) 2 cg12) := ⟨_, rfl⟩
                  have HS12 := Lib.hid (show SW b g cap ts s7 w M 3 id nm 0 0 tp [y, z] [] [] (.slice (some ⟨gg12, 0, none⟩) 2 cg12) (.slice none 0 0) (.slice none 0 0) u12 by rw [hZ]; exact HF.out.2)
                  rw [← hZ]
                  clear hZ HF
                  have HC13 := Lib.hid (skip_w b g cap ts s7 s8 [59] u12 HS12.out.rw h15)
                  go_wp2_with fail
                  refine HC13.out.mono ?_
                  rintro e u13 ⟨rfl, hg, hr⟩
                  have HS13 := Lib.hid (HS12.out.call hg hr)
                  clear hg hr HC13 HS12
                  have FIN := Lib.hid (HS13.out.fin _ rfl)
                  have FB := Lib.hid (show Blk w.heap.size #[.int .u8 3, .int .i64 (id : Int), .string ⟨nm.toArray⟩, .int .u8 0, .int .i64 0, .int .i64 (tp : Int), .slice (some ⟨gg12, 0, none⟩) 2 cg12, .slice none 0 0, .slice none 0 0] 39 (set9 u13 w.heap.size (.int .u8 3) (.int .i64 (id : Int)) (.string ⟨nm.toArray⟩) (.int .u8 0) (.int .i64 0) (.int .i64 (tp : Int)) (.slice (some ⟨gg12, 0, none⟩) 2 cg12) (.slice none 0 0) (.slice none 0 0)) from FIN.out.1)
                  have hbx : Blk M #[.int .u8 3, .int .i64 (id : Int), .string ⟨nm.toArray⟩, .int .u8 0, .int .i64 0, .int .i64 (tp : Int), .slice (some ⟨gg12, 0, none⟩) 2 cg12, .slice none 0 0, .slice none 0 0] 39 u13 := HS13.out.box
                  obtain ⟨k0, k1, k2, k3, k4, k5, k6, k7, k8⟩ := hbx.get9
                  obtain ⟨z0, z1, z2, z3, z4, z5, z6, z7, z8⟩ := HS13.out.res.get9
                  obtain ⟨e0, e1, e2, e3, e4, e5, e6, e7, e8⟩ := HS13.out.res.free9
                  clear hbx
                  go_wp2
                  rw [← set9_eq]
                  obtain ⟨y0, y1, y2, y3, y4, y5, y6, y7, y8⟩ := FB.out.get9
                  clear k0 k1 k2 k3 k4 k5 k6 k7 k8 z0 z1 z2 z3 z4 z5 z6 z7 z8 e0 e1 e2 e3 e4 e5 e6 e7 e8
                  exact bodyPost_ret (v := .agg #[.int .u8 3, .int .i64 (id : Int), .string ⟨nm.toArray⟩, .int .u8 0, .int .i64 0, .int .i64 (tp : Int), .slice (some ⟨gg12, 0, none⟩) 2 cg12, .slice none 0 0, .slice none 0 0]) (by simp [results, Tryz.results57, go_sem, y0, y1, y2, y3, y4, y5, y6, y7, y8]) rfl FIN.out.2
                | false =>
                  have h8 := H8.out
                  rw [if_neg (by decide)] at h8
                  obtain ⟨⟨⟩, s5, h9, h10⟩ := bindO_inv h8
                  obtain ⟨z, s6, h11, h12⟩ := bindO_inv h10
                  obtain ⟨⟨⟩, s7, h13, h14⟩ := bindO_inv h12
                  obtain ⟨rfl, rfl⟩ := Prod.mk.inj (Option.some.inj h14)
                  clear h8 h10 h12 h14 H8
                  obtain ⟨u9, hX⟩ : ∃ X, X = (u8.setCell ⟨M, 0, none⟩ (.int .u8 2)).setCell ⟨M, 2, none⟩ (.string ⟨nm.toArray⟩) := ⟨_, rfl⟩
                  have c0 := HS8.out.box.get 0 (.int .u8 0) rfl
                  have e0 := HS8.out.box.free 0
                  have c2 := HS8.out.box.get 2 (.string ⟨#[]⟩) rfl
                  have e2 := HS8.out.box.free 2
                  have hSX : SW b g cap ts s4 w M 2 id nm 0 0 tp [] [] [] (.slice none 0 0) (.slice none 0 0) (.slice none 0 0) u9 := by rw [hX]; exact ((HS8.out.putK 2).putNm nm)
                  have HS9 := Lib.hid hSX
                  have HXX := Lib.hid hX
                  clear hSX hX
                  go_upto_region 5 with (fail)
                  rw [← HXX.out]
                  clear c0 e0 c2 e2 HXX HS8
                  have HC10 := Lib.hid (skip_w b g cap ts s4 s5 [61] u9 HS9.out.rw h9)
                  go_wp2_with fail
                  refine HC10.out.mono ?_
                  rintro e u10 ⟨rfl, hg, hr⟩
                  have HS10 := Lib.hid (HS9.out.call hg hr)
                  clear hg hr HC10 HS9
                  go_upto_region 6 with (fail)
                  have c6 := HS10.out.box.get 6 (.slice none 0 0) rfl
                  have hS : (fun w' : World => w'.cell? ⟨M, 6, none⟩ = some (.slice none 0 0)) u10.drew := c6
                  have hwd : Below u10.heap.size u10 u10.drew := (Below.refl _ _).drew
                  have HSD := Lib.hid (HS10.out.below hwd)
                  have HC := Lib.hid (HLv.out F (Nat.le_refl _) b g cap ts 1 s5 z s6 u10.drew HSD.out.rw (by omega) h11)
                  clear hwd
                  refine wp_region_dep (S := fun w' => w'.cell? ⟨M, 6, none⟩ = some (.slice none 0 0)) (dep := [6, 7]) (by kernel_rfl) ?_
                  change wpAnyD _ _ _ _ _ _ _ _ _ (World.drew _)
                  refine wpAnyD_take (i := 0) (v := ?_) rfl (by kernel_rfl) (by kernel_rfl) (by kernel_rfl) (by kernel_rfl) (by kernel_rfl) (fun _ _ _ h => h) hS (Or.inl ⟨by rfl, ?_⟩) ?_
                  rotate_left
                  · intro w hSw; go_simp
                    try with_reducible rfl
                  try simp only [Act.put, List.setIfInBounds_toArray]
                  refine wpAnyD_take (i := 1) (v := ?_) rfl (by kernel_rfl) (by kernel_rfl) (by kernel_rfl) (by kernel_rfl) (by kernel_rfl) (fun _ _ _ h => h) hS (Or.inl ⟨by rfl, ?_⟩) ?_
                  rotate_left
                  · intro w hSw; go_simp
                    try with_reducible rfl
                  try simp only [Act.put]
                  refine wpAnyD_take (i := 2) (v := ?_) rfl (by kernel_rfl) (by kernel_rfl) (by kernel_rfl) (by kernel_rfl) (by kernel_rfl) (fun _ _ _ h => h) hS (Or.inl ⟨by rfl, ?_⟩) ?_
                  rotate_left
                  · intro w hSw; go_simp
                    try with_reducible rfl
                  try simp only [Act.put]
                  clear hS c6
                  refine wpAnyD_one (i := 3) rfl (by kernel_rfl) rfl (fun K hK => ?_)
                  go_simp
                  refine HC.out.mono ?_
                  rintro e w7 ⟨k, op, nm', n', pos, a, m, c, rfl, hx, hg, hr⟩
                  have HCC7 := Lib.hid (HSD.out.call hg hr)
                  have hDM : M + 1 ≤ u10.drew.heap.size := HSD.out.ltW
                  obtain ⟨xs, ho, hxs⟩ := HCC7.out.ex
                  have hvD : ∀ h, (Value.slice none 0 0).ownBlock = some h → h < u10.drew.heap.size := by
                    obtain ⟨xs', ho', _⟩ := HSD.out.ex
                    intro h e
                    exact (ho'.lt h e).2
                  have HA := Lib.hid fun g' c' w4 ho4 hg4 hat => HCC7.out.app (g' := g') (c' := c') (w4 := w4) hDM hvD hx ho hxs ho4 hg4 hat
                  have HO := Lib.hid (ho.alloc (.cells (exCells k op nm' n' pos a m c) 36))
                  have hbZ : Below w7.heap.size w7 (w7.alloc (.cells (exCells k op nm' n' pos a m c) 36)) := (Below.refl _ _).alloc (Nat.le_refl _) _
                  have HTOP := Lib.hid (show M + 1 ≤ (w7.alloc (.cells (exCells k op nm' n' pos a m c) 36)).heap.size by have := hg.size; simp; omega)
                  have c6 := HCC7.out.box.get 6 (.slice none 0 0) rfl
                  have c6' := (HCC7.out.below hbZ).box.get 6 (.slice none 0 0) rfl
                  clear ho hxs hvD hDM hx hg hr hbZ HC HSD HCC7 HS10
                  refine hK _ _ (Or.inr c6) ?_
                  clear hK K
                  try simp only [Act.put, List.setIfInBounds_toArray, List.set_cons_zero, List.set_cons_succ]
                  refine wpAnyD_one (i := 4) rfl (by kernel_rfl) rfl (fun K hK => ?_)
                  go_simp
                  refine hK _ _ (Or.inr c6') ?_
                  clear hK K c6 c6'
                  try simp only [Act.put, List.setIfInBounds_toArray, List.set_cons_zero, List.set_cons_succ]
                  refine wpAnyD_one (i := 5) rfl (by kernel_rfl) rfl (fun K hK => ?_)
                  refine wp_append_lies _ (.tmp 30) (.tmp 33) 34 rfl (M + 1) 36 i0 _ 6 64 Tryz.underlying34 hi hz0 hz1 hz2 rfl (by omega) (.slice none 0 0) 0 xs rfl HO.out ⟨w7.heap.size, 0, none⟩ 1 1 (exCells k op nm' n' pos a m c).toList rfl rfl (World.news_of_block (heap_alloc_new w7 _)) (ex_oneR k op nm' n' pos a m c) (by omega) (by unfold maxLen; omega) (by omega) HTOP.out _ rfl ?_
                  intro gg11 cg11 w9 hown hgrow hat hlt9
                  have HF := Lib.hid (HA.out gg11 cg11 w9 hown hgrow hat)
                  clear hown hgrow hat hlt9 HA HO HTOP
                  refine hK _ _ (Or.inr (HF.out.1.get 6 (.slice none 0 0) rfl)) ?_
                  clear hK K
                  try simp only [Act.put, List.setIfInBounds_toArray]
                  refine wpAnyD_free (i := 6) (v := ?_) rfl (by kernel_rfl) (by kernel_rfl) (by kernel_rfl) (by kernel_rfl) (fun _ _ _ h => h) (Or.inl ⟨by rfl, ?_⟩) ?_
                  rotate_left
                  · intro w hSw; clear hSw; go_simp
                    try with_reducible rfl
                  try simp only [Act.put]
                  have c6 := HF.out.1.get 6 (.slice none 0 0) rfl
                  have k6 := HF.out.1.free 6
                  refine wpAnyD_one (i := 7) rfl (by kernel_rfl) rfl (fun K hK => ?_)
                  go_simp
                  refine hK _ _ (Or.inl rfl) ?_
                  clear hK K
                  try simp only [Act.put, List.setIfInBounds_toArray, List.set_cons_zero, List.set_cons_succ]
                  refine wpAnyD_done (by kernel_rfl) ?_ _
                  clear c6 k6
                  obtain ⟨u11, hZ⟩ : ∃ Z, Z = w9.setCell ⟨M, 6, none⟩ (.slice (some ⟨gg11, 0, none⟩) 1 cg11) := ⟨_, rfl⟩
                  have HS11 := Lib.hid (show SW b g cap ts s6 w M 2 id nm 0 0 tp [z] [] [] (.slice (some ⟨gg11, 0, none⟩) 1 cg11) (.slice none 0 0) (.slice none 0 0) u11 by rw [hZ]; exact HF.out.2)
                  rw [← hZ]
                  clear hZ HF
                  have HC12 := Lib.hid (skip_w b g cap ts s6 s7 [59] u11 HS11.out.rw h13)
                  go_wp2_with fail
                  refine HC12.out.mono ?_
                  rintro e u12 ⟨rfl, hg, hr⟩
                  have HS12 := Lib.hid (HS11.out.call hg hr)
                  clear hg hr HC12 HS11
                  have FIN := Lib.hid (HS12.out.fin _ rfl)
                  have FB := Lib.hid (show Blk w.heap.size #[.int .u8 2, .int .i64 (id : Int), .string ⟨nm.toArray⟩, .int .u8 0, .int .i64 0, .int .i64 (tp : Int), .slice (some ⟨gg11, 0, none⟩) 1 cg11, .slice none 0 0, .slice none 0 0] 39 (set9 u12 w.heap.size (.int .u8 2) (.int .i64 (id : Int)) (.string ⟨nm.toArray⟩) (.int .u8 0) (.int .i64 0) (.int .i64 (tp : Int)) (.slice (some ⟨gg11, 0, none⟩) 1 cg11) (.slice none 0 0) (.slice none 0 0)) from FIN.out.1)
                  have hbx : Blk M #[.int .u8 2, .int .i64 (id : Int), .string ⟨nm.toArray⟩, .int .u8 0, .int .i64 0, .int .i64 (tp : Int), .slice (some ⟨gg11, 0, none⟩) 1 cg11, .slice none 0 0, .slice none 0 0] 39 u12 := HS12.out.box
                  obtain ⟨k0, k1, k2, k3, k4, k5, k6, k7, k8⟩ := hbx.get9
                  obtain ⟨z0, z1, z2, z3, z4, z5, z6, z7, z8⟩ := HS12.out.res.get9
                  obtain ⟨e0, e1, e2, e3, e4, e5, e6, e7, e8⟩ := HS12.out.res.free9
                  clear hbx
                  go_wp2
                  rw [← set9_eq]
                  obtain ⟨y0, y1, y2, y3, y4, y5, y6, y7, y8⟩ := FB.out.get9
                  clear k0 k1 k2 k3 k4 k5 k6 k7 k8 z0 z1 z2 z3 z4 z5 z6 z7 z8 e0 e1 e2 e3 e4 e5 e6 e7 e8
                  exact bodyPost_ret (v := .agg #[.int .u8 2, .int .i64 (id : Int), .string ⟨nm.toArray⟩, .int .u8 0, .int .i64 0, .int .i64 (tp : Int), .slice (some ⟨gg11, 0, none⟩) 1 cg11, .slice none 0 0, .slice none 0 0]) (by simp [results, Tryz.results57, go_sem, y0, y1, y2, y3, y4, y5, y6, y7, y8]) rfl FIN.out.2
theorem stmts_w : ∀ F, (∀ G, G ≤ F → StC G) ∧ BlcC F := by
  intro F
  induction F with
  | zero =>
    refine ⟨fun G hG => ?_, ?_⟩
    · obtain rfl : G = 0 := by omega
      intro b g cap ts s x s' w hw h
      rw [stmtM] at h
      cases h
    · intro b g cap ts s l s' w hw h
      rw [blockM] at h
      cases h
  | succ F ih =>
    have hS : StC (F + 1) := stmt_w (fun G hG => (exprs_w F).1 G hG) (fun G hG => (exprs_w F).2.2.1 G hG) (fun G hG => (exprs_w F).2.2.2 G hG) ih.2
    refine ⟨fun G hG => ?_, block_w ih.1⟩
    rcases Nat.lt_or_ge F G with h | h
    · obtain rfl : G = F + 1 := by omega
      exact hS
    · exact ih.1 G h
end Go.Proofs.YtcgllooeimacdaaGreatDoor
