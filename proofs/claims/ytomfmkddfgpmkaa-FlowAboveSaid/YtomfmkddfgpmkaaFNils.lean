/-
  Joined: FNil2, FNilL.
-/
import Derived.Test.YtomfmkddfgpmkaaFEx
import Derived.Test.YtomfmkddfgpmkaaFNilC
import Derived.Test.YtomfmkddfgpmkaaFNilN
import Derived.Test.YtomfmkddfgpmkaaFReach
/-! The graph of no nodes: the walks of Above and Loops. -/

namespace Go.Proofs.Ytomfmkddfgpmkaa
open Go Go.RowKit Fl

theorem wrap_m1 : wrap64 (((0 : Nat) : Int) - 1) = -1 := by kernel_rfl
set_option maxRecDepth 100000 in
set_option maxHeartbeats 8000000 in
theorem above_nil (bw bl n : Nat) (hn : n = 0) (w : World) (c0 : w.cell? ⟨bw, 0, none⟩ = some (.slice none n 0)) (hbw : bw < w.heap.size) :
    Calls Try.prog 32 #[.pointer (some ⟨bw, 0, none⟩), .slice (some ⟨bl, 0, none⟩) n n] w fun e w' => ∃ b, e = .returned (.slice (some ⟨b, 0, none⟩) n n) ∧ Blk b (arrZ (List.replicate n 0)) 3 w' ∧ w.heap.size ≤ b ∧ Below w.heap.size w w' := by
  have hmk := mkIn n (by omega)
  have HN := Lib.hid (And.intro hn hbw)
  have hno : decide (0 < n) = false := by simp; omega
  have hno2 : decide ((0 : Int) < (n : Int) - 1) = false := by simp; omega
  have HNO := Lib.hid (And.intro hno hno2)
  have HC0 := Lib.hid c0
  clear hn hno hno2 hbw c0
  go_enter Try.func32, Try.ntmps32
  go_upto_region 1 with (fail)
  go_cut [5, 6] from 17 to 22 (fun p q W => Abv2 w n p q W)
  case first =>
    go_region
    · go_wp2_with fail
      go_meet
      case rel => exact ⟨_, _, rfl, rfl, abG_start w n _ _ (Or.inl ⟨rfl, by omega⟩)⟩
    · go_wp2_with fail
      go_meet
      case rel => exact ⟨_, _, rfl, rfl, abG_start w n _ _ (Or.inr ⟨by omega, rfl⟩)⟩
  case rest =>
    obtain ⟨a, b, rfl, rfl, hA⟩ := hcut
    obtain ⟨W, rfl⟩ : ∃ W, W = wc := ⟨_, rfl⟩
    have c0 := cell_below hA.bel HN.out.2 HC0.out
    have HA := Lib.hid hA
    have HCL := Lib.hid (newClimb_nil bw b n HN.out.1 W c0)
    clear hA hmk
    go_wp2_with fail
    go_loop [25] (fun iv => iv = I 0) (fun _ => 0)
    case atStart => rfl
    case round =>
      subst hrel
      have d1 := HNO.out.1
      go_wp2_with fail
      go_loop [37] (fun iv => iv = I 0) (fun _ => 0)
      case atStart => rfl
      case round =>
        subst hrel
        go_wp2_with fail
        refine HCL.out.mono ?_
        rintro e w2 ⟨bc, b0, b1, b2, b3, rfl, hG, hb2⟩
        have c02 := cell_below hb2 (Nat.lt_of_lt_of_le HN.out.2 HA.out.bel.size) c0
        have k2 := HA.out.ka.below hb2 HA.out.ka.lt
        have HNE := Lib.hid (nearest_nil bc b0 n HN.out.1 w2 (hG.blk.get 0 _ rfl))
        have H2 := Lib.hid (And.intro k2 (belowB HA.out.bel hb2))
        clear c0 hG hb2 k2 d1 HCL
        go_wp2_with fail
        go_loop [11] (fun nv => nv = I (-1)) (fun _ => 0)
        case atStart => rw [HN.out.1]; exact congrArg (Value.int .i64) wrap_m1
        case round =>
          subst hrel
          go_wp2_with fail
          refine HNE.out.mono ?_
          rintro e w3 ⟨b', rfl, hb3⟩
          have FIN := Lib.hid (And.intro (H2.out.1.below hb3 H2.out.1.lt) (And.intro HA.out.la (belowB H2.out.2 hb3)))
          have d3 := HNO.out.1
          clear hb3 HNE H2
          go_wp2_with fail
          go_loop [116] (fun kv => kv = I 0) (fun _ => 0)
          case atStart => rfl
          case round =>
            subst hrel
            go_wp2_with fail
            go_ret
            exact ⟨a, rfl, FIN.out.1, FIN.out.2.1, FIN.out.2.2⟩

set_option maxRecDepth 100000 in
set_option maxHeartbeats 1600000 in
theorem lay_nil (p z n : Nat) (hn : n = 0) (ba : Nat) (w : World) :
    Calls Try.prog 46 #[forestN p z n, .slice none n 0, .slice (some ⟨ba, 0, none⟩) n n] w fun e w' => e = .returned (.tuple #[]) ∧ Below w.heap.size w w' := by
  have hmk := mkIn n (by omega)
  have d0 : decide (0 < n) = false := by simp; omega
  obtain ⟨W, hW⟩ : ∃ W, W = ((w.alloc (.cells #[.slice (some ⟨p, 0, none⟩) n n, .slice (some ⟨z, 0, none⟩) n n] 58)).alloc (.cells (arrZ (List.replicate n 0)) 3)).alloc (.cells #[I 0] 3) := ⟨_, rfl⟩
  have FIN := Lib.hid (show Below w.heap.size w W by rw [hW]; exact (((Below.refl _ _).alloc (Nat.le_refl _) _).alloc (by simp) _).alloc (by simp; omega) _)
  have HW := Lib.hid hW
  have D0 := Lib.hid d0
  clear hn hW d0
  go_enter Try.func46, Try.ntmps46
  go_upto_region 3 with (fail)
  change Code.wp _ _ _ _ (((w.alloc (.cells #[.slice (some ⟨p, 0, none⟩) n n, .slice (some ⟨z, 0, none⟩) n n] 58)).alloc (.cells (arrZ (List.replicate n 0)) 3)).alloc (.cells #[I 0] 3))
  rw [← HW.out]
  go_wp2_with fail
  go_loop [16] (fun iv => iv = I 0) (fun _ => 0)
  case atStart => rfl
  case round =>
    subst hrel
    have d0 := D0.out
    go_wp2_with fail
    go_end0
    exact ⟨rfl, FIN.out⟩

set_option maxRecDepth 100000 in
set_option maxHeartbeats 1600000 in
theorem New_nil (n : Nat) (hn : n = 0) (ba : Nat) (w : World) :
    Calls Try.prog 35 #[.slice none n 0, .slice (some ⟨ba, 0, none⟩) n n] w fun e w' => ∃ p z, e = .returned (forestN p z n) ∧ Blk p (arrZ (List.replicate n 0)) 3 w' ∧ Blk z (arrN (List.replicate n 0)) 3 w' ∧ Below w.heap.size w w' := by
  have hmk := mkIn n (by omega)
  have HF := Lib.hid (forB_four w n)
  have d0 : decide (0 < n) = false := by simp; omega
  have d1 : decide ((0 : Int) ≤ (n : Int) - 1) = false := by simp; omega
  have D := Lib.hid (And.intro d0 (And.intro d1 hn))
  clear hn d0 d1
  go_enter Try.func35, Try.ntmps35
  go_upto_region 1 with (fail)
  go_cut [5] from 9 to 15 (fun q W => ForB w n q W)
  case first =>
    go_region
    all_goals (go_wp2_with fail; go_meet; case rel => first | exact HF.out _ _ _ 1 2 3 _ _ _ rfl rfl rfl (by decide) rfl rfl rfl | exact HF.out _ _ _ 1 3 2 _ _ _ rfl rfl rfl (by decide) rfl rfl rfl | exact HF.out _ _ _ 2 1 3 _ _ _ rfl rfl rfl (by decide) rfl rfl rfl | exact HF.out _ _ _ 2 3 1 _ _ _ rfl rfl rfl (by decide) rfl rfl rfl | exact HF.out _ _ _ 3 1 2 _ _ _ rfl rfl rfl (by decide) rfl rfl rfl | exact HF.out _ _ _ 3 2 1 _ _ _ rfl rfl rfl (by decide) rfl rfl rfl)
  case rest =>
    obtain ⟨f, p, z, rfl, hG⟩ := hcut
    obtain ⟨W, rfl⟩ : ∃ W, W = wc := ⟨_, rfl⟩
    obtain ⟨r, hr⟩ : ∃ r, r = w.heap.size := ⟨_, rfl⟩
    rw [← hr] at hG
    have x0 := hG.kf.get 0 (.slice (some ⟨p, 0, none⟩) n n) rfl
    have x1 := hG.kf.get 1 (.slice (some ⟨z, 0, none⟩) n n) rfl
    have HR := Lib.hid hr
    have HG := Lib.hid hG
    clear hG hr hmk HF
    go_wp2_with fail
    go_loop [19] (fun iv => iv = I 0) (fun _ => 0)
    case atStart => rfl
    case round =>
      subst hrel
      have d0 := D.out.1
      go_wp2_with fail
      go_loop [7] (fun iv => iv = I (-1)) (fun _ => 0)
      case atStart => rw [D.out.2.2]; exact congrArg (Value.int .i64) wrap_m1
      case round =>
        subst hrel
        have HL := Lib.hid (lay_nil p z n D.out.2.2 ba W)
        clear d0
        go_wp2_with fail
        refine HL.out.mono ?_
        rintro e w3 ⟨rfl, hb3⟩
        have hG := HG.out
        have k1 := hG.kf.below hb3 hG.kf.lt
        have k2 := hG.kr.below hb3 hG.kr.lt
        have k3 := hG.kz.below hb3 hG.kz.lt
        have k4 := hG.kp.below hb3 hG.kp.lt
        have k5 : Below w.heap.size w w3 := belowB hG.bel hb3
        have c0 := k1.get 0 (.slice (some ⟨p, 0, none⟩) n n) rfl
        have c1 := k1.get 1 (.slice (some ⟨z, 0, none⟩) n n) rfl
        have e0 := k2.get 0 (.slice none 0 0) rfl
        have e1 := k2.get 1 (.slice none 0 0) rfl
        have f0 := k2.free 0
        have f1 := k2.free 1
        obtain ⟨W3, hW3⟩ : ∃ W3, W3 = (w3.setCell ⟨r, 0, none⟩ (.slice (some ⟨p, 0, none⟩) n n)).setCell ⟨r, 1, none⟩ (.slice (some ⟨z, 0, none⟩) n n) := ⟨_, rfl⟩
        have k6 : Blk r #[.slice (some ⟨p, 0, none⟩) n n, .slice (some ⟨z, 0, none⟩) n n] 58 W3 := by rw [hW3]; exact (k2.set 0 _).set 1 _
        have FIN := Lib.hid (show ∃ p' z', Ending.returned (forestN p z n) = .returned (forestN p' z' n) ∧ Blk p' (arrZ (List.replicate n 0)) 3 W3 ∧ Blk z' (arrN (List.replicate n 0)) 3 W3 ∧ Below w.heap.size w W3 from
          ⟨p, z, rfl, by rw [hW3]; exact (k4.setOther (Ne.symm hG.n2.1) _ _).setOther (Ne.symm hG.n2.1) _ _, by rw [hW3]; exact (k3.setOther (Ne.symm hG.n2.2.1) _ _).setOther (Ne.symm hG.n2.2.1) _ _, by
            rw [hW3]
            exact (k5.setCell (p := ⟨r, 0, none⟩) hG.lo.1 _).setCell (p := ⟨r, 1, none⟩) hG.lo.1 _⟩)
        have HW3 := Lib.hid hW3
        have HRR := Lib.hid (And.intro (k6.get 0 (.slice (some ⟨p, 0, none⟩) n n) rfl) (k6.get 1 (.slice (some ⟨z, 0, none⟩) n n) rfl))
        clear hG hb3 k1 k2 k3 k4 k5 k6 hW3 x0 x1
        rw [← HR.out]
        go_wp2_with fail
        rw [← HW3.out]
        have g0 := HRR.out.1
        have g1 := HRR.out.2
        exact bodyPost_ret (v := forestN p z n) (by simp [results, Try.results35, go_sem, g0, g1]) rfl FIN.out
end Go.Proofs.Ytomfmkddfgpmkaa

/-! Above, Loops and what is reached, of whatever graph of one's own. -/

namespace Go.Proofs.Ytomfmkddfgpmkaa
open Go Go.RowKit Fl

set_option maxRecDepth 100000 in
set_option maxHeartbeats 800000 in
theorem Above_nil (a : Option Addr) (c : Nat) (w : World) :
    Calls Try.prog 18 #[.slice a 0 c] w fun e w' => ∃ b, e = .returned (.tuple #[.slice (some ⟨b, 0, none⟩) 0 0, I 0]) ∧ Below w.heap.size w w' := by
  have HFA := Lib.hid (fault_gz (.slice a 0 c) [] (by simp) (by simp) w (gz_nil w a c))
  go_enter Try.func18, Try.ntmps18
  go_wp2_with fail
  refine HFA.out.mono ?_
  rintro e w' ⟨rfl, rfl⟩
  rw [show Fl.errF [] = 0 from rfl]
  go_wp2_with fail
  refine (newWalk_nil a c w).mono ?_
  rintro e w1 ⟨p, rfl, bw, bf, br, rfl, hW, hb⟩
  have HI := Lib.hid (into_nil a c w1)
  have H1 := Lib.hid (And.intro hW hb)
  clear hW hb
  go_wp2_with fail
  refine HI.out.mono ?_
  rintro e w2 ⟨bl, rfl, kl, _, hb2⟩
  have HA := Lib.hid (above_nil bw bl 0 rfl w2 (cell_below hb2 H1.out.1.blk.lt (H1.out.1.blk.get 0 _ rfl)) (Nat.lt_of_lt_of_le H1.out.1.blk.lt hb2.size))
  have H2 := Lib.hid (belowB H1.out.2 hb2)
  clear kl hb2
  go_wp2_with fail
  refine HA.out.mono ?_
  rintro e w3 ⟨b, rfl, _, _, hb3⟩
  have FIN := Lib.hid (belowB H2.out hb3)
  clear hb3
  go_wp2_with fail
  go_ret2
  exact ⟨_, rfl, FIN.out⟩

set_option maxRecDepth 100000 in
set_option maxHeartbeats 800000 in
theorem Loops_nil (a : Option Addr) (c : Nat) (w : World) :
    Calls Try.prog 22 #[.slice a 0 c] w fun e w' => ∃ v, e = .returned (.tuple #[v, I 0]) ∧ LoopsW w.heap.size [] v w' ∧ Below w.heap.size w w' := by
  have HFA := Lib.hid (fault_gz (.slice a 0 c) [] (by simp) (by simp) w (gz_nil w a c))
  go_enter Try.func22, Try.ntmps22
  go_wp2_with fail
  refine HFA.out.mono ?_
  rintro e w' ⟨rfl, rfl⟩
  rw [show Fl.errF [] = 0 from rfl]
  go_wp2_with fail
  refine (newWalk_nil a c w).mono ?_
  rintro e w1 ⟨p, rfl, bw, bf, br, rfl, hW, hb⟩
  have HI := Lib.hid (into_nil a c w1)
  have H1 := Lib.hid (And.intro hW hb)
  clear hW hb
  go_wp2_with fail
  refine HI.out.mono ?_
  rintro e w2 ⟨bl, rfl, kl, _, hb2⟩
  have HO := Lib.hid (order_nil bw _ _ _ w2 (H1.out.1.blk.below hb2 H1.out.1.blk.lt))
  have HA := Lib.hid (above_nil bw bl 0 rfl w2 (cell_below hb2 H1.out.1.blk.lt (H1.out.1.blk.get 0 _ rfl)) (Nat.lt_of_lt_of_le H1.out.1.blk.lt hb2.size))
  have H2 := Lib.hid (And.intro kl (belowB H1.out.2 hb2))
  clear kl hb2
  go_wp2_with fail
  refine HO.out.mono ?_
  rintro e w' ⟨rfl, rfl⟩
  clear HO
  go_wp2_with fail
  refine HA.out.mono ?_
  rintro e w3 ⟨b, rfl, _, _, hb3⟩
  have HN := Lib.hid (New_nil 0 rfl b w3)
  have H3 := Lib.hid (And.intro (H2.out.1.below hb3 H2.out.1.lt) (belowB H2.out.2 hb3))
  clear hb3 HA
  go_wp2_with fail
  refine HN.out.mono ?_
  rintro e w4 ⟨p, z, rfl, kp, kz, hb4⟩
  have k4 := H3.out.1.below hb4 H3.out.1.lt
  have HL := Lib.hid (loops_any p z 0 bl 0 [] [] [] (by omega) (fun x hx => absurd hx (by omega)) (fun x hx => absurd hx (by omega)) ⟨rfl, rfl⟩ rfl (fun i => by simp [row]) (fun i x hx => by simp [row] at hx) w4 kp kz ⟨k4.lt, Nat.le_refl _, fun i hi => absurd hi (by simp)⟩)
  have H4 := Lib.hid (belowB H3.out.2 hb4)
  clear kp kz hb4 k4 HN
  go_wp2_with fail
  refine HL.out.mono ?_
  rintro e w5 ⟨v, rfl, hv, hb5⟩
  have FIN := Lib.hid (show LoopsW w.heap.size [] v w5 ∧ Below w.heap.size w w5 from ⟨hv.lower H4.out.size, belowB H4.out hb5⟩)
  clear hv hb5
  go_wp2_with fail
  go_ret2
  exact ⟨_, rfl, FIN.out⟩

theorem Above_own (v : Value) (Z : List (List Int)) (base : Nat) (ht : TameZ Z) (w : World) (h : OwnG base Z v w) :
    Calls Try.prog 18 #[v] w fun e w' => ∃ u, e = .returned (.tuple #[u, I (errF Z)]) ∧ RowZ w' u (if errF Z = 0 then abvL (natG Z) else []) ∧ Below w.heap.size w w' := by
  by_cases hz : Z = []
  · subst hz
    obtain ⟨a, c, rfl⟩ := h.size
    refine (Above_nil a c w).mono ?_
    rintro e w' ⟨b, rfl, hb⟩
    exact ⟨_, rfl, ⟨some ⟨b, 0, none⟩, 0, rfl, fun j hj => absurd hj (by simp [abvL, natG, errF])⟩, hb⟩
  · obtain ⟨bg, c, rfl, hg⟩ := h.gz.grZ hz
    refine (Above_any bg c Z ht hz w hg).mono ?_
    rintro e w' ⟨u, rfl, h1, h2, hb⟩
    refine ⟨u, rfl, ?_, hb⟩
    by_cases he : errF Z = 0
    · rw [if_pos he]
      obtain ⟨b, rfl, h3, h4, _⟩ := h1 he
      rw [← h4]
      exact rowZ_blk h3
    · rw [if_neg he, h2 he]
      exact ⟨none, 0, rfl, fun j hj => absurd hj (by simp)⟩
theorem Loops_own (v : Value) (Z : List (List Int)) (base : Nat) (ht : TameZ Z) (w : World) (h : OwnG base Z v w) :
    Calls Try.prog 22 #[v] w fun e w' => ∃ u, e = .returned (.tuple #[u, I (errF Z)]) ∧ LoopsW w.heap.size (if errF Z = 0 then lpsL (natG Z) else []) u w' ∧ Below w.heap.size w w' := by
  by_cases hz : Z = []
  · subst hz
    obtain ⟨a, c, rfl⟩ := h.size
    refine (Loops_nil a c w).mono ?_
    rintro e w' ⟨u, rfl, hl, hb⟩
    exact ⟨_, rfl, hl, hb⟩
  · obtain ⟨bg, c, rfl, hg⟩ := h.gz.grZ hz
    exact (Loops_any bg c Z ht hz w hg).mono fun e w' h => h
end Go.Proofs.Ytomfmkddfgpmkaa
