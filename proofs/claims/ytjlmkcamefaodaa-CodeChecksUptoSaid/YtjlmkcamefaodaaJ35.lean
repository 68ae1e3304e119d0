/-
  Joined: RMd, RMy.
-/
import Derived.Test.YtjlmkcamefaodaaJ34
/-! RMd: Where a value is made, how often: the document's own answer, walked. -/

namespace Go.Proofs.Ytjlmkcamefaodaa
open Go Go.RowKit Go.Maps Go.Sort Cd Fl

/-- What is told of a value's makers: how many, and one of them. -/
def Tl (L : List Mk) (v : Int) (s : Nat) (pb pa : Int) : Prop := s = cnt L v ∧ (s ≠ 0 → (v, pb, pa) ∈ L)
theorem Tl.hit {L : List Mk} {v : Int} {s : Nat} {pb pa pb' pa' : Int} (h : Tl L v s pb pa) : Tl (L ++ [(v, pb', pa')]) v (s + 1) pb' pa' := by
  refine ⟨?_, fun _ => by simp⟩
  rw [cnt_app, cnt_one, if_pos rfl, h.1]
theorem Tl.miss {L : List Mk} {v d : Int} {s : Nat} {pb pa pb' pa' : Int} (h : Tl L v s pb pa) (hd : d ≠ v) : Tl (L ++ [(d, pb', pa')]) v s pb pa := by
  refine ⟨?_, fun h0 => List.mem_append_left _ (h.2 h0)⟩
  rw [cnt_app, cnt_one, if_neg hd, h.1, Nat.add_zero]
def MdS (b6 : Nat) (L : List Mk) (v : Int) (bd : Nat) (w : World) (nv : Value) (W : World) : Prop := ∃ (s : Nat) (pb pa : Int), nv = I (s : Int) ∧ s ≤ bd ∧ Tl L v s pb pa ∧ Blk b6 #[I pb, I pa] 75 W ∧ w.grownBy W (some b6)
def Md1 (b6 : Nat) (f : FunP) (v : Int) (w : World) (nv iv : Value) (W : World) : Prop := ∃ i : Nat, i ≤ f.blocks.length ∧ iv = I (i : Int) ∧ MdS b6 (rBl f i) v (cB f i) w nv W
def Md2 (b6 : Nat) (f : FunP) (i : Nat) (b : BlockP) (v : Int) (w : World) (nv kv : Value) (W : World) : Prop := ∃ k : Nat, k ≤ b.phis.length ∧ kv = I (k : Int) ∧ MdS b6 (rBl f i ++ rowM (gPh b) i b.phis k) v (cB f i + k) w nv W
def Md3 (b6 : Nat) (f : FunP) (i : Nat) (b : BlockP) (v : Int) (w : World) (nv kv : Value) (W : World) : Prop := ∃ k : Nat, k ≤ b.insts.length ∧ kv = I (k : Int) ∧ MdS b6 (rBl f i ++ rowM (gPh b) i b.phis b.phis.length ++ rowM gIn i b.insts k) v (cB f i + b.phis.length + k) w nv W
def MadeT (f : FunP) (v : Int) (w : World) (e : Ending) (w' : World) : Prop := ∃ (s : Nat) (pb pa : Int), e = .returned (.tuple #[.agg #[I pb, I pa], I (s : Int)]) ∧ s ≤ 1000000 ∧ Tl (rMk f) v s pb pa ∧ Below w.heap.size w w'
theorem grown_two (W : World) (b : Nat) (v1 v2 : Value) : W.grownBy ((W.setCell ⟨b, 0, none⟩ v1).setCell ⟨b, 1, none⟩ v2) (some b) :=
  ⟨rfl, rfl, rfl, by simp [World.setCell], fun k _ hne => (Below.heap_setCell _ _ _ _ (fun e => hne (by rw [e]))).trans (Below.heap_setCell _ _ _ _ (fun e => hne (by rw [e])))⟩
theorem zero_place (w : World) : (zeroValue 75).run Try.prog w = .ok (.agg #[I 0, I 0]) w := by kernel_rfl

set_option maxRecDepth 100000 in
set_option maxHeartbeats 3200000 in
theorem made_any (f : FunP) (hf : SmF f) (ba : Option Addr) (n bc : Nat) (v : Int) (w : World) (h : BlocksZ w (.slice ba n bc) f.blocks) :
    Calls Try.prog 34 #[.agg #[I f.params, I f.vars, I f.vals, .slice ba n bc], I v] w fun e w' => MadeT f v w e w' := by
  have hn : n = f.blocks.length := by
    obtain ⟨a', c', e, _⟩ := h
    injection e
  obtain ⟨pr, vr, vl, hpp⟩ : ∃ a b d, f.params = a ∧ f.vars = b ∧ f.vals = d := ⟨_, _, _, rfl, rfl, rfl⟩
  rw [hpp.1, hpp.2.1, hpp.2.2]
  have hnb : (n : Int) ≤ 1000000 := by have := hf.bl; omega
  obtain ⟨W1, hW1⟩ : ∃ W, W = ((w.alloc (.cells #[I pr, I vr, I vl, .slice ba n bc] 36)).alloc (.cells #[I 0, I 0] 75)).alloc (.cells #[I 0, I 0] 75) := ⟨_, rfl⟩
  obtain ⟨b2, hb2⟩ : ∃ b, b = w.heap.size := ⟨_, rfl⟩
  obtain ⟨b4, hb4⟩ : ∃ b, b = w.heap.size + 1 := ⟨_, rfl⟩
  obtain ⟨b6, hb6⟩ : ∃ b, b = w.heap.size + 1 + 1 := ⟨_, rfl⟩
  have hB1 : Below w.heap.size w W1 := by rw [hW1]; exact (((Below.refl _ _).alloc (Nat.le_refl _) _).alloc (by simp) _).alloc (by simp; omega) _
  have k2 : Blk b2 #[I pr, I vr, I vl, .slice ba n bc] 36 W1 := by rw [hW1, hb2]; exact ((Blk.new _ _ _).alloc _).alloc _
  have k4 : Blk b4 #[I 0, I 0] 75 W1 := by rw [hW1, hb4]; exact (Blk.new' _ _ _ (by simp)).alloc _
  have k6 : Blk b6 #[I 0, I 0] 75 W1 := by rw [hW1, hb6]; exact Blk.new' _ _ _ (by simp)
  have x3 := k2.get 3 (.slice ba n bc) rfl
  have HST := Lib.hid (show Md1 b6 f v W1 (I 0) (I 0) W1 from ⟨0, Nat.zero_le _, rfl, 0, 0, 0, rfl, Nat.zero_le _, ⟨rfl, fun h => absurd rfl h⟩, k6, ⟨rfl, rfl, rfl, Nat.le_refl _, fun _ _ _ => rfl⟩⟩)
  have HH := Lib.hid (And.intro (h.keep (S' := fun k => k < w.heap.size) blockV_stays (fun k hk => hB1.block k hk) (fun _ hk => hk)) (And.intro hn (And.intro hf (And.intro hB1 (And.intro k4 (And.intro hb4 hb6))))))
  have HW1 := Lib.hid (And.intro hW1 (And.intro hb2 (And.intro hb4 hb6)))
  clear h hn hpp hf hW1 hb2 hb4 hb6 hB1 k2 k4 k6
  go_enter Try.func34, Try.ntmps34
  go_upto_region 2 with (fail)
  rw [← HW1.out.2.2.2, ← HW1.out.2.2.1, ← HW1.out.2.1]
  change Code.wp _ _ _ _ (((w.alloc (.cells #[I pr, I vr, I vl, .slice ba n bc] 36)).alloc (.cells #[I 0, I 0] 75)).alloc (.cells #[I 0, I 0] 75))
  rw [← HW1.out.1]
  go_wp2_with fail
  clear x3
  go_loopw [7, 18] (fun nv iv W => Md1 b6 f v W1 nv iv W) (fun _ iv _ => n - (intOf iv).toNat)
  case atStart => exact HST.out
  case round =>
    obtain ⟨i, hi, rfl, s, pb, pa, rfl, hsb, hT, hk6, hg⟩ := hrel
    clear HST
    obtain ⟨Wo, rfl⟩ : ∃ W : World, W = wr := ⟨_, rfl⟩
    by_cases hin : i < n
    · have il : i < f.blocks.length := by have := HH.out.2.1; omega
      have hbz : SlS (fun k => k < w.heap.size) 6 BlockV Wo (.slice ba n bc) f.blocks := slB_grown blockV_stays HH.out.1 hg HH.out.2.2.2.1.size (by have := HH.out.2.2.2.2.2.2; omega)
      obtain ⟨g1, _, e1, gl, cw, pv, iv, rfl, hpz, hiz⟩ := hbz.at i il
      subst e1
      obtain ⟨pa', pc, hpv⟩ := hpz.size
      obtain ⟨ia, ic, hiv⟩ := hiz.size
      obtain ⟨y, hy⟩ : ∃ x, x = f.blocks[i] := ⟨_, rfl⟩
      rw [← hy] at cw hpz hiz hpv hiv
      obtain ⟨PL, hP⟩ : ∃ P, P = y.phis.length := ⟨_, rfl⟩
      obtain ⟨J, hJ⟩ : ∃ P, P = y.insts.length := ⟨_, rfl⟩
      subst hpv hiv
      have hcnt : cB f i + (PL + J) ≤ 900000 := by
        have h1 := cB_succ f il
        have h2 := cB_mono f (show i + 1 ≤ f.blocks.length from il)
        have h3 := HH.out.2.2.1.cb
        rw [← hy, ← hP, ← hJ] at h1
        omega
      have hPb : (PL : Int) ≤ 1000000 := by omega
      have hJb : (J : Int) ≤ 1000000 := by omega
      rw [← hP, ← hJ] at cw
      rw [← hP] at hpz
      rw [← hJ] at hiz
      obtain ⟨fin, arg, tt, els, hyy⟩ : ∃ fin arg tt els, y.fin = fin ∧ y.arg = arg ∧ y.to = tt ∧ y.els = els := ⟨_, _, _, _, rfl, rfl, rfl, rfl⟩
      rw [hyy.1, hyy.2.1, hyy.2.2.1, hyy.2.2.2] at cw
      have c0 := cw.f0
      have c1 := cw.f1
      have c2 := cw.f2
      have c3 := cw.f3
      have c4 := cw.f4
      have c5 := cw.f5
      obtain ⟨W9, hW9⟩ : ∃ W, W = Wo.alloc (.cells #[.slice pa' PL pc, .slice ia J ic, U8 fin, I arg, I tt, I els] 40) := ⟨_, rfl⟩
      obtain ⟨b9, hb9⟩ : ∃ b, b = Wo.heap.size := ⟨_, rfl⟩
      have hB9 : Below Wo.heap.size Wo W9 := by rw [hW9]; exact (Below.refl _ _).alloc (Nat.le_refl _) _
      have k9 : Blk b9 #[.slice pa' PL pc, .slice ia J ic, U8 fin, I arg, I tt, I els] 40 W9 := by rw [hW9, hb9]; exact Blk.new _ _ _
      have z0 := k9.get 0 (.slice pa' PL pc) rfl
      have hb69 : b9 ≠ b6 := by have := hk6.lt; omega
      have hwo : w.heap.size ≤ Wo.heap.size := Nat.le_trans HH.out.2.2.2.1.size hg.size
      have HS2 := Lib.hid (show Md2 b6 f i y v W9 (I (s : Int)) (I 0) W9 from ⟨0, Nat.zero_le _, rfl, s, pb, pa, rfl, hsb, by rw [show rBl f i ++ rowM (gPh y) i y.phis 0 = rBl f i by simp [rowM]]; exact hT, hk6.below hB9 hk6.lt, ⟨rfl, rfl, rfl, Nat.le_refl _, fun _ _ _ => rfl⟩⟩)
      have H9 := Lib.hid (And.intro (hpz.keep instV_stays (fun k hk => hB9.block k (Nat.lt_of_lt_of_le hk hwo)) (fun _ h => h)) (And.intro (hiz.keep instV_stays (fun k hk => hB9.block k (Nat.lt_of_lt_of_le hk hwo)) (fun _ h => h)) (And.intro (grownTr hg (grownOf hB9 b6)) (And.intro k9 (And.intro hb69 (Nat.le_trans hwo hB9.size))))))
      have HX := Lib.hid (And.intro hy (And.intro hP (And.intro hJ (And.intro hcnt hin))))
      have HW9 := Lib.hid (And.intro hW9 hb9)
      have d0 : decide (i < n) = true := by simpa using hin
      have d1 : (0 : Int) ≤ (i : Int) := by omega
      have d2 : (i : Int) < (n : Int) := by omega
      have d3 : (i : Int) ≤ 1000000 := by omega
      clear hT hk6 hg hbz gl cw hpz hiz hy hP hJ hyy hcnt hin hi hW9 hb9 hB9 k9 hb69 hwo hsb
      go_upto_region 5 with (fail)
      rw [← HW9.out.2]
      change Code.wp _ _ _ _ (Wo.alloc (.cells #[.slice pa' PL pc, .slice ia J ic, U8 fin, I arg, I tt, I els] 40))
      rw [← HW9.out.1]
      clear c0 c1 c2 c3 c4 c5
      go_wp2_with fail
      clear z0
      go_loopw [7, 26] (fun nv kv W => Md2 b6 f i y v W9 nv kv W) (fun _ kv _ => PL - (intOf kv).toNat)
      case atStart => exact HS2.out
      case round =>
        obtain ⟨k, hk, rfl, s, pb, pa, rfl, hsb, hT, hk6, hg⟩ := hrel
        clear HS2
        obtain ⟨Wp, rfl⟩ : ∃ W : World, W = wr := ⟨_, rfl⟩
        by_cases hkP : k < PL
        · have kx : k < y.phis.length := by have := HX.out.2.1; omega
          obtain ⟨qb, _, e1, pl, cw, av, dv, rfl, haz, hdz⟩ := (slB_grown instV_stays H9.out.1 hg H9.out.2.2.2.2.2 (by have := HH.out.2.2.2.2.2.2; omega)).at k kx
          subst e1
          obtain ⟨aa, ac, hav⟩ := haz.size
          obtain ⟨da, dc, hdv⟩ := hdz.size
          obtain ⟨x, hx⟩ : ∃ y', y' = y.phis[k] := ⟨_, rfl⟩
          rw [← hx] at cw hav hdv
          obtain ⟨A, hA⟩ : ∃ A, A = x.args.length := ⟨_, rfl⟩
          obtain ⟨D, hD⟩ : ∃ A, A = x.dbg.length := ⟨_, rfl⟩
          subst hav hdv
          obtain ⟨op, dst, imm, site, hyy⟩ : ∃ op dst imm site, x.op = op ∧ x.dst = dst ∧ x.imm = imm ∧ x.site = site := ⟨_, _, _, _, rfl, rfl, rfl, rfl⟩
          rw [hyy.1, hyy.2.1, hyy.2.2.1, hyy.2.2.2, ← hA, ← hD] at cw
          have c0 := cw.f0
          have c1 := cw.f1
          have c2 := cw.f2
          have c3 := cw.f3
          have c4 := cw.f4
          have c5 := cw.f5
          obtain ⟨W11, hW11⟩ : ∃ W, W = Wp.alloc (.cells #[U8 op, I dst, .slice aa A ac, I imm, I site, .slice da D dc] 44) := ⟨_, rfl⟩
          obtain ⟨b11, hb11⟩ : ∃ b, b = Wp.heap.size := ⟨_, rfl⟩
          have hB11 : Below Wp.heap.size Wp W11 := by rw [hW11]; exact (Below.refl _ _).alloc (Nat.le_refl _) _
          have k11 : Blk b11 #[U8 op, I dst, .slice aa A ac, I imm, I site, .slice da D dc] 44 W11 := by rw [hW11, hb11]; exact Blk.new _ _ _
          have z1 := k11.get 1 (I dst) rfl
          have hg11 := grownTr hg (grownOf hB11 b6)
          have k611 := hk6.below hB11 hk6.lt
          have y0 := (H9.out.2.2.2.1.other hg11 (by simp; exact H9.out.2.2.2.2.1)).get 0 _ rfl
          have f0 := k611.free 0
          have f1 := k611.free 1
          have q0 := k611.get 0 (I pb) rfl
          have q1 := k611.get 1 (I pa) rfl
          have hrow := rowM_succ (gPh y) (i : Int) y.phis kx
          rw [← hx, hyy.2.1] at hrow
          have hgp : gPh y k = (k : Int) - (PL : Int) := by unfold gPh; rw [← HX.out.2.1]
          rw [hgp] at hrow
          have HHIT := Lib.hid (show dst = v → Md2 b6 f i y v W9 (I ((s : Int) + 1)) (I ((k : Int) + 1)) ((W11.setCell ⟨b6, 0, none⟩ (I (i : Int))).setCell ⟨b6, 1, none⟩ (I ((k : Int) - (PL : Int)))) from fun hv => ⟨k + 1, kx, rfl, s + 1, (i : Int), (k : Int) - (PL : Int), rfl, by omega, by
            rw [hrow, ← List.append_assoc, hv]
            exact hT.hit, by
            have h9 := (k611.set 0 (I (i : Int))).set 1 (I ((k : Int) - (PL : Int)))
            simpa using h9, grownTr hg11 (grown_two _ _ _ _)⟩)
          have HMISS := Lib.hid (show dst ≠ v → Md2 b6 f i y v W9 (I (s : Int)) (I ((k : Int) + 1)) W11 from fun hv => ⟨k + 1, kx, rfl, s, pb, pa, rfl, by omega, by
            rw [hrow, ← List.append_assoc]
            exact hT.miss hv, k611, hg11⟩)
          have HK := Lib.hid hkP
          have HW11 := Lib.hid (And.intro hW11 hb11)
          have e0 : decide (k < PL) = true := by simpa using hkP
          have e1 : (0 : Int) ≤ (k : Int) := by omega
          have e2 : (k : Int) < (PL : Int) := by omega
          have hsb' : (s : Int) ≤ 1000000 := by have := HX.out.2.2.2.1; omega
          clear hT hk6 hg pl cw haz hdz hx hA hD hyy hW11 hb11 hB11 k11 hg11 k611 hrow hgp hsb hkP hk
          go_upto_region 8 with (fail)
          rw [← HW11.out.2]
          change Code.wp _ _ _ _ (Wp.alloc (.cells #[U8 op, I dst, .slice aa A ac, I imm, I site, .slice da D dc] 44))
          rw [← HW11.out.1]
          clear c0 c1 c2 c3 c4 c5
          by_cases hdv : dst = v
          · have g1 : (dst == v) = true := by simpa using hdv
            have HF := Lib.hid (HHIT.out hdv)
            clear hdv
            go_wp2_with fail
            exact ⟨HF.out, by have := HK.out; simp [intOf]; omega⟩
          · have g1 : (dst == v) = false := by simpa using hdv
            have HF := Lib.hid (HMISS.out hdv)
            clear hdv
            go_wp2_with fail
            exact ⟨HF.out, by have := HK.out; simp [intOf]; omega⟩
        · have e0 : decide (k < PL) = false := by simpa using hkP
          have hkl : k = y.phis.length := by have := HX.out.2.1; omega
          subst hkl
          have HS3 := Lib.hid (show Md3 b6 f i y v W9 (I (s : Int)) (I 0) Wp from ⟨0, Nat.zero_le _, rfl, s, pb, pa, rfl, by omega, by rw [show rBl f i ++ rowM (gPh y) i y.phis y.phis.length ++ rowM gIn i y.insts 0 = rBl f i ++ rowM (gPh y) i y.phis y.phis.length by simp [rowM]]; exact hT, hk6, hg⟩)
          have y1 := (H9.out.2.2.2.1.other hg (by simp; exact H9.out.2.2.2.2.1)).get 1 (.slice ia J ic) rfl
          clear hT hk6 hg hsb hkP hk
          go_wp2_with fail
          clear y1
          go_loopw [7, 48] (fun nv kv W => Md3 b6 f i y v W9 nv kv W) (fun _ kv _ => J - (intOf kv).toNat)
          case atStart => exact HS3.out
          case round =>
            obtain ⟨k, hk, rfl, s, pb, pa, rfl, hsb, hT, hk6, hg⟩ := hrel
            clear HS3
            obtain ⟨Wp, rfl⟩ : ∃ W : World, W = wr := ⟨_, rfl⟩
            by_cases hkJ : k < J
            · have kx : k < y.insts.length := by have := HX.out.2.2.1; omega
              obtain ⟨qb, _, e1, pl, cw, av, dv, rfl, haz, hdz⟩ := (slB_grown instV_stays H9.out.2.1 hg H9.out.2.2.2.2.2 (by have := HH.out.2.2.2.2.2.2; omega)).at k kx
              subst e1
              obtain ⟨aa, ac, hav⟩ := haz.size
              obtain ⟨da, dc, hdv⟩ := hdz.size
              obtain ⟨x, hx⟩ : ∃ y', y' = y.insts[k] := ⟨_, rfl⟩
              rw [← hx] at cw hav hdv
              obtain ⟨A, hA⟩ : ∃ A, A = x.args.length := ⟨_, rfl⟩
              obtain ⟨D, hD⟩ : ∃ A, A = x.dbg.length := ⟨_, rfl⟩
              subst hav hdv
              obtain ⟨op, dst, imm, site, hyy⟩ : ∃ op dst imm site, x.op = op ∧ x.dst = dst ∧ x.imm = imm ∧ x.site = site := ⟨_, _, _, _, rfl, rfl, rfl, rfl⟩
              rw [hyy.1, hyy.2.1, hyy.2.2.1, hyy.2.2.2, ← hA, ← hD] at cw
              have c0 := cw.f0
              have c1 := cw.f1
              have c2 := cw.f2
              have c3 := cw.f3
              have c4 := cw.f4
              have c5 := cw.f5
              obtain ⟨W11, hW11⟩ : ∃ W, W = Wp.alloc (.cells #[U8 op, I dst, .slice aa A ac, I imm, I site, .slice da D dc] 44) := ⟨_, rfl⟩
              obtain ⟨b11, hb11⟩ : ∃ b, b = Wp.heap.size := ⟨_, rfl⟩
              have hB11 : Below Wp.heap.size Wp W11 := by rw [hW11]; exact (Below.refl _ _).alloc (Nat.le_refl _) _
              have k11 : Blk b11 #[U8 op, I dst, .slice aa A ac, I imm, I site, .slice da D dc] 44 W11 := by rw [hW11, hb11]; exact Blk.new _ _ _
              have z1 := k11.get 1 (I dst) rfl
              have hg11 := grownTr hg (grownOf hB11 b6)
              have k611 := hk6.below hB11 hk6.lt
              have f0 := k611.free 0
              have f1 := k611.free 1
              have q0 := k611.get 0 (I pb) rfl
              have q1 := k611.get 1 (I pa) rfl
              have hrow := rowM_succ gIn (i : Int) y.insts kx
              rw [← hx, hyy.2.1, show gIn k = (k : Int) from rfl] at hrow
              have hsb'' : s + 1 ≤ 900000 := by have := HX.out.2.2.2.1; have := HX.out.2.1; omega
              have HHIT := Lib.hid (show dst = v → Md3 b6 f i y v W9 (I ((s : Int) + 1)) (I ((k : Int) + 1)) ((W11.setCell ⟨b6, 0, none⟩ (I (i : Int))).setCell ⟨b6, 1, none⟩ (I (k : Int))) from fun hv => ⟨k + 1, kx, rfl, s + 1, (i : Int), (k : Int), rfl, by omega, by
                rw [hrow, ← List.append_assoc, hv]
                exact hT.hit, by
                have h9 := (k611.set 0 (I (i : Int))).set 1 (I (k : Int))
                simpa using h9, grownTr hg11 (grown_two _ _ _ _)⟩)
              have HMISS := Lib.hid (show dst ≠ v → Md3 b6 f i y v W9 (I (s : Int)) (I ((k : Int) + 1)) W11 from fun hv => ⟨k + 1, kx, rfl, s, pb, pa, rfl, by omega, by
                rw [hrow, ← List.append_assoc]
                exact hT.miss hv, k611, hg11⟩)
              have HK := Lib.hid hkJ
              have HW11 := Lib.hid (And.intro hW11 hb11)
              have e0 : decide (k < J) = true := by simpa using hkJ
              have e1 : (0 : Int) ≤ (k : Int) := by omega
              have e2 : (k : Int) < (J : Int) := by omega
              have hsb' : (s : Int) ≤ 900000 := by omega
              clear hT hk6 hg pl cw haz hdz hx hA hD hyy hW11 hb11 hB11 k11 hg11 k611 hrow hsb hkJ hk hsb''
              go_upto_region 14 with (fail)
              rw [← HW11.out.2]
              change Code.wp _ _ _ _ (Wp.alloc (.cells #[U8 op, I dst, .slice aa A ac, I imm, I site, .slice da D dc] 44))
              rw [← HW11.out.1]
              clear c0 c1 c2 c3 c4 c5
              by_cases hdv : dst = v
              · have g1 : (dst == v) = true := by simpa using hdv
                have HF := Lib.hid (HHIT.out hdv)
                clear hdv
                go_wp2_with fail
                exact ⟨HF.out, by have := HK.out; simp [intOf]; omega⟩
              · have g1 : (dst == v) = false := by simpa using hdv
                have HF := Lib.hid (HMISS.out hdv)
                clear hdv
                go_wp2_with fail
                exact ⟨HF.out, by have := HK.out; simp [intOf]; omega⟩
            · have e0 : decide (k < J) = false := by simpa using hkJ
              have hkl : k = y.insts.length := by have := HX.out.2.2.1; omega
              subst hkl
              have HNX := Lib.hid (show Md1 b6 f v W1 (I (s : Int)) (I ((i : Int) + 1)) Wp from ⟨i + 1, il, rfl, s, pb, pa, rfl, by rw [cB_succ f il, ← HX.out.1]; omega, by
                rw [rBl_succ f il, ← HX.out.1]
                unfold rB
                rw [← List.append_assoc]
                exact hT, hk6, grownTr H9.out.2.2.1 hg⟩)
              have HI := Lib.hid HX.out.2.2.2.2
              clear hT hk6 hg hsb hkJ hk
              go_wp2_with fail
              exact ⟨HNX.out, by have := HI.out; simp [intOf]; omega⟩
    · have d0 : decide (i < n) = false := by simpa using hin
      have hil : i = f.blocks.length := by have := HH.out.2.1; omega
      subst hil
      have y0 := hk6.get 0 (I pb) rfl
      have y1 := hk6.get 1 (I pa) rfl
      have k4 := HH.out.2.2.2.2.1.other hg (by have := HH.out.2.2.2.2.2; simp; omega)
      have f40 := k4.free 0
      have f41 := k4.free 1
      have q0 := k4.get 0 (I 0) rfl
      have q1 := k4.get 1 (I 0) rfl
      have h4 := (k4.set 0 (I pb)).set 1 (I pa)
      have h4' : Blk b4 #[I pb, I pa] 75 ((Wo.setCell ⟨b4, 0, none⟩ (I pb)).setCell ⟨b4, 1, none⟩ (I pa)) := by simpa using h4
      have g0 := h4'.get 0 (I pb) rfl
      have g1 := h4'.get 1 (I pa) rfl
      have hbel : Below w.heap.size w ((Wo.setCell ⟨b4, 0, none⟩ (I pb)).setCell ⟨b4, 1, none⟩ (I pa)) := by
        have h1 : Below w.heap.size W1 Wo := grBel hg HH.out.2.2.2.1.size (by have := HH.out.2.2.2.2.2; omega)
        have h2 : Below w.heap.size Wo ((Wo.setCell ⟨b4, 0, none⟩ (I pb)).setCell ⟨b4, 1, none⟩ (I pa)) := grBel (grown_two Wo b4 (I pb) (I pa)) (Nat.le_trans HH.out.2.2.2.1.size hg.size) (by have := HH.out.2.2.2.2.2; omega)
        exact (HH.out.2.2.2.1.trans h1).trans h2
      have FIN := Lib.hid (show MadeT f v w (.returned (.tuple #[.agg #[I pb, I pa], I (s : Int)])) ((Wo.setCell ⟨b4, 0, none⟩ (I pb)).setCell ⟨b4, 1, none⟩ (I pa)) from ⟨s, pb, pa, rfl, by have := HH.out.2.2.1.cb; omega, hT, hbel⟩)
      have HG := Lib.hid (And.intro g0 g1)
      clear hT hk6 hg k4 h4 h4' hbel g0 g1 hin hi hsb
      go_wp2_with fail
      have g0 := HG.out.1
      have g1 := HG.out.2
      exact bodyPost_ret (v := .tuple #[.agg #[I pb, I pa], I (s : Int)]) (by simp [results, Try.results34, go_sem, g0, g1]) rfl FIN.out
end Go.Proofs.Ytjlmkcamefaodaa

/-! RMy: May a value be used at a place: the document's own answer, walked. -/

namespace Go.Proofs.Ytjlmkcamefaodaa
open Go Go.RowKit Go.Maps Go.Sort Cd Fl

/-- Who dominates whom, as the document's answer keeps it. -/
def DomK (bo : Nat) (f : FunP) (w : World) : Prop := bo < w.heap.size ∧ ∀ a, a < f.blocks.length → ∃ (r : Nat) (bs : List Bool), w.cell? ⟨bo, a, none⟩ = some (.slice (some ⟨r, 0, none⟩) f.blocks.length f.blocks.length) ∧ Blk r (arrB bs) 4 w ∧ bs.length = f.blocks.length ∧ ∀ b, b < f.blocks.length → (bs.getD b false = true ↔ DomG (gN f) a b)
theorem DomK.below {bo : Nat} {f : FunP} {w w' : World} (h : DomK bo f w) (hb : Below w.heap.size w w') : DomK bo f w' :=
  ⟨Nat.lt_of_lt_of_le h.1 hb.size, fun a ha => by
    obtain ⟨r, bs, h1, h2, h3, h4⟩ := h.2 a ha
    exact ⟨r, bs, cellA_below hb (a := ⟨bo, a, none⟩) h.1 h1, h2.below hb h2.lt, h3, h4⟩⟩
theorem rMk_blk {f : FunP} {p : Mk} (h : p ∈ rMk f) : ∃ j : Nat, j < f.blocks.length ∧ p.2.1 = (j : Int) := by
  have hrow : ∀ (g : Nat → Int) (i : Int) (l : List InstP) (k : Nat), p ∈ rowM g i l k → p.2.1 = i := fun g i l k hp => by
    induction k with
    | zero => simp [rowM] at hp
    | succ k ih =>
      have hp' : p ∈ rowM g i l k ++ (match l[k]? with | some x => [(x.dst, i, g k)] | none => []) := hp
      rcases List.mem_append.1 hp' with h | h
      · exact ih h
      · cases e : l[k]? with
        | none => rw [e] at h; simp at h
        | some x =>
          rw [e] at h
          have : p = (x.dst, i, g k) := by simpa using h
          rw [this]
  have key : ∀ k, k ≤ f.blocks.length → p ∈ rBl f k → ∃ j : Nat, j < f.blocks.length ∧ p.2.1 = (j : Int) := fun k hk h => by
    induction k with
    | zero => simp [rBl] at h
    | succ k ih =>
      rw [rBl_succ f hk] at h
      rcases List.mem_append.1 h with h | h
      · exact ih (by omega) h
      · refine ⟨k, hk, ?_⟩
        unfold rB at h
        rcases List.mem_append.1 h with h | h
        · exact hrow _ _ _ _ h
        · exact hrow _ _ _ _ h
  exact key _ (Nat.le_refl _) h

set_option maxRecDepth 100000 in
set_option maxHeartbeats 1600000 in
theorem may_any (f : FunP) (hf : SmF f) (ba : Option Addr) (n bc bo dc : Nat) (v : Int) (hb : Nat) (hbn : hb < n) (ha : Int) (w : World) (h : BlocksZ w (.slice ba n bc) f.blocks) (hd : DomK bo f w) :
    Calls Try.prog 35 #[.agg #[I f.params, I f.vars, I f.vals, .slice ba n bc], .slice (some ⟨bo, 0, none⟩) n dc, I v, .agg #[I (hb : Int), I ha]] w fun e w' => TellB (RMay f v hb ha) w e w' := by
  have hn : n = f.blocks.length := by
    obtain ⟨a', c', e, _⟩ := h
    injection e
  have hn1 : 1 ≤ n := by omega
  have hnb : (n : Int) ≤ 1000000 := by have := hf.bl; omega
  obtain ⟨W1, hW1⟩ : ∃ W, W = (w.alloc (.cells #[I f.params, I f.vars, I f.vals, .slice ba n bc] 36)).alloc (.cells #[I (hb : Int), I ha] 75) := ⟨_, rfl⟩
  have hB1 : Below w.heap.size w W1 := by rw [hW1]; exact ((Below.refl _ _).alloc (Nat.le_refl _) _).alloc (by simp) _
  have hC := Lib.hid (made_any f hf ba n bc v W1 (h.below blockV_stays hB1))
  obtain ⟨pr, vr, vl, hpp⟩ : ∃ a b d, f.params = a ∧ f.vars = b ∧ f.vals = d := ⟨_, _, _, rfl, rfl, rfl⟩
  rw [hpp.1, hpp.2.1, hpp.2.2] at hC hW1
  rw [hpp.1, hpp.2.1, hpp.2.2]
  obtain ⟨b4, hb4⟩ : ∃ b, b = w.heap.size := ⟨_, rfl⟩
  obtain ⟨b7, hb7⟩ : ∃ b, b = w.heap.size + 1 := ⟨_, rfl⟩
  have k4 : Blk b4 #[I pr, I vr, I vl, .slice ba n bc] 36 W1 := by rw [hW1, hb4]; exact (Blk.new _ _ _).alloc _
  have k7 : Blk b7 #[I (hb : Int), I ha] 75 W1 := by rw [hW1, hb7]; exact Blk.new' _ _ _ (by simp)
  have x0 := k4.get 0 (I pr) rfl
  have x1 := k4.get 1 (I vr) rfl
  have x2 := k4.get 2 (I vl) rfl
  have x3 := k4.get 3 (.slice ba n bc) rfl
  have hRM : Hid (RMay f v hb ha ↔ (0 ≤ v ∧ v < vl) ∧ cnt (rMk f) v = 1 ∧ ∃ pb pa, (v, pb, pa) ∈ rMk f ∧ ((pb = (hb : Int) ∧ pa < ha) ∨ (pb ≠ (hb : Int) ∧ DomG (gN f) pb.toNat ((hb : Int)).toNat))) := by
    unfold Hid RMay
    rw [hpp.2.2]
  have FIN := Lib.hid (show ∀ (r : Bool), (r = true ↔ RMay f v hb ha) → ∀ w', Below W1.heap.size W1 w' → TellB (RMay f v hb ha) w (.returned (.bool r)) w' from fun r hr w' hb2 => ⟨r, rfl, hr, below_tr hB1 hb2⟩)
  have HNO := Lib.hid (show ¬ RMay f v hb ha → ∀ w', Below W1.heap.size W1 w' → TellB (RMay f v hb ha) w (.returned (.bool false)) w' from fun hno w' hw => FIN.out false (by simp only [Bool.false_eq_true, false_iff]; exact hno) w' hw)
  have HH := Lib.hid (And.intro hn (And.intro hB1 (And.intro k7 (And.intro (hd.below hB1) hbn))))
  have HW1 := Lib.hid (And.intro hW1 (And.intro hb4 hb7))
  clear h hd hf hpp hn hW1 hb4 hb7 hB1 k4 k7 hbn
  go_enter Try.func35, Try.ntmps35
  go_upto_region 1 with (fail)
  rw [← HW1.out.2.2, ← HW1.out.2.1]
  change Code.wp _ _ _ _ ((w.alloc (.cells #[I pr, I vr, I vl, .slice ba n bc] 36)).alloc (.cells #[I (hb : Int), I ha] 75))
  rw [← HW1.out.1]
  by_cases v0 : v < 0
  · have g0 : decide (v < 0) = true := decide_eq_true v0
    have HF := Lib.hid (HNO.out (fun h => by have := (hRM.out.1 h).1; omega) W1 (Below.refl _ _))
    clear v0
    go_wp2_with fail
    go_ret
    exact HF.out
  have g0 : decide (v < 0) = false := decide_eq_false v0
  by_cases v1 : vl ≤ v
  · have g1 : decide (vl ≤ v) = true := decide_eq_true v1
    have HF := Lib.hid (HNO.out (fun h => by have := (hRM.out.1 h).1; omega) W1 (Below.refl _ _))
    clear v0 v1
    go_wp2_with fail
    go_ret
    exact HF.out
  have g1 : decide (vl ≤ v) = false := decide_eq_false v1
  have HV := Lib.hid (And.intro v0 v1)
  clear v0 v1
  go_wp2_with fail
  refine hC.out.mono ?_
  rintro e w2 ⟨s, pb, pa, rfl, hsb, hT, hb2⟩
  obtain ⟨W3, hW3⟩ : ∃ W, W = w2.alloc (.cells #[I pb, I pa] 75) := ⟨_, rfl⟩
  obtain ⟨b9, hb9⟩ : ∃ b, b = w2.heap.size := ⟨_, rfl⟩
  have hB3 : Below w2.heap.size w2 W3 := by rw [hW3]; exact (Below.refl _ _).alloc (Nat.le_refl _) _
  have k9 : Blk b9 #[I pb, I pa] 75 W3 := by rw [hW3, hb9]; exact Blk.new _ _ _
  have hB13 := below_tr hb2 hB3
  have k7 := HH.out.2.2.1.below hB13 HH.out.2.2.1.lt
  have y0 := k9.get 0 (I pb) rfl
  have y1 := k9.get 1 (I pa) rfl
  have z0 := k7.get 0 (I (hb : Int)) rfl
  have z1 := k7.get 1 (I ha) rfl
  have HW3 := Lib.hid (And.intro hW3 hb9)
  have H3 := Lib.hid (And.intro hB13 (And.intro hT (HH.out.2.2.2.1.below hB13)))
  have hsi : (s : Int) ≤ 1000000 := by omega
  clear x0 x1 x2 x3 hb2 hT hsb hW3 hb9 hB3 k9 hB13 k7
  go_upto_region 4 with (fail)
  rw [← HW3.out.2]
  change Code.wp _ _ _ _ (w2.alloc (.cells #[I pb, I pa] 75))
  rw [← HW3.out.1]
  by_cases hs1 : s = 1
  · have g2 : ((s : Int) != 1) = false := by simp; omega
    have hc1 : cnt (rMk f) v = 1 := by rw [← H3.out.2.1.1]; exact hs1
    have hmem := H3.out.2.1.2 (by omega)
    obtain ⟨j, hj, hpj⟩ := rMk_blk hmem
    have hpj' : pb = (j : Int) := hpj
    have hiff : RMay f v hb ha ↔ ((j : Int) = (hb : Int) ∧ pa < ha) ∨ ((j : Int) ≠ (hb : Int) ∧ DomG (gN f) j hb) := by
      rw [hRM.out]
      constructor
      · rintro ⟨_, _, pb', pa', hm, h3⟩
        have := cnt_uniq hc1 hm hmem
        cases this
        rw [hpj'] at h3
        simpa using h3
      · intro h3
        exact ⟨by have := HV.out; omega, hc1, pb, pa, hmem, by rw [hpj']; simpa using h3⟩
    have HI := Lib.hid hiff
    clear hs1 hc1 hmem hpj hiff
    subst hpj'
    by_cases q : j = hb
    · have g3 : ((j : Int) == (hb : Int)) = true := by simp; omega
      by_cases q2 : pa < ha
      · have g4 : decide (pa < ha) = true := decide_eq_true q2
        have HF := Lib.hid (FIN.out true (by simp only [true_iff]; exact HI.out.2 (Or.inl ⟨by omega, q2⟩)) W3 H3.out.1)
        clear q q2
        go_wp2_with fail
        go_ret
        exact HF.out
      · have g4 : decide (pa < ha) = false := decide_eq_false q2
        have HF := Lib.hid (HNO.out (fun h => by rcases HI.out.1 h with h | h <;> omega) W3 H3.out.1)
        clear q q2
        go_wp2_with fail
        go_ret
        exact HF.out
    · have g3 : ((j : Int) == (hb : Int)) = false := by simp; omega
      obtain ⟨hbo, hrow⟩ := H3.out.2.2
      obtain ⟨r, bs, c0, kr, lr, hdm⟩ := hrow j hj
      have hbl : hb < f.blocks.length := by rw [← HH.out.1]; exact HH.out.2.2.2.2
      obtain ⟨A, hA⟩ : ∃ A, A = bs.getD hb false := ⟨_, rfl⟩
      have c1 := kr.get hb (.bool A) (by rw [hA]; exact arrB_getD bs hb false (by rw [lr]; exact hbl))
      rw [← HH.out.1] at c0
      have HF := Lib.hid (fun nq => FIN.out A (by
        rw [hA, hdm hb hbl, HI.out]
        constructor
        · exact fun h => Or.inr ⟨by omega, h⟩
        · rintro (h | h)
          · omega
          · exact h.2) (W3.drewN nq) (below_drewN H3.out.1 nq))
      have e1 : (0 : Int) ≤ (j : Int) := by omega
      have e2 : (j : Int) < (n : Int) := by have := HH.out.1; omega
      have e3 : (0 : Int) ≤ (hb : Int) := by omega
      have e4 : (hb : Int) < (n : Int) := by have := HH.out.1; omega
      clear q hA hdm lr kr hrow hj hbl
      go_upto_region 8 with (fail)
      go_quiet (fail)
      go_wp2_with fail
      go_ret
      exact HF.out _
  · have g2 : ((s : Int) != 1) = true := by simp; omega
    have HF := Lib.hid (HNO.out (fun h => hs1 (by rw [H3.out.2.1.1]; exact (hRM.out.1 h).2.1)) W3 H3.out.1)
    clear hs1
    go_wp2_with fail
    go_ret
    exact HF.out
end Go.Proofs.Ytjlmkcamefaodaa
