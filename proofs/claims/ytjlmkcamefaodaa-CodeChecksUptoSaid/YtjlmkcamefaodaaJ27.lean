/-
  Joined: KW.
-/
import Derived.Test.YtjlmkcamefaodaaJ26
/-! KW: Is each value made wherever it is used: a function. -/

namespace Go.Proofs.Ytjlmkcamefaodaa
open Go Go.RowKit Go.Maps Go.Sort Cd

def U1 (w : World) (f : FunP) (iv : Value) (W : World) : Prop := ∃ i : Nat, i ≤ f.blocks.length ∧ iv = I (i : Int) ∧ (∀ j (h : j < f.blocks.length), j < i → BlockUse f (mks f) j f.blocks[j]) ∧ Below w.heap.size w W
def U2 (w : World) (f : FunP) (i : Nat) (b : BlockP) (kv : Value) (W : World) : Prop := ∃ k : Nat, k ≤ b.phis.length ∧ kv = I (k : Int) ∧ (∀ j (h : j < b.phis.length), j < k → PhiUse f (mks f) i b.phis[j]) ∧ Below w.heap.size w W
def U3 (w : World) (f : FunP) (i : Nat) (b : BlockP) (kv : Value) (W : World) : Prop := ∃ k : Nat, k ≤ b.insts.length ∧ kv = I (k : Int) ∧ (∀ j (h : j < b.insts.length), j < k → InUse f (mks f) i j b.insts[j]) ∧ Below w.heap.size w W
theorem intoN_lt {f : FunP} {i j : Nat} (h : j ∈ intoN f i) : j < f.blocks.length := by
  have := (Fl.mem_rowSt.1 h).1
  rwa [gN_len] at this

set_option maxRecDepth 100000 in
set_option maxHeartbeats 3200000 in
theorem hasUses_any {B bk bm bl cc p z cnt : Nat} {bv fv sv : Value} {c : CodeP} {f : FunP} {P : List Int} {S : List Nat} (hf : SmF f) (hs : ShapesOk c f) (w : World) (h : CkU B bk bm bl cc p z cnt bv fv sv c f P S w) :
    Calls Try.prog 28 #[.pointer (some ⟨bk, 0, none⟩)] w fun e w' => TellB (UsesOk f) w e w' := by
  obtain ⟨ba, bc, rfl⟩ := h.ck.fb.size
  obtain ⟨n, hn⟩ : ∃ n, n = f.blocks.length := ⟨_, rfl⟩
  have c3 := h.ck.ck.get 3 (.slice ba f.blocks.length bc) rfl
  rw [← hn] at c3
  have hnb : (n : Int) ≤ 1000000 := by have := hf.bl; omega
  have HST := Lib.hid (show U1 w f (I 0) w from ⟨0, Nat.zero_le _, rfl, fun j _ h => absurd h (by omega), Below.refl _ _⟩)
  have HH := Lib.hid (And.intro h (And.intro hf (And.intro hs hn)))
  clear h hf hs hn
  go_enter Try.func28, Try.ntmps28
  go_wp2_with fail
  clear c3
  go_loopw [15] (fun iv W => U1 w f iv W) (fun iv _ => n - (intOf iv).toNat)
  case atStart => exact HST.out
  case round =>
    obtain ⟨i, hi, rfl, hbs, hb0⟩ := hrel
    clear HST
    by_cases hin : i < n
    · have il : i < f.blocks.length := by have := HH.out.2.2.2; omega
      have hU := HH.out.1.below hb0
      obtain ⟨g1, _, e1, gl, cw, pv, iv, rfl, hpz, hiz⟩ := hU.ck.fb.at i il
      subst e1
      obtain ⟨pa, pc, hpv⟩ := hpz.size
      obtain ⟨ia, ic, hiv⟩ := hiz.size
      obtain ⟨x, hx⟩ : ∃ x, x = f.blocks[i] := ⟨_, rfl⟩
      rw [← hx] at cw hpz hiz hpv hiv
      obtain ⟨PL, hP⟩ : ∃ P, P = x.phis.length := ⟨_, rfl⟩
      obtain ⟨J, hJ⟩ : ∃ J, J = x.insts.length := ⟨_, rfl⟩
      subst hpv hiv
      rw [← hP] at hpz
      rw [← hJ] at hiz
      have hcnt : cB f i + (PL + J) ≤ 900000 := by
        have h1 := cB_succ f il
        have h2 := cB_mono f (show i + 1 ≤ f.blocks.length from il)
        have h3 := HH.out.2.1.cb
        rw [← hx, ← hP, ← hJ] at h1
        omega
      have hPb : (PL : Int) ≤ 1000000 := by omega
      have hJb : (J : Int) ≤ 1000000 := by omega
      rw [← hP, ← hJ] at cw
      obtain ⟨fin, arg, tt, els, hyy⟩ : ∃ fin arg tt els, x.fin = fin ∧ x.arg = arg ∧ x.to = tt ∧ x.els = els := ⟨_, _, _, _, rfl, rfl, rfl, rfl⟩
      rw [hyy.1, hyy.2.1, hyy.2.2.1, hyy.2.2.2] at cw
      have x0 := cw.f0
      have x1 := cw.f1
      have x2 := cw.f2
      have x3 := cw.f3
      have x4 := cw.f4
      have x5 := cw.f5
      obtain ⟨W4, hW4⟩ : ∃ W, W = wr.alloc (.cells #[.slice pa PL pc, .slice ia J ic, U8 fin, I arg, I tt, I els] 40) := ⟨_, rfl⟩
      obtain ⟨b4, hb4⟩ : ∃ b, b = wr.heap.size := ⟨_, rfl⟩
      have hB4 : Below wr.heap.size wr W4 := by rw [hW4]; exact (Below.refl _ _).alloc (Nat.le_refl _) _
      have k4 : Blk b4 #[.slice pa PL pc, .slice ia J ic, U8 fin, I arg, I tt, I els] 40 W4 := by rw [hW4, hb4]; exact Blk.new _ _ _
      have y0 := k4.get 0 (.slice pa PL pc) rfl
      have hpz4 : SlS (LtW W4) 6 InstV W4 (.slice pa PL pc) x.phis := hpz.keep instV_stays (fun k hk => hB4.block k (Nat.lt_of_lt_of_le hk hU.ck.hB)) (fun k hk => Nat.lt_of_lt_of_le hk (Nat.le_trans hU.ck.hB hB4.size))
      have hiz4 : SlS (LtW W4) 6 InstV W4 (.slice ia J ic) x.insts := hiz.keep instV_stays (fun k hk => hB4.block k (Nat.lt_of_lt_of_le hk hU.ck.hB)) (fun k hk => Nat.lt_of_lt_of_le hk (Nat.le_trans hU.ck.hB hB4.size))
      have HS2 := Lib.hid (show U2 W4 f i x (I 0) W4 from ⟨0, Nat.zero_le _, rfl, fun j _ h => absurd h (by omega), Below.refl _ _⟩)
      have H4 := Lib.hid (And.intro (hU.below hB4) (And.intro (below_tr hb0 hB4) (And.intro k4 (And.intro hpz4 hiz4))))
      have HX := Lib.hid (And.intro hx (And.intro hP (And.intro hJ (And.intro hbs (And.intro hin hyy)))))
      have HW4 := Lib.hid (And.intro hW4 hb4)
      have HNB := Lib.hid (show ¬ BlockUse f (mks f) i x → ∀ W', Below W4.heap.size W4 W' → TellB (UsesOk f) w (.returned (.bool false)) W' from fun hno W' hW' => ⟨false, rfl, by
        simp only [Bool.false_eq_true, false_iff]
        intro h
        apply hno
        rw [hx]
        exact h i il, below_tr (below_tr hb0 hB4) hW'⟩)
      have d0 : decide (i < n) = true := by simpa using hin
      have d1 : (0 : Int) ≤ (i : Int) := by omega
      have d2 : (i : Int) < (n : Int) := by omega
      have d3 : (i : Int) ≤ 1000000 := by omega
      clear hbs hb0 gl cw hpz hiz hx hP hJ hcnt hyy hW4 hb4 hB4 k4 hU hpz4 hiz4 hin hi
      go_upto_region 4 with (fail)
      rw [← HW4.out.2]
      change Code.wp _ _ _ _ (wr.alloc (.cells #[.slice pa PL pc, .slice ia J ic, U8 fin, I arg, I tt, I els] 40))
      rw [← HW4.out.1]
      clear x0 x1 x2 x3 x4 x5
      go_wp2_with fail
      clear y0
      go_loopw [23] (fun kv W => U2 W4 f i x kv W) (fun kv _ => PL - (intOf kv).toNat)
      case atStart => exact HS2.out
      case round =>
        obtain ⟨k, hk, rfl, hps, hb0⟩ := hrel
        clear HS2
        by_cases hkP : k < PL
        · have kx : k < x.phis.length := by have := HX.out.2.1; omega
          obtain ⟨pb, _, e1, pl, cw, av, dv, rfl, haz, hdz⟩ := (H4.out.2.2.2.1.below instV_stays hb0).at k kx
          subst e1
          obtain ⟨aa, ac, hav⟩ := haz.size
          obtain ⟨da, dc, hdv⟩ := hdz.size
          have hsi : SmI x.phis[k] := by
            have h1 := HX.out.1
            subst h1
            exact (HH.out.2.1.ins i (by have := HX.out.2.2.2.2.1; have := HH.out.2.2.2; omega)).1 _ (List.getElem_mem kx)
          have hph : PhiOk f i x.phis[k] := by
            have h1 := HX.out.1
            subst h1
            exact (HH.out.2.2.1.1 i (by have := HX.out.2.2.2.2.1; have := HH.out.2.2.2; omega)).1 _ (List.getElem_mem kx)
          have ilb : i < f.blocks.length := by have := HX.out.2.2.2.2.1; have := HH.out.2.2.2; omega
          obtain ⟨y, hy⟩ : ∃ y, y = x.phis[k] := ⟨_, rfl⟩
          rw [← hy] at cw haz hdz hsi hav hdv hph
          obtain ⟨A, hA⟩ : ∃ A, A = y.args.length := ⟨_, rfl⟩
          obtain ⟨D, hD⟩ : ∃ A, A = y.dbg.length := ⟨_, rfl⟩
          subst hav hdv
          obtain ⟨op, dst, imm, site, hyy⟩ : ∃ op dst imm site, y.op = op ∧ y.dst = dst ∧ y.imm = imm ∧ y.site = site := ⟨_, _, _, _, rfl, rfl, rfl, rfl⟩
          rw [hyy.1, hyy.2.1, hyy.2.2.1, hyy.2.2.2, ← hA, ← hD] at cw
          have x0 := cw.f0
          have x1 := cw.f1
          have x2 := cw.f2
          have x3 := cw.f3
          have x4 := cw.f4
          have x5 := cw.f5
          obtain ⟨W6, hW6⟩ : ∃ W, W = wr.alloc (.cells #[U8 op, I dst, .slice aa A ac, I imm, I site, .slice da D dc] 44) := ⟨_, rfl⟩
          obtain ⟨b6, hb6⟩ : ∃ b, b = wr.heap.size := ⟨_, rfl⟩
          have hB6 : Below wr.heap.size wr W6 := by rw [hW6]; exact (Below.refl _ _).alloc (Nat.le_refl _) _
          have k6 : Blk b6 #[U8 op, I dst, .slice aa A ac, I imm, I site, .slice da D dc] 44 W6 := by rw [hW6, hb6]; exact Blk.new _ _ _
          have hB46 := below_tr hb0 hB6
          have hU6 := H4.out.1.below hB46
          have haz6 := haz.below intV_stays hB6
          obtain ⟨ra, rc, zr, hrow⟩ := hU6.it.row i ilb
          obtain ⟨m, hmm⟩ : ∃ m, m = (intoN f i).length := ⟨_, rfl⟩
          obtain ⟨r, hr⟩ : ∃ r : Bool, r = true ↔ PhiUse f (mks f) i y := by
            by_cases e : PhiUse f (mks f) i y
            · exact ⟨true, by simp [e]⟩
            · exact ⟨false, by simp [e]⟩
          have HC := Lib.hid (fun q : Regrown => tell_regrown (w := W6) hr (fun w' hb' => mayCome_any i ilb y hsi hph.2.2 (fun j hj => intoN_lt hj) (.slice aa y.args.length ac) ra rc w' (hU6.below hb') (haz6.below intV_stays hb') (fun j hj => by
            obtain ⟨g, e, _, g2, g3⟩ := hrow j hj
            exact ⟨g, e, Nat.lt_of_lt_of_le g2 hb'.size, cellA_below hb' (a := ⟨g, j, none⟩) g2 g3⟩)) q)
          rw [← hmm, ← hA] at HC
          have z7 := hU6.ck.ck.get 7 (.slice (some ⟨bl, 0, none⟩) f.blocks.length cc) rfl
          rw [← hmm] at zr
          have w2 : ∀ d os, (grow (redrawn W6 d) os).cell? ⟨b6, 2, none⟩ = some (.slice aa A ac) := fun d os => cell_regrown (k6.get 2 (.slice aa A ac) rfl) d os
          have w7 : ∀ d os, (grow (redrawn W6 d) os).cell? ⟨bk, 7, none⟩ = some (.slice (some ⟨bl, 0, none⟩) n cc) := fun d os => cell_regrown (by rw [HH.out.2.2.2]; exact z7) d os
          have w8 : ∀ d os, (grow (redrawn W6 d) os).cell? ⟨bl, i, none⟩ = some (.slice ra m rc) := fun d os => cell_regrown zr d os
          have HNO := Lib.hid (show ¬ PhiUse f (mks f) i y → ∀ W', Below W6.heap.size W6 W' → TellB (UsesOk f) w (.returned (.bool false)) W' from fun hno W' hW' => HNB.out (fun h => hno (by rw [hy]; exact h.1 _ (List.getElem_mem kx))) W' (below_tr hB46 hW'))
          have HNX := Lib.hid (show PhiUse f (mks f) i y → ∀ W', Below W6.heap.size W6 W' → U2 W4 f i x (I ((k : Int) + 1)) W' from fun hyes W' hW' => ⟨k + 1, kx, rfl, fun j hj hjk => by
            rcases Nat.lt_or_ge j k with h | h
            · exact hps j hj h
            · obtain rfl : j = k := by omega
              rw [← hy]; exact hyes, below_tr hB46 hW'⟩)
          have HK := Lib.hid hkP
          have HW6 := Lib.hid (And.intro hW6 hb6)
          have HR := Lib.hid hr
          have e0 : decide (k < PL) = true := by simpa using hkP
          have e1 : (0 : Int) ≤ (k : Int) := by omega
          have e2 : (k : Int) < (PL : Int) := by omega
          clear hps hb0 pl cw haz hdz hsi hph hA hD hyy hW6 hb6 hB6 k6 hB46 hU6 haz6 zr hrow hmm hr z7 hkP hk hy kx
          go_upto_region 7 with (fail)
          rw [← HW6.out.2]
          change Code.wp _ _ _ _ (wr.alloc (.cells #[U8 op, I dst, .slice aa A ac, I imm, I site, .slice da D dc] 44))
          rw [← HW6.out.1]
          clear x0 x1 x2 x3 x4 x5
          refine wp_region_quiet_below (by kernel_rfl) (by kernel_rfl) ?_
          cases r
          · repeat (go_big_quiet_step (first | with_reducible exact HC.out _))
            refine wpQuiet_nil ?_
            intro _ hw'
            obtain ⟨⟨dq, osq⟩, hw''⟩ := hw'
            subst hw''
            have HF := Lib.hid (HNO.out (fun h => absurd (HR.out.2 h) (by decide)) _ (below_regrown W6 dq osq))
            clear w2 w7 w8
            go_wp2_with fail
            go_ret
            exact HF.out
          · repeat (go_big_quiet_step (first | with_reducible exact HC.out _))
            refine wpQuiet_nil ?_
            intro _ hw'
            obtain ⟨⟨dq, osq⟩, hw''⟩ := hw'
            subst hw''
            have HF := Lib.hid (HNX.out (HR.out.1 rfl) _ (below_regrown W6 dq osq))
            clear w2 w7 w8
            go_wp2_with fail
            exact ⟨HF.out, by have := HK.out; simp [intOf]; omega⟩
        · have e0 : decide (k < PL) = false := by simpa using hkP
          have HPS := Lib.hid (show ∀ y ∈ x.phis, PhiUse f (mks f) i y from fun y hy => by
            obtain ⟨j, hj, rfl⟩ := List.getElem_of_mem hy
            exact hps j hj (by have := HX.out.2.1; omega))
          have HS3 := Lib.hid (show U3 W4 f i x (I 0) wr from ⟨0, Nat.zero_le _, rfl, fun j _ h => absurd h (by omega), hb0⟩)
          have y1 := (H4.out.2.2.1.below hb0 H4.out.2.2.1.lt).get 1 (.slice ia J ic) rfl
          clear hps hb0 hkP hk
          go_wp2_with fail
          clear y1
          go_loopw [43] (fun kv W => U3 W4 f i x kv W) (fun kv _ => J - (intOf kv).toNat)
          case atStart => exact HS3.out
          case round =>
            obtain ⟨k, hk, rfl, hps, hb0⟩ := hrel
            clear HS3
            by_cases hkJ : k < J
            · have kx : k < x.insts.length := by have := HX.out.2.2.1; omega
              obtain ⟨pb, _, e1, pl, cw, av, dv, rfl, haz, hdz⟩ := (H4.out.2.2.2.2.below instV_stays hb0).at k kx
              subst e1
              obtain ⟨aa, ac, hav⟩ := haz.size
              obtain ⟨da, dc, hdv⟩ := hdz.size
              have ilb : i < f.blocks.length := by have := HX.out.2.2.2.2.1; have := HH.out.2.2.2; omega
              have hsi : SmI x.insts[k] := by
                have h1 := HX.out.1
                subst h1
                exact (HH.out.2.1.ins i ilb).2.1 _ (List.getElem_mem kx)
              obtain ⟨y, hy⟩ : ∃ y, y = x.insts[k] := ⟨_, rfl⟩
              rw [← hy] at cw haz hdz hsi hav hdv
              obtain ⟨A, hA⟩ : ∃ A, A = y.args.length := ⟨_, rfl⟩
              obtain ⟨D, hD⟩ : ∃ A, A = y.dbg.length := ⟨_, rfl⟩
              subst hav hdv
              obtain ⟨op, dst, imm, site, hyy⟩ : ∃ op dst imm site, y.op = op ∧ y.dst = dst ∧ y.imm = imm ∧ y.site = site := ⟨_, _, _, _, rfl, rfl, rfl, rfl⟩
              obtain ⟨W6, hW6⟩ : ∃ W, W = wr.alloc (.cells #[U8 op, I dst, .slice aa A ac, I imm, I site, .slice da D dc] 44) := ⟨_, rfl⟩
              obtain ⟨b6, hb6⟩ : ∃ b, b = wr.heap.size := ⟨_, rfl⟩
              have hB6 : Below wr.heap.size wr W6 := by rw [hW6]; exact (Below.refl _ _).alloc (Nat.le_refl _) _
              have k6 : Blk b6 #[U8 op, I dst, .slice aa A ac, I imm, I site, .slice da D dc] 44 W6 := by rw [hW6, hb6]; exact Blk.new _ _ _
              have hB46 := below_tr hb0 hB6
              have HC : Hid (Calls Try.prog 50 #[.pointer (some ⟨bk, 0, none⟩), .agg #[U8 y.op, I y.dst, .slice aa y.args.length ac, I y.imm, I y.site, .slice da y.dbg.length dc], placeV (i : Int) (k : Int)] W6 fun e w' => TellB (InUse f (mks f) i k y) W6 e w') := Lib.hid (mayUse_any y hsi (.slice aa y.args.length ac) (.slice da y.dbg.length dc) i ilb (k : Int) W6 (H4.out.1.below hB46) (haz.below intV_stays hB6) (hdz.below dbgV_stays hB6))
              rw [hyy.1, hyy.2.1, hyy.2.2.1, hyy.2.2.2, ← hA, ← hD] at cw HC
              have x0 := cw.f0
              have x1 := cw.f1
              have x2 := cw.f2
              have x3 := cw.f3
              have x4 := cw.f4
              have x5 := cw.f5
              have z0 := k6.get 0 (U8 op) rfl
              have z1 := k6.get 1 (I dst) rfl
              have z2 := k6.get 2 (.slice aa A ac) rfl
              have z3 := k6.get 3 (I imm) rfl
              have z4 := k6.get 4 (I site) rfl
              have z5 := k6.get 5 (.slice da D dc) rfl
              have HNO := Lib.hid (show ¬ InUse f (mks f) i k y → ∀ W', Below W6.heap.size W6 W' → TellB (UsesOk f) w (.returned (.bool false)) W' from fun hno W' hW' => HNB.out (fun h => hno (by rw [hy]; exact h.2.1 k kx)) W' (below_tr hB46 hW'))
              have HNX := Lib.hid (show InUse f (mks f) i k y → ∀ W', Below W6.heap.size W6 W' → U3 W4 f i x (I ((k : Int) + 1)) W' from fun hyes W' hW' => ⟨k + 1, kx, rfl, fun j hj hjk => by
                rcases Nat.lt_or_ge j k with h | h
                · exact hps j hj h
                · obtain rfl : j = k := by omega
                  rw [← hy]; exact hyes, below_tr hB46 hW'⟩)
              have HK := Lib.hid hkJ
              have HW6 := Lib.hid (And.intro hW6 hb6)
              have e0 : decide (k < J) = true := by simpa using hkJ
              have e1 : (0 : Int) ≤ (k : Int) := by omega
              have e2 : (k : Int) < (J : Int) := by omega
              clear hps hb0 pl cw haz hdz hsi hA hD hyy hW6 hb6 hB6 k6 hB46 hkJ hk hy kx
              go_upto_region 13 with (fail)
              rw [← HW6.out.2]
              change Code.wp _ _ _ _ (wr.alloc (.cells #[U8 op, I dst, .slice aa A ac, I imm, I site, .slice da D dc] 44))
              rw [← HW6.out.1]
              clear x0 x1 x2 x3 x4 x5
              go_wp2_with fail
              refine HC.out.mono ?_
              rintro e w9 ⟨r, rfl, hr, hb9⟩
              cases r
              · have HF := Lib.hid (HNO.out (fun h => absurd (hr.2 h) (by decide)) w9 hb9)
                clear hr hb9 z0 z1 z2 z3 z4 z5
                go_wp2_with fail
                go_ret
                exact HF.out
              · have HF := Lib.hid (HNX.out (hr.1 rfl) w9 hb9)
                clear hr hb9 z0 z1 z2 z3 z4 z5
                go_wp2_with fail
                exact ⟨HF.out, by have := HK.out; simp [intOf]; omega⟩
            · have e0 : decide (k < J) = false := by simpa using hkJ
              have HIS := Lib.hid (show ∀ j (h : j < x.insts.length), InUse f (mks f) i j x.insts[j] from fun j hj => hps j hj (by have := HX.out.2.2.1; omega))
              have ilb : i < f.blocks.length := by have := HX.out.2.2.2.2.1; have := HH.out.2.2.2; omega
              have hwa : i64ok arg := by
                have h1 := HX.out.1
                have h2 := HX.out.2.2.2.2.2.2.1
                subst h1
                rw [← h2]
                exact (HH.out.2.1.ins i ilb).2.2.2.2.2.1
              have k4 := H4.out.2.2.1.below hb0 H4.out.2.2.1.lt
              have y1 := k4.get 1 (.slice ia J ic) rfl
              have y2 := k4.get 2 (U8 fin) rfl
              have y3 := k4.get 3 (I arg) rfl
              have HC := Lib.hid (isMade_any arg hwa i ilb (J : Int) wr (H4.out.1.below hb0))
              have hEU : Hid (EndUse f (mks f) i x ↔ (fin = 2 ∨ fin = 3 → UseOk f (mks f) arg i J)) := by
                unfold Hid EndUse
                rw [HX.out.2.2.2.2.2.1, HX.out.2.2.2.2.2.2.1, HX.out.2.2.1]
              have HB0 := Lib.hid hb0
              have HNX := Lib.hid (show EndUse f (mks f) i x → ∀ W', Below wr.heap.size wr W' → U1 w f (I ((i : Int) + 1)) W' from fun he W' hW' => ⟨i + 1, ilb, rfl, fun j hj hji => by
                rcases Nat.lt_or_ge j i with h | h
                · exact HX.out.2.2.2.1 j hj h
                · obtain rfl : j = i := by omega
                  rw [← HX.out.1]
                  exact ⟨HPS.out, HIS.out, he⟩, below_tr (below_tr H4.out.2.1 hb0) hW'⟩)
              have HNO := Lib.hid (show ¬ EndUse f (mks f) i x → ∀ W', Below wr.heap.size wr W' → TellB (UsesOk f) w (.returned (.bool false)) W' from fun hno W' hW' => HNB.out (fun h => hno h.2.2) W' (below_tr hb0 hW'))
              have HI := Lib.hid HX.out.2.2.2.2.1
              clear hps hb0 hwa k4 hkJ hk ilb
              by_cases hfn : fin = 2 ∨ fin = 3
              · have hg : (fin == 2) = true ∨ ((fin == 2) = false ∧ (fin == 3) = true) := by
                  rcases hfn with rfl | rfl
                  · exact Or.inl rfl
                  · exact Or.inr ⟨rfl, rfl⟩
                have HFN := Lib.hid hfn
                clear hfn
                rcases hg with g1 | ⟨g1, g2⟩
                all_goals go_wp2_with fail
                all_goals refine HC.out.mono ?_
                all_goals rintro e w9 ⟨r, rfl, hr, hb9⟩
                all_goals cases r
                · have HF := Lib.hid (HNO.out (fun h => absurd (hr.2 (hEU.out.1 h HFN.out)) (by decide)) w9 hb9)
                  clear hr hb9 y1 y2 y3
                  go_wp2_with fail
                  go_ret
                  exact HF.out
                · have HF := Lib.hid (HNX.out (hEU.out.2 (fun _ => hr.1 rfl)) w9 hb9)
                  clear hr hb9 y1 y2 y3
                  go_wp2_with fail
                  exact ⟨HF.out, by have := HI.out; simp [intOf]; omega⟩
                · have HF := Lib.hid (HNO.out (fun h => absurd (hr.2 (hEU.out.1 h HFN.out)) (by decide)) w9 hb9)
                  clear hr hb9 y1 y2 y3
                  go_wp2_with fail
                  go_ret
                  exact HF.out
                · have HF := Lib.hid (HNX.out (hEU.out.2 (fun _ => hr.1 rfl)) w9 hb9)
                  clear hr hb9 y1 y2 y3
                  go_wp2_with fail
                  exact ⟨HF.out, by have := HI.out; simp [intOf]; omega⟩
              · have g1 : (fin == 2) = false := by simp; omega
                have g2 : (fin == 3) = false := by simp; omega
                have HF := Lib.hid (HNX.out (hEU.out.2 (fun h => absurd h hfn)) wr (Below.refl _ _))
                clear hfn
                go_wp2_with fail
                exact ⟨HF.out, by have := HI.out; simp [intOf]; omega⟩
    · have d0 : decide (i < n) = false := by simpa using hin
      have HF := Lib.hid (show TellB (UsesOk f) w (.returned (.bool true)) wr from ⟨true, rfl, by simp only [true_iff]; exact fun j hj => hbs j hj (by have := HH.out.2.2.2; omega), hb0⟩)
      clear hbs hb0 hin hi
      go_wp2_with fail
      go_ret
      exact HF.out
end Go.Proofs.Ytjlmkcamefaodaa
