/-
  Joined: KI.
-/
import Derived.Test.YtjlmkcamefaodaaJ15
/-! KI: Is an instruction of the form of its Op: the walk. -/

namespace Go.Proofs.Ytjlmkcamefaodaa
open Go Go.RowKit Go.Maps Go.Sort Cd

/-- What is asked of an instruction, and of what it makes. -/
def InsP (c : CodeP) (f : FunP) (L : List Mk) (b : Int) (x : InstP) : Prop := InstOk c f b x ∧ (x.dst = -1 ∨ (x.dst ∉ L.map (·.1) ∧ 0 ≤ x.dst ∧ x.dst ≤ f.vals - 1))
def InsT (bm n : Nat) (c : CodeP) (f : FunP) (L : List Mk) (b a : Int) (x : InstP) (w : World) (e : Ending) (w' : World) : Prop :=
  ∃ v, e = .returned (.bool v) ∧ (v = true ↔ InsP c f L b x) ∧ (v = true → MadeW bm (mapOf (L ++ mk1 b a x)) (n + 1) w') ∧ w.grownBy w' (some bm)
theorem siteOk_iff (c : CodeP) (f : FunP) (op : Nat) (dst imm site : Int) (args : List Int) (dbg : List DbgP) : ((op = 42 ∨ op = 39 ∨ trapsB op = true → 0 ≤ site ∧ site < (c.stops.length : Int)) ∧ (op = 42 ∨ op = 39 → KnownOk f.vars ((c.stops.getD site.toNat []).length : Int) dbg)) ↔ SiteOk c f ⟨op, dst, args, imm, site, dbg⟩ := by
  have e : Tells ⟨op, dst, args, imm, site, dbg⟩ ↔ op = 42 ∨ op = 39 := by
    show ((op : Int) = 42 ∨ (op : Int) = 39) ↔ _
    omega
  unfold SiteOk
  rw [e]
  show _ ↔ (((op = 42 ∨ op = 39) ∨ trapsB ((op : Int)).toNat = true → 0 ≤ site ∧ site < (c.stops.length : Int)) ∧ (op = 42 ∨ op = 39 → KnownOk f.vars ((c.stops.getD site.toNat []).length : Int) dbg))
  rw [Int.toNat_natCast, or_assoc]
/-- What is small of code. -/
structure SmC (c : CodeP) : Prop where
  fl : c.funs.length ≤ 1000000
  st : c.stops.length ≤ 1000000 ∧ ∀ i (h : i < c.stops.length), c.stops[i].length ≤ 1000000
structure SmI (x : InstP) : Prop where
  al : x.args.length ≤ 1000000
  dl : x.dbg.length ≤ 1000000
  wf : WfI x

set_option maxRecDepth 100000 in
set_option maxHeartbeats 3200000 in
theorem isInst_at (B bk bm n : Nat) (bv fv sv c7 c8 c9 : Value) (c : CodeP) (f : FunP) (hc : SmC c) (hsz : SizesOk f) (L : List Mk) (hn : n < 1000000) (op : Nat) (dst imm site : Int) (args : List Int) (dbg : List DbgP) (hx : SmI ⟨op, dst, args, imm, site, dbg⟩) (av dv : Value) (b a : Int) (w : World)
    (h : CkZ B bk bm bv fv sv c7 c8 c9 c f w) (hm : MadeW bm (mapOf L) n w) (ha : SlS (fun k => k < B) 1 IntV w av args) (hd : SlS (fun k => k < B) 6 DbgV w dv dbg) :
    Calls Try.prog 48 #[.pointer (some ⟨bk, 0, none⟩), .agg #[U8 (op : Int), I dst, av, I imm, I site, dv], placeV b a] w fun e w' => InsT bm n c f L b a ⟨op, dst, args, imm, site, dbg⟩ w e w' := by
  obtain ⟨aa, ac, rfl⟩ := ha.size
  obtain ⟨da, dc, rfl⟩ := hd.size
  obtain ⟨A, hA⟩ : ∃ A, A = args.length := ⟨_, rfl⟩
  obtain ⟨D, hD⟩ : ∃ A, A = dbg.length := ⟨_, rfl⟩
  obtain ⟨x, hxx⟩ : ∃ x : InstP, x = ⟨op, dst, args, imm, site, dbg⟩ := ⟨_, rfl⟩
  obtain ⟨W1, hW1⟩ : ∃ W, W = (w.alloc (.cells #[U8 (op : Int), I dst, .slice aa A ac, I imm, I site, .slice da D dc] 44)).alloc (.cells #[I b, I a] 91) := ⟨_, rfl⟩
  have hB1 : Below w.heap.size w W1 := by rw [hW1]; exact ((Below.refl _ _).alloc (Nat.le_refl _) _).alloc (by simp) _
  obtain ⟨b4, hb4⟩ : ∃ b, b = w.heap.size := ⟨_, rfl⟩
  obtain ⟨b5, hb5⟩ : ∃ b, b = w.heap.size + 1 := ⟨_, rfl⟩
  have k4 : Blk b4 #[U8 (op : Int), I dst, .slice aa A ac, I imm, I site, .slice da D dc] 44 W1 := by rw [hW1, hb4]; exact (Blk.new w _ _).alloc _
  have k5 : Blk b5 #[I b, I a] 91 W1 := by rw [hW1, hb5]; exact Blk.new' _ _ _ (by simp)
  have HW := Lib.hid (And.intro hW1 (And.intro hb4 hb5))
  have H := Lib.hid (And.intro h (And.intro hm (And.intro hd (And.intro hc (And.intro hx (And.intro hn hsz))))))
  have HK := Lib.hid (And.intro hB1 (And.intro k4 k5))
  have HX := Lib.hid (And.intro hxx (And.intro hA hD))
  have hAb : (A : Int) ≤ 1000000 := by have := hx.al; rw [hA]; simp at this; omega
  rw [← hxx, ← hA, ← hD]
  obtain ⟨a0, mkb, is, hsh⟩ : ∃ a0 mkb is, shapeF op = (a0, mkb, is) := ⟨_, _, _, rfl⟩
  have HS := Lib.hid hsh
  have x0 := k4.get 0 (U8 (op : Int)) rfl
  have x1 := k4.get 1 (I dst) rfl
  have x2 := k4.get 2 (.slice aa A ac) rfl
  have x3 := k4.get 3 (I imm) rfl
  have x4 := k4.get 4 (I site) rfl
  have x5 := k4.get 5 (.slice da D dc) rfl
  have y0 := k5.get 0 (I b) rfl
  have y1 := k5.get 1 (I a) rfl
  have HNO := Lib.hid (show ∀ w', Below W1.heap.size W1 w' → ¬ InstOk c f b x → InsT bm n c f L b a x w (.returned (.bool false)) w' from fun w' hb hno => ⟨false, rfl, by simp only [Bool.false_eq_true, false_iff]; exact fun h => hno h.1, fun h => absurd h (by decide), grownOf (below_tr hB1 hb) bm⟩)
  clear h hm ha hd hc hx hn hsz hxx hA hD hW1 hb4 hb5 hB1 k4 k5
  go_enter Try.func48, Try.ntmps48
  go_upto_region 1 with (fail)
  rw [← HW.out.2.2, ← HW.out.2.1]
  change Code.wp _ _ _ _ ((w.alloc (.cells #[U8 (op : Int), I dst, .slice aa A ac, I imm, I site, .slice da D dc] 44)).alloc (.cells #[I b, I a] 91))
  rw [← HW.out.1]
  have hSH := Lib.hid (shape_any op W1)
  rw [hsh] at hSH
  clear hsh
  cases is
  · have hno : ¬ InstOk c f b x := fun h => by
      have h1 := h.1.1
      rw [HX.out.1] at h1
      unfold shI at h1
      rw [Int.toNat_natCast, HS.out] at h1
      cases h1
    have HF := Lib.hid (HNO.out W1 (Below.refl _ _) hno)
    clear hno
    go_wp2_with (go_at_call 16; refine hSH.out.mono ?_; rintro e w' ⟨rfl, rfl⟩; unfold shapeV)
    go_ret
    exact HF.out
  · by_cases h45 : op = 45
    · have hno : ¬ InstOk c f b x := fun h => h.1.2.1 (by rw [HX.out.1, h45]; rfl)
      have HF := Lib.hid (HNO.out W1 (Below.refl _ _) hno)
      have g45 : ((op : Int) == 45) = true := by simp; omega
      clear hno h45
      go_wp2_with (go_at_call 16; refine hSH.out.mono ?_; rintro e w' ⟨rfl, rfl⟩; unfold shapeV)
      go_ret
      exact HF.out
    · have g45 : ((op : Int) == 45) = false := by simp; omega
      have HC := Lib.hid (hasImm_any B bk bm bv fv sv c7 c8 c9 c f x (.slice aa A ac) (.slice da D dc) b W1 (H.out.1.below HK.out.1))
      rw [HX.out.1] at HC
      have H45 := Lib.hid h45
      clear h45
      go_wp2_with (go_at_call 16; refine hSH.out.mono ?_; rintro e w' ⟨rfl, rfl⟩; unfold shapeV)
      refine HC.out.mono ?_
      rintro e w1 ⟨v, rfl, hv, hb1⟩
      rw [← HX.out.1] at hv
      have HI := Lib.hid (And.intro hv hb1)
      have k4 := HK.out.2.1.below hb1 HK.out.2.1.lt
      have k5 := HK.out.2.2.below hb1 HK.out.2.2.lt
      have H1 := Lib.hid (And.intro k4 k5)
      clear y0 y1 hv hb1 x0 x1 x2 x3 x4 x5
      have x0 := k4.get 0 (U8 (op : Int)) rfl
      have x1 := k4.get 1 (I dst) rfl
      have x2 := k4.get 2 (.slice aa A ac) rfl
      have x3 := k4.get 3 (I imm) rfl
      have x4 := k4.get 4 (I site) rfl
      have x5 := k4.get 5 (.slice da D dc) rfl
      clear k4 k5
      cases v
      · have HF := Lib.hid (HNO.out w1 HI.out.2 (fun h => absurd (HI.out.1.2 h.1.2.2.1) (by decide)))
        go_wp2_with fail
        go_ret
        exact HF.out
      · have hb1 := HI.out.2
        have hdd : DbgsZ w1 (.slice da dbg.length dc) dbg := (((H.out.2.2.1.keep dbgV_stays (fun k hk => HK.out.1.block k (Nat.lt_of_lt_of_le hk H.out.1.hB)) (fun _ h => h)).keep dbgV_stays (fun k hk => hb1.block k (Nat.lt_of_lt_of_le hk (Nat.le_trans H.out.1.hB HK.out.1.size))) (fun _ h => h)).keep dbgV_stays (fun _ _ => rfl) (fun k hk => Nat.lt_of_lt_of_le hk (Nat.le_trans H.out.1.hB (Nat.le_trans HK.out.1.size hb1.size))))
        rw [← HX.out.2.2] at hdd
        have HC2 := Lib.hid (hasSite_at B bk bm bv fv sv c7 c8 c9 c f H.out.2.2.2.1.st H.out.2.2.2.2.2.2.2.1 op dst imm site (.slice aa A ac) (.slice da D dc) dbg H.out.2.2.2.2.1.dl H.out.2.2.2.2.1.wf.2.2.2.2.2 w1 ((H.out.1.below HK.out.1).below hb1) hdd)
        clear hb1 hdd
        go_wp2_with fail
        refine HC2.out.mono ?_
        rintro e w2 ⟨v, rfl, hv, hb2⟩
        rw [siteOk_iff c f op dst imm site args dbg, ← HX.out.1] at hv
        have HI2 := Lib.hid (And.intro hv (below_tr HI.out.2 hb2))
        have k4 := H1.out.1.below hb2 H1.out.1.lt
        have k5 := H1.out.2.below hb2 H1.out.2.lt
        have H2 := Lib.hid (And.intro k4 k5)
        clear hv hb2 x0 x1 x2 x3 x4 x5
        have x0 := k4.get 0 (U8 (op : Int)) rfl
        have x1 := k4.get 1 (I dst) rfl
        have x2 := k4.get 2 (.slice aa A ac) rfl
        have x3 := k4.get 3 (I imm) rfl
        have y0 := k5.get 0 (I b) rfl
        have y1 := k5.get 1 (I a) rfl
        clear k4 k5
        cases v
        · have HF := Lib.hid (HNO.out w2 HI2.out.2 (fun h => absurd (HI2.out.1.2 h.1.2.2.2) (by decide)))
          clear y0 y1
          go_wp2_with fail
          go_ret
          exact HF.out
        · have hck := (H.out.1.below HK.out.1).below HI2.out.2
          have hmd := (H.out.2.1.kept' HK.out.1).kept' HI2.out.2
          have HE := Lib.hid (show (shI x.op).2.2 = true ∧ x.op ≠ 45 ∧ ImmOk c f b x ∧ SiteOk c f x from ⟨by rw [HX.out.1]; unfold shI; rw [Int.toNat_natCast, HS.out], by rw [HX.out.1]; show (op : Int) ≠ 45; have := H45.out; omega, HI.out.1.1 (by first | rfl | trivial), HI2.out.1.1 (by first | rfl | trivial)⟩)
          have HCM := Lib.hid (fun (W : World) (hW : Below w2.heap.size w2 W) => makes_any bk bm (I f.params) (I f.vars) bv fv sv (I c.main) c7 c8 c9 f.vals (mapOf L) n H.out.2.2.2.2.2.1 dst b a H.out.2.2.2.2.2.2.2.2.1 H.out.2.2.2.2.1.wf.2.1 W (hck.below hW).ck (hmd.kept' hW) H.out.1.lo.2.2)
          have HYES := Lib.hid (show ∀ (W : World), Below w2.heap.size w2 W → ∀ r : Bool, r = (!(mapOf L dst).isSome && decide (0 ≤ dst ∧ dst ≤ f.vals - 1)) → ∀ w3, Noted bk bm (I f.params) (I f.vars) (I f.vals) bv fv sv (I c.main) c7 c8 c9 (mapOf L) n dst b a W w3 → (x.args.length : Int) = argsN c x → makesB x = true → InsT bm n c f L b a x w (.returned (.bool r)) w3 from fun W hW r hr w3 hN h1 h2 => by
            have hdst : x.dst = dst := by rw [HX.out.1]
            have hiff : r = true ↔ dst ∉ L.map (·.1) ∧ 0 ≤ dst ∧ dst ≤ f.vals - 1 := by
              rw [hr, Bool.and_eq_true, decide_eq_true_eq, Bool.not_eq_true', ← mapOf_none, Option.isSome_eq_false_iff, Option.isNone_iff_eq_none]
            refine ⟨r, rfl, ?_, fun hrt => ?_, grownTr (grownOf (below_tr (below_tr HK.out.1 HI2.out.2) hW) bm) hN.2⟩
            · rw [hiff]
              unfold InsP
              rw [hdst]
              constructor
              · rintro ⟨q1, q2⟩
                exact ⟨⟨HE.out, h1, by rw [h2, hdst]; exact ⟨fun _ => by omega, fun _ => rfl⟩⟩, Or.inr ⟨q1, q2⟩⟩
              · rintro ⟨q1, q2⟩
                rcases q2 with q2 | q2
                · exact absurd q2 (by rw [← hdst]; exact q1.2.2.1 h2)
                · exact q2
            · have h3 := hiff.1 hrt
              have e : mapOf (L ++ mk1 b a x) = fun u => if u = dst then some (b, a) else mapOf L u := by
                unfold mk1
                rw [hdst, if_neg (by omega), mapOf_app]
              rw [e]
              exact hN.1)
          have HNM := Lib.hid (show ∀ (W : World), Below w2.heap.size w2 W → ∀ r : Bool, r = (dst == -1) → (x.args.length : Int) = argsN c x → makesB x = false → InsT bm n c f L b a x w (.returned (.bool r)) W from fun W hW r hr h1 h2 => by
            have hdst : x.dst = dst := by rw [HX.out.1]
            refine ⟨r, rfl, ?_, fun hrt => ?_, grownOf (below_tr (below_tr HK.out.1 HI2.out.2) hW) bm⟩
            · rw [hr]
              unfold InsP
              rw [hdst, beq_iff_eq]
              constructor
              · intro q
                exact ⟨⟨HE.out, h1, by rw [h2, hdst]; simp [q]⟩, Or.inl q⟩
              · rintro ⟨q1, _⟩
                have := q1.2.2
                rw [h2, hdst] at this
                simpa using this
            · rw [hr, beq_iff_eq] at hrt
              have e : mk1 b a x = [] := by unfold mk1; rw [hdst, if_pos hrt]
              rw [e, List.append_nil]
              exact (hmd.kept' hW).mono' (Nat.le_succ n))
          have HLN := Lib.hid (show ∀ (W : World), Below w2.heap.size w2 W → (x.args.length : Int) ≠ argsN c x → InsT bm n c f L b a x w (.returned (.bool false)) W from fun W hW hno => HNO.out W (below_tr HI2.out.2 hW) (fun h => hno h.2.1))
          have hal : x.args.length = A := by rw [HX.out.1, HX.out.2.1]
          rw [hal] at HYES HNM HLN
          clear hmd hal
          by_cases h39 : op = 39
          · have g39 : ((op : Int) == 39) = true := by simp; omega
            obtain ⟨q, hq⟩ : ∃ q : Nat, imm = (q : Int) := by
              have h1 := HE.out.2.2.1.2.2.1 (by rw [HX.out.1]; show (op : Int) = 39; omega)
              rw [HX.out.1] at h1
              exact ⟨imm.toNat, by have := h1.1; simp at this; omega⟩
            have hqF : q < c.funs.length := by
              have h1 := HE.out.2.2.1.2.2.1 (by rw [HX.out.1]; show (op : Int) = 39; omega)
              rw [HX.out.1] at h1
              have := h1.2
              simp at this
              omega
            obtain ⟨fa, fc, hfv⟩ := hck.ff.size
            subst hfv
            obtain ⟨F, hF⟩ : ∃ F, F = c.funs.length := ⟨_, rfl⟩
            obtain ⟨bb, _, hfa, hbB, cw, bv', rfl, hbl'⟩ := hck.ff.at q hqF
            subst hfa
            have cp := cw.f0
            obtain ⟨P, hP⟩ : ∃ P, P = c.funs[q].params := ⟨_, rfl⟩
            rw [← hP] at cp
            have z4 := hck.ck.get 4 (.slice (some bb) c.funs.length fc) rfl
            rw [← hF] at z4
            have d1 : (0 : Int) ≤ (q : Int) := by omega
            have d2 : (q : Int) < (F : Int) := by omega
            have harg : argsN c x = P := by
              rw [HX.out.1, hP]
              unfold argsN
              rw [if_pos (show (op : Int) = 39 by omega)]
              unfold paramsN
              simp only [hq, Int.toNat_natCast]
              rw [List.getElem?_eq_getElem hqF]
            have hmk : makesB x = (dst != -1) := by
              rw [HX.out.1]
              unfold makesB
              rw [if_pos (show (op : Int) = 39 by omega)]
            rw [harg, hmk] at HYES HNM
            rw [harg] at HLN
            subst hq
            clear hbl' hbB cw hP hF hck h39 harg hmk hqF
            by_cases hl : (A : Int) = P
            · have gl : ((A : Int) != P) = false := by simpa using hl
              have hl' := Lib.hid hl
              clear hl
              by_cases hdn : dst = -1
              · have gd : (dst != -1) = false := by simpa using hdn
                have gd2 : (dst == -1) = true := by simpa using hdn
                have HF := Lib.hid (fun nq => HNM.out (w2.drewN nq) (below_drewN (Below.refl _ _) nq) _ gd2.symm hl'.out gd)
                clear hdn
                go_upto_region 5 with (fail)
                go_quiet (fail)
                go_wp2_with fail
                go_ret
                exact HF.out _
              · have gd : (dst != -1) = true := by simpa using hdn
                have GD := Lib.hid gd
                clear hdn
                go_upto_region 5 with (fail)
                go_quiet (fail)
                go_wp2_with fail
                refine (HCM.out _ (below_drewN (Below.refl _ _) _)).mono ?_
                rintro e w3 ⟨rfl, hN⟩
                have HF := Lib.hid (HYES.out _ (below_drewN (Below.refl _ _) _) _ rfl w3 hN hl'.out (by first | exact GD.out | simpa using GD.out))
                clear hN
                obtain ⟨r, hr⟩ : ∃ r, r = (!(mapOf L dst).isSome && decide (0 ≤ dst ∧ dst ≤ f.vals - 1)) := ⟨_, rfl⟩
                rw [← hr] at HF ⊢
                clear hr
                go_wp2_with fail
                go_ret
                exact HF.out
            · have gl : ((A : Int) != P) = true := by simpa using hl
              have HF := Lib.hid (fun nq => HLN.out (w2.drewN nq) (below_drewN (Below.refl _ _) nq) hl)
              clear hl
              go_upto_region 5 with (fail)
              go_quiet (fail)
              go_wp2_with fail
              go_ret
              exact HF.out _
          · have g39 : ((op : Int) == 39) = false := by simp; omega
            have harg : argsN c x = a0 := by
              rw [HX.out.1]
              unfold argsN
              rw [if_neg (show ¬ (op : Int) = 39 by omega)]
              unfold shI
              rw [Int.toNat_natCast, HS.out]
            have hmk : makesB x = mkb := by
              rw [HX.out.1]
              unfold makesB
              rw [if_neg (show ¬ (op : Int) = 39 by omega)]
              unfold shI
              rw [Int.toNat_natCast, HS.out]
            rw [harg, hmk] at HYES HNM
            rw [harg] at HLN
            clear hck h39 harg hmk
            by_cases hl : (A : Int) = a0
            · have gl : ((A : Int) != a0) = false := by simpa using hl
              cases mkb
              · have HF := Lib.hid (HNM.out w2 (Below.refl _ _) _ rfl hl (by first | rfl | trivial))
                clear hl
                go_wp2_with fail
                go_ret
                exact HF.out
              · have hl' := Lib.hid hl
                clear hl
                go_wp2_with fail
                refine (HCM.out _ (Below.refl _ _)).mono ?_
                rintro e w3 ⟨rfl, hN⟩
                have HF := Lib.hid (HYES.out _ (Below.refl _ _) _ rfl w3 hN hl'.out (by first | rfl | trivial))
                clear hN
                obtain ⟨r, hr⟩ : ∃ r, r = (!(mapOf L dst).isSome && decide (0 ≤ dst ∧ dst ≤ f.vals - 1)) := ⟨_, rfl⟩
                rw [← hr] at HF ⊢
                clear hr
                go_wp2_with fail
                go_ret
                exact HF.out
            · have gl : ((A : Int) != a0) = true := by simpa using hl
              have HF := Lib.hid (HLN.out w2 (Below.refl _ _) hl)
              clear hl
              go_wp2_with fail
              go_ret
              exact HF.out
theorem isInst_any (B bk bm n : Nat) (bv fv sv c7 c8 c9 : Value) (c : CodeP) (f : FunP) (hc : SmC c) (hsz : SizesOk f) (L : List Mk) (hn : n < 1000000) (x : InstP) (hx : SmI x) (av dv : Value) (b a : Int) (w : World)
    (h : CkZ B bk bm bv fv sv c7 c8 c9 c f w) (hm : MadeW bm (mapOf L) n w) (ha : SlS (fun k => k < B) 1 IntV w av x.args) (hd : SlS (fun k => k < B) 6 DbgV w dv x.dbg) :
    Calls Try.prog 48 #[.pointer (some ⟨bk, 0, none⟩), instZ x av dv, placeV b a] w fun e w' => InsT bm n c f L b a x w e w' := by
  obtain ⟨op, dst, args, imm, site, dbg⟩ := x
  obtain ⟨m, rfl⟩ : ∃ m : Nat, op = (m : Int) := ⟨op.toNat, by have h1 : 0 ≤ op := hx.wf.1.1; omega⟩
  exact isInst_at B bk bm n bv fv sv c7 c8 c9 c f hc hsz L hn m dst imm site args dbg hx av dv b a w h hm ha hd
end Go.Proofs.Ytjlmkcamefaodaa
