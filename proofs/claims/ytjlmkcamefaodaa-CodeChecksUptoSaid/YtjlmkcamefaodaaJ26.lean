/-
  Joined: KV.
-/
import Derived.Test.YtjlmkcamefaodaaJ25
/-! KV: Is each value made wherever it is used: instructions and phis. -/

namespace Go.Proofs.Ytjlmkcamefaodaa
open Go Go.RowKit Go.Maps Go.Sort Cd

def MU1 (w : World) (f : FunP) (args : List Int) (b a : Int) (kv : Value) (W : World) : Prop := ∃ k : Nat, k ≤ args.length ∧ kv = I (k : Int) ∧ (∀ j (h : j < args.length), j < k → UseOk f (mks f) args[j] b a) ∧ Below w.heap.size w W
def MU2 (w : World) (f : FunP) (dbg : List DbgP) (b a : Int) (kv : Value) (W : World) : Prop := ∃ k : Nat, k ≤ dbg.length ∧ kv = I (k : Int) ∧ (∀ j (h : j < dbg.length), j < k → dbg[j].kind = 2 → UseOk f (mks f) dbg[j].arg b a) ∧ Below w.heap.size w W

set_option maxRecDepth 100000 in
set_option maxHeartbeats 1600000 in
theorem mayUse_any {B bk bm bl cc p z cnt : Nat} {bv fv sv : Value} {c : CodeP} {f : FunP} {P : List Int} {S : List Nat} (x : InstP) (hx : SmI x) (av dv : Value) (hb : Nat) (hbn : hb < f.blocks.length) (ha : Int) (w : World) (h : CkU B bk bm bl cc p z cnt bv fv sv c f P S w) (haz : IntsZ w av x.args) (hdz : DbgsZ w dv x.dbg) :
    Calls Try.prog 50 #[.pointer (some ⟨bk, 0, none⟩), instZ x av dv, placeV (hb : Int) ha] w fun e w' => TellB (InUse f (mks f) hb ha x) w e w' := by
  obtain ⟨aa, ac, hav⟩ := haz.size
  obtain ⟨da, dc, hdv⟩ := hdz.size
  obtain ⟨A, hA⟩ : ∃ A, A = x.args.length := ⟨_, rfl⟩
  obtain ⟨D, hD⟩ : ∃ A, A = x.dbg.length := ⟨_, rfl⟩
  subst hav hdv
  obtain ⟨op, dst, imm, site, hyy⟩ : ∃ op dst imm site, x.op = op ∧ x.dst = dst ∧ x.imm = imm ∧ x.site = site := ⟨_, _, _, _, rfl, rfl, rfl, rfl⟩
  have hAb : (A : Int) ≤ 1000000 := by have := hx.al; omega
  have hDb : (D : Int) ≤ 1000000 := by have := hx.dl; omega
  show Calls Try.prog 50 #[.pointer (some ⟨bk, 0, none⟩), .agg #[U8 x.op, I x.dst, .slice aa x.args.length ac, I x.imm, I x.site, .slice da x.dbg.length dc], placeV (hb : Int) ha] w fun e w' => TellB (InUse f (mks f) hb ha x) w e w'
  rw [hyy.1, hyy.2.1, hyy.2.2.1, hyy.2.2.2, ← hA, ← hD]
  rw [← hA] at haz
  rw [← hD] at hdz
  obtain ⟨W1, hW1⟩ : ∃ W, W = (w.alloc (.cells #[U8 op, I dst, .slice aa A ac, I imm, I site, .slice da D dc] 44)).alloc (.cells #[I (hb : Int), I ha] 91) := ⟨_, rfl⟩
  have hB1 : Below w.heap.size w W1 := by rw [hW1]; exact ((Below.refl _ _).alloc (Nat.le_refl _) _).alloc (by simp) _
  obtain ⟨b4, hb4⟩ : ∃ b, b = w.heap.size := ⟨_, rfl⟩
  obtain ⟨b5, hb5⟩ : ∃ b, b = w.heap.size + 1 := ⟨_, rfl⟩
  have k4 : Blk b4 #[U8 op, I dst, .slice aa A ac, I imm, I site, .slice da D dc] 44 W1 := by rw [hW1, hb4]; exact (Blk.new w _ _).alloc _
  have k5 : Blk b5 #[I (hb : Int), I ha] 91 W1 := by rw [hW1, hb5]; exact Blk.new' _ _ _ (by simp)
  have HW := Lib.hid (And.intro hW1 (And.intro hb4 hb5))
  have HH := Lib.hid (And.intro (h.below hB1) (And.intro (haz.below intV_stays hB1) (And.intro (hdz.below dbgV_stays hB1) (And.intro k4 (And.intro k5 (And.intro hx hbn))))))
  have HX := Lib.hid (And.intro hyy.1 (And.intro hA hD))
  have HST := Lib.hid (show MU1 W1 f x.args hb ha (I 0) W1 from ⟨0, Nat.zero_le _, rfl, fun j _ h => absurd h (by omega), Below.refl _ _⟩)
  have FIN := Lib.hid (show ∀ (r : Bool), (r = true ↔ InUse f (mks f) hb ha x) → ∀ w', Below W1.heap.size W1 w' → TellB (InUse f (mks f) hb ha x) w (.returned (.bool r)) w' from fun r hr w' hb2 => ⟨r, rfl, hr, below_tr hB1 hb2⟩)
  have x2 := k4.get 2 (.slice aa A ac) rfl
  clear h haz hdz hx hbn hA hD hyy hW1 hB1 hb4 hb5 k4 k5
  go_enter Try.func50, Try.ntmps50
  go_upto_region 1 with (fail)
  rw [← HW.out.2.2, ← HW.out.2.1]
  change Code.wp _ _ _ _ ((w.alloc (.cells #[U8 op, I dst, .slice aa A ac, I imm, I site, .slice da D dc] 44)).alloc (.cells #[I (hb : Int), I ha] 91))
  rw [← HW.out.1]
  go_wp2_with fail
  clear x2
  go_loopw [14] (fun kv W => MU1 W1 f x.args hb ha kv W) (fun kv _ => A - (intOf kv).toNat)
  case atStart => exact HST.out
  case round =>
    obtain ⟨k, hk, rfl, hus, hb1⟩ := hrel
    clear HST
    by_cases hkA : k < A
    · have kx : k < x.args.length := by have := HX.out.2.1; omega
      obtain ⟨pb, _, e1, pl, cw, rfl⟩ := (HH.out.2.1.below intV_stays hb1).at k kx
      subst e1
      obtain ⟨v, hv⟩ : ∃ v, v = x.args[k] := ⟨_, rfl⟩
      have c0 := cw.f0
      rw [← hv, Nat.mul_one] at c0
      have k5 := HH.out.2.2.2.2.1.below hb1 HH.out.2.2.2.2.1.lt
      have y0 := k5.get 0 (I (hb : Int)) rfl
      have y1 := k5.get 1 (I ha) rfl
      have HC := Lib.hid (isMade_any v (by rw [hv]; exact HH.out.2.2.2.2.2.1.wf.2.2.2.2.1 _ (List.getElem_mem kx)) hb HH.out.2.2.2.2.2.2 ha wr (HH.out.1.below hb1))
      have HK := Lib.hid (And.intro hus (And.intro hb1 hkA))
      have e0 : decide (k < A) = true := by simpa using hkA
      have e1 : (0 : Int) ≤ (k : Int) := by omega
      have e2 : (k : Int) < (A : Int) := by omega
      have HV := Lib.hid hv
      clear hus hb1 pl cw k5 hkA hk hv
      go_wp2_with fail
      refine HC.out.mono ?_
      rintro e w2 ⟨r, rfl, hr, hb2⟩
      cases r
      · have HF := Lib.hid (FIN.out false (by simp only [Bool.false_eq_true, false_iff]; exact fun h => absurd (hr.2 (by rw [HV.out]; exact h.1 _ (List.getElem_mem kx))) (by decide)) w2 (below_tr HK.out.2.1 hb2))
        clear hr hb2 c0 y0 y1
        go_wp2_with fail
        go_ret
        exact HF.out
      · have HF := Lib.hid (show MU1 W1 f x.args hb ha (I ((k : Int) + 1)) w2 from ⟨k + 1, kx, rfl, fun j hj hjk => by
          rcases Nat.lt_or_ge j k with h | h
          · exact HK.out.1 j hj h
          · obtain rfl : j = k := by omega
            have h1 := hr.1 rfl
            rwa [HV.out] at h1, below_tr HK.out.2.1 hb2⟩)
        clear hr hb2 c0 y0 y1
        go_wp2_with fail
        exact ⟨HF.out, by have := HK.out.2.2; simp [intOf]; omega⟩
    · have e0 : decide (k < A) = false := by simpa using hkA
      have k4 := HH.out.2.2.2.1.below hb1 HH.out.2.2.2.1.lt
      have z0 := k4.get 0 (U8 op) rfl
      have z5 := k4.get 5 (.slice da D dc) rfl
      have HAS := Lib.hid (show ∀ v ∈ x.args, UseOk f (mks f) v hb ha from fun v hv => by
        obtain ⟨j, hj, rfl⟩ := List.getElem_of_mem hv
        exact hus j hj (by have := HX.out.2.1; omega))
      have HB := Lib.hid hb1
      have HS2 := Lib.hid (show MU2 W1 f x.dbg hb ha (I 0) wr from ⟨0, Nat.zero_le _, rfl, fun j _ h => absurd h (by omega), hb1⟩)
      by_cases ht : op = 42 ∨ op = 39
      · have HT := Lib.hid (show Tells x by unfold Tells; rw [HX.out.1]; exact ht)
        have g1 : (op != 42) = false ∨ ((op != 42) = true ∧ (op != 39) = false) := by
          rcases ht with rfl | rfl
          · exact Or.inl rfl
          · exact Or.inr ⟨rfl, rfl⟩
        clear hus hb1 k4 hkA hk ht
        rcases g1 with g1 | ⟨g1, g2⟩
        all_goals go_wp2_with fail
        all_goals clear z0 z5
        all_goals go_loopw [35] (fun kv W => MU2 W1 f x.dbg hb ha kv W) (fun kv _ => D - (intOf kv).toNat)
        case atStart => exact HS2.out
        case round =>
          obtain ⟨k, hk, rfl, hus, hb1⟩ := hrel
          by_cases hkD : k < D
          · have kx : k < x.dbg.length := by have := HX.out.2.2; omega
            obtain ⟨pb, _, e1, pl, cw, rfl⟩ := (HH.out.2.2.1.below dbgV_stays hb1).at k kx
            subst e1
            obtain ⟨d, hd⟩ : ∃ d, d = x.dbg[k] := ⟨_, rfl⟩
            rw [← hd] at cw
            have c0 := cw.f0
            have c1 := cw.f1
            have c2 := cw.f2
            have c3 := cw.f3
            have c4 := cw.f4
            have c5 := cw.f5
            obtain ⟨dep, var, kind, arg, da', db', hdd⟩ : ∃ dep var kind arg da' db', d.dep = dep ∧ d.var = var ∧ d.kind = kind ∧ d.arg = arg ∧ d.a = da' ∧ d.b = db' := ⟨_, _, _, _, _, _, rfl, rfl, rfl, rfl, rfl, rfl⟩
            rw [hdd.1] at c0
            rw [hdd.2.1] at c1
            rw [hdd.2.2.1] at c2
            rw [hdd.2.2.2.1] at c3
            rw [hdd.2.2.2.2.1] at c4
            rw [hdd.2.2.2.2.2] at c5
            obtain ⟨W9, hW9⟩ : ∃ W, W = wr.alloc (.cells #[I dep, I var, U8 kind, I arg, I da', I db'] 57) := ⟨_, rfl⟩
            obtain ⟨b9, hb9⟩ : ∃ b, b = wr.heap.size := ⟨_, rfl⟩
            have hB9 : Below wr.heap.size wr W9 := by rw [hW9]; exact (Below.refl _ _).alloc (Nat.le_refl _) _
            have k9 : Blk b9 #[I dep, I var, U8 kind, I arg, I da', I db'] 57 W9 := by rw [hW9, hb9]; exact Blk.new _ _ _
            have hB19 := below_tr hb1 hB9
            have k5 := HH.out.2.2.2.2.1.below hB19 HH.out.2.2.2.2.1.lt
            have y0 := k5.get 0 (I (hb : Int)) rfl
            have y1 := k5.get 1 (I ha) rfl
            have z2 := k9.get 2 (U8 kind) rfl
            have z3 := k9.get 3 (I arg) rfl
            have HC := Lib.hid (isMade_any arg (by rw [← hdd.2.2.2.1, hd]; exact (HH.out.2.2.2.2.2.1.wf.2.2.2.2.2 _ (List.getElem_mem kx)).2.2.2) hb HH.out.2.2.2.2.2.2 ha W9 (HH.out.1.below hB19))
            have HK := Lib.hid (And.intro hus (And.intro hB19 (And.intro hkD (And.intro hd hdd))))
            have HW9 := Lib.hid (And.intro hW9 hb9)
            have HNX := Lib.hid (show ∀ W', Below W9.heap.size W9 W' → (kind = 2 → UseOk f (mks f) arg hb ha) → MU2 W1 f x.dbg hb ha (I ((k : Int) + 1)) W' from fun W' hW' hu => ⟨k + 1, kx, rfl, fun j hj hjk h2 => by
              rcases Nat.lt_or_ge j k with h | h
              · exact hus j hj h h2
              · obtain rfl : j = k := by omega
                rw [← hd] at h2 ⊢
                rw [hdd.2.2.1] at h2
                rw [hdd.2.2.2.1]
                exact hu h2, below_tr hB19 hW'⟩)
            have e0 : decide (k < D) = true := by simpa using hkD
            have e1 : (0 : Int) ≤ (k : Int) := by omega
            have e2 : (k : Int) < (D : Int) := by omega
            clear hus hb1 pl cw k5 hkD hk hd hdd hW9 hb9 hB9 k9 hB19
            go_upto_region 12 with (fail)
            rw [← HW9.out.2]
            change Code.wp _ _ _ _ (wr.alloc (.cells #[I dep, I var, U8 kind, I arg, I da', I db'] 57))
            rw [← HW9.out.1]
            clear c0 c1 c2 c3 c4 c5
            by_cases hk2 : kind = 2
            · have g3 : (kind == 2) = true := by simpa using hk2
              have HK2 := Lib.hid hk2
              clear hk2
              go_wp2_with fail
              refine HC.out.mono ?_
              rintro e w2 ⟨r, rfl, hr, hb2⟩
              cases r
              · have hno : ¬ InUse f (mks f) hb ha x := fun h => by
                  have h3 := h.2 HT.out x.dbg[k] (List.getElem_mem kx)
                  rw [← HK.out.2.2.2.1, HK.out.2.2.2.2.2.2.1, HK.out.2.2.2.2.2.2.2.1] at h3
                  exact absurd (hr.2 (h3 HK2.out)) (by decide)
                have HF := Lib.hid (FIN.out false (by simp only [Bool.false_eq_true, false_iff]; exact hno) w2 (below_tr HK.out.2.1 hb2))
                clear hno
                clear hr hb2 y0 y1 z2 z3
                go_wp2_with fail
                go_ret
                exact HF.out
              · have HF := Lib.hid (HNX.out w2 hb2 (fun _ => hr.1 rfl))
                clear hr hb2 y0 y1 z2 z3
                go_wp2_with fail
                exact ⟨HF.out, by have := HK.out.2.2.1; simp [intOf]; omega⟩
            · have g3 : (kind == 2) = false := by simpa using hk2
              have HF := Lib.hid (HNX.out W9 (Below.refl _ _) (fun h => absurd h hk2))
              clear hk2
              go_wp2_with fail
              exact ⟨HF.out, by have := HK.out.2.2.1; simp [intOf]; omega⟩
          · have e0 : decide (k < D) = false := by simpa using hkD
            have HF := Lib.hid (FIN.out true (by simp only [true_iff]; exact ⟨HAS.out, fun _ d hd => by
              obtain ⟨j, hj, rfl⟩ := List.getElem_of_mem hd
              exact hus j hj (by have := HX.out.2.2; omega)⟩) wr hb1)
            clear hus hb1 hkD hk
            go_wp2_with fail
            go_ret
            exact HF.out
        case atStart => exact HS2.out
        case round =>
          obtain ⟨k, hk, rfl, hus, hb1⟩ := hrel
          by_cases hkD : k < D
          · have kx : k < x.dbg.length := by have := HX.out.2.2; omega
            obtain ⟨pb, _, e1, pl, cw, rfl⟩ := (HH.out.2.2.1.below dbgV_stays hb1).at k kx
            subst e1
            obtain ⟨d, hd⟩ : ∃ d, d = x.dbg[k] := ⟨_, rfl⟩
            rw [← hd] at cw
            have c0 := cw.f0
            have c1 := cw.f1
            have c2 := cw.f2
            have c3 := cw.f3
            have c4 := cw.f4
            have c5 := cw.f5
            obtain ⟨dep, var, kind, arg, da', db', hdd⟩ : ∃ dep var kind arg da' db', d.dep = dep ∧ d.var = var ∧ d.kind = kind ∧ d.arg = arg ∧ d.a = da' ∧ d.b = db' := ⟨_, _, _, _, _, _, rfl, rfl, rfl, rfl, rfl, rfl⟩
            rw [hdd.1] at c0
            rw [hdd.2.1] at c1
            rw [hdd.2.2.1] at c2
            rw [hdd.2.2.2.1] at c3
            rw [hdd.2.2.2.2.1] at c4
            rw [hdd.2.2.2.2.2] at c5
            obtain ⟨W9, hW9⟩ : ∃ W, W = wr.alloc (.cells #[I dep, I var, U8 kind, I arg, I da', I db'] 57) := ⟨_, rfl⟩
            obtain ⟨b9, hb9⟩ : ∃ b, b = wr.heap.size := ⟨_, rfl⟩
            have hB9 : Below wr.heap.size wr W9 := by rw [hW9]; exact (Below.refl _ _).alloc (Nat.le_refl _) _
            have k9 : Blk b9 #[I dep, I var, U8 kind, I arg, I da', I db'] 57 W9 := by rw [hW9, hb9]; exact Blk.new _ _ _
            have hB19 := below_tr hb1 hB9
            have k5 := HH.out.2.2.2.2.1.below hB19 HH.out.2.2.2.2.1.lt
            have y0 := k5.get 0 (I (hb : Int)) rfl
            have y1 := k5.get 1 (I ha) rfl
            have z2 := k9.get 2 (U8 kind) rfl
            have z3 := k9.get 3 (I arg) rfl
            have HC := Lib.hid (isMade_any arg (by rw [← hdd.2.2.2.1, hd]; exact (HH.out.2.2.2.2.2.1.wf.2.2.2.2.2 _ (List.getElem_mem kx)).2.2.2) hb HH.out.2.2.2.2.2.2 ha W9 (HH.out.1.below hB19))
            have HK := Lib.hid (And.intro hus (And.intro hB19 (And.intro hkD (And.intro hd hdd))))
            have HW9 := Lib.hid (And.intro hW9 hb9)
            have HNX := Lib.hid (show ∀ W', Below W9.heap.size W9 W' → (kind = 2 → UseOk f (mks f) arg hb ha) → MU2 W1 f x.dbg hb ha (I ((k : Int) + 1)) W' from fun W' hW' hu => ⟨k + 1, kx, rfl, fun j hj hjk h2 => by
              rcases Nat.lt_or_ge j k with h | h
              · exact hus j hj h h2
              · obtain rfl : j = k := by omega
                rw [← hd] at h2 ⊢
                rw [hdd.2.2.1] at h2
                rw [hdd.2.2.2.1]
                exact hu h2, below_tr hB19 hW'⟩)
            have e0 : decide (k < D) = true := by simpa using hkD
            have e1 : (0 : Int) ≤ (k : Int) := by omega
            have e2 : (k : Int) < (D : Int) := by omega
            clear hus hb1 pl cw k5 hkD hk hd hdd hW9 hb9 hB9 k9 hB19
            go_upto_region 12 with (fail)
            rw [← HW9.out.2]
            change Code.wp _ _ _ _ (wr.alloc (.cells #[I dep, I var, U8 kind, I arg, I da', I db'] 57))
            rw [← HW9.out.1]
            clear c0 c1 c2 c3 c4 c5
            by_cases hk2 : kind = 2
            · have g3 : (kind == 2) = true := by simpa using hk2
              have HK2 := Lib.hid hk2
              clear hk2
              go_wp2_with fail
              refine HC.out.mono ?_
              rintro e w2 ⟨r, rfl, hr, hb2⟩
              cases r
              · have hno : ¬ InUse f (mks f) hb ha x := fun h => by
                  have h3 := h.2 HT.out x.dbg[k] (List.getElem_mem kx)
                  rw [← HK.out.2.2.2.1, HK.out.2.2.2.2.2.2.1, HK.out.2.2.2.2.2.2.2.1] at h3
                  exact absurd (hr.2 (h3 HK2.out)) (by decide)
                have HF := Lib.hid (FIN.out false (by simp only [Bool.false_eq_true, false_iff]; exact hno) w2 (below_tr HK.out.2.1 hb2))
                clear hno
                clear hr hb2 y0 y1 z2 z3
                go_wp2_with fail
                go_ret
                exact HF.out
              · have HF := Lib.hid (HNX.out w2 hb2 (fun _ => hr.1 rfl))
                clear hr hb2 y0 y1 z2 z3
                go_wp2_with fail
                exact ⟨HF.out, by have := HK.out.2.2.1; simp [intOf]; omega⟩
            · have g3 : (kind == 2) = false := by simpa using hk2
              have HF := Lib.hid (HNX.out W9 (Below.refl _ _) (fun h => absurd h hk2))
              clear hk2
              go_wp2_with fail
              exact ⟨HF.out, by have := HK.out.2.2.1; simp [intOf]; omega⟩
          · have e0 : decide (k < D) = false := by simpa using hkD
            have HF := Lib.hid (FIN.out true (by simp only [true_iff]; exact ⟨HAS.out, fun _ d hd => by
              obtain ⟨j, hj, rfl⟩ := List.getElem_of_mem hd
              exact hus j hj (by have := HX.out.2.2; omega)⟩) wr hb1)
            clear hus hb1 hkD hk
            go_wp2_with fail
            go_ret
            exact HF.out
      · have g1 : (op != 42) = true := by simp; omega
        have g2 : (op != 39) = true := by simp; omega
        have HF := Lib.hid (FIN.out true (by simp only [true_iff]; exact ⟨HAS.out, fun h => absurd (show op = 42 ∨ op = 39 by rw [← HX.out.1]; exact h) ht⟩) wr HB.out)
        clear hus hb1 k4 hkA hk ht
        go_wp2_with fail
        go_ret
        exact HF.out
def MC1 (w : World) (f : FunP) (i : Nat) (x : InstP) (kv : Value) (W : World) : Prop := ∃ k : Nat, k ≤ x.args.length ∧ kv = I (k : Int) ∧ (∀ j (h : j < x.args.length) (h' : j < (intoN f i).length), j < k → ComeOk f (mks f) x.args[j] (intoN f i)[j]) ∧ Below w.heap.size w W

set_option maxRecDepth 100000 in
set_option maxHeartbeats 1600000 in
theorem mayCome_any {B bk bm bl cc p z cnt : Nat} {bv fv sv : Value} {c : CodeP} {f : FunP} {P : List Int} {S : List Nat} (i : Nat) (hi : i < f.blocks.length) (x : InstP) (hx : SmI x) (hl : x.args.length = (intoN f i).length) (hin : ∀ j ∈ intoN f i, j < f.blocks.length) (av : Value) (ra : Option Addr) (rc : Nat) (w : World)
    (h : CkU B bk bm bl cc p z cnt bv fv sv c f P S w) (haz : IntsZ w av x.args) (hrow : ∀ j (h : j < (intoN f i).length), ∃ g, ra = some ⟨g, 0, none⟩ ∧ g < w.heap.size ∧ w.cell? ⟨g, j, none⟩ = some (I (((intoN f i)[j] : Nat) : Int))) :
    Calls Try.prog 49 #[.pointer (some ⟨bk, 0, none⟩), av, .slice ra (intoN f i).length rc] w fun e w' => TellB (PhiUse f (mks f) i x) w e w' := by
  obtain ⟨aa, ac, hav⟩ := haz.size
  obtain ⟨A, hA⟩ : ∃ A, A = x.args.length := ⟨_, rfl⟩
  subst hav
  have hAb : (A : Int) ≤ 1000000 := by have := hx.al; omega
  rw [← hl, ← hA]
  rw [← hA] at haz
  have HH := Lib.hid (And.intro h (And.intro haz (And.intro hx (And.intro hl (And.intro hin (And.intro hrow hA))))))
  have hlt : bk < w.heap.size := h.ck.ck.lt
  clear h haz hx hl hin hrow hA
  go_enter Try.func49, Try.ntmps49
  go_wp2_with fail
  go_loopw [13] (fun kv W => MC1 w f i x kv W) (fun kv _ => A - (intOf kv).toNat)
  case atStart => exact ⟨0, Nat.zero_le _, rfl, fun j _ _ h => absurd h (by omega), Below.refl _ _⟩
  case round =>
    obtain ⟨k, hk, rfl, hus, hb1⟩ := hrel
    by_cases hkA : k < A
    · have kx : k < x.args.length := by have := HH.out.2.2.2.2.2.2; omega
      have ki : k < (intoN f i).length := by have := HH.out.2.2.2.1; omega
      obtain ⟨pb, _, e1, pl, cw, rfl⟩ := (HH.out.2.1.below intV_stays hb1).at k kx
      subst e1
      obtain ⟨v, hv⟩ : ∃ v, v = x.args[k] := ⟨_, rfl⟩
      have c0 := cw.f0
      rw [← hv, Nat.mul_one] at c0
      obtain ⟨g, hga, hgl, cr⟩ := HH.out.2.2.2.2.2.1 k ki
      subst hga
      obtain ⟨t, ht⟩ : ∃ t, t = (intoN f i)[k] := ⟨_, rfl⟩
      rw [← ht] at cr
      have htn : t < f.blocks.length := by rw [ht]; exact HH.out.2.2.2.2.1 _ (List.getElem_mem ki)
      have hU := HH.out.1.below hb1
      obtain ⟨D, ho, hD⟩ := hU.mw
      have c10 := hU.ck.ck.get 10 (.map (some bm)) rfl
      have hkey := keyOf_int_mk (P := Try.prog) Try.underlying3 (show (Lit.int .i64 v).wf = true by rw [hv]; exact HH.out.2.2.1.wf.2.2.2.2.1 _ (List.getElem_mem kx))
      have cr1 := cellA_below hb1 (a := ⟨g, k, none⟩) hgl cr
      have HO := Lib.hid (And.intro ho (And.intro hD hkey))
      have HU := Lib.hid hU
      have HK := Lib.hid (And.intro hus (And.intro hb1 (And.intro hkA (And.intro htn (And.intro cr1 hU.ck.ck.lt)))))
      have HV := Lib.hid (And.intro hv ht)
      have e0 : decide (k < A) = true := by simpa using hkA
      have e1 : (0 : Int) ≤ (k : Int) := by omega
      have e2 : (k : Int) < (A : Int) := by omega
      clear hus hb1 pl cw hkA hk hv ht hgl cr htn ho hD hkey cr1 hU
      go_wp2_with (at_lookup; refine Hid.out ?_)
      unfold Hid
      refine wpList_lookup_own_ok _ rfl _ _ 61 rfl 3 91 key_int Try.underlying61 placeR (place_zero _) (placeD 0 0) [] (placeR_mk 0 0) bm cnt D rfl HO.out.1 _ _ rfl HO.out.2.2 ?_
      intro u ps hu
      obtain ⟨pb', pa, hp⟩ : ∃ pb pa, (mapOf (mks f) v).getD (0, 0) = (pb, pa) := ⟨_, _, rfl⟩
      obtain rfl : u = placeV pb' pa := placeR_inv (ps := ps) (by have := (HO.out.2.1.2 v).2; rw [hp] at this; rw [← this]; exact hu)
      rw [(HO.out.2.1.2 v).1]
      clear hu
      obtain ⟨W, hW⟩ : ∃ W, W = wr.alloc (.cells #[I pb', I pa] 91) := ⟨_, rfl⟩
      obtain ⟨b9, hb9⟩ : ∃ b5, b5 = wr.heap.size := ⟨_, rfl⟩
      have hB : Below wr.heap.size wr W := by rw [hW]; exact (Below.refl _ _).alloc (Nat.le_refl _) _
      have k9 : Blk b9 #[I pb', I pa] 91 W := by rw [hb9, hW]; exact Blk.new _ _ _
      have HW := Lib.hid (And.intro hW hb9)
      have HB := Lib.hid (And.intro hB k9)
      obtain ⟨ok, hok⟩ : ∃ ok, ok = (mapOf (mks f) v).isSome := ⟨_, rfl⟩
      rw [← hok]
      have HOK := Lib.hid (And.intro hok hp)
      have HNO := Lib.hid (show ¬ ComeOk f (mks f) v t → ∀ W', Below W.heap.size W W' → TellB (PhiUse f (mks f) i x) w (.returned (.bool false)) W' from fun hno W' hW' => ⟨false, rfl, by
        simp only [Bool.false_eq_true, false_iff]
        intro h
        apply hno
        rw [HV.out.1, HV.out.2]
        exact h k kx ki, below_tr (below_tr HK.out.2.1 hB) hW'⟩)
      have HNX := Lib.hid (show ComeOk f (mks f) v t → ∀ W', Below W.heap.size W W' → MC1 w f i x (I ((k : Int) + 1)) W' from fun hy W' hW' => ⟨k + 1, kx, rfl, fun j hj hj' hjk => by
        rcases Nat.lt_or_ge j k with h | h
        · exact HK.out.1 j hj hj' h
        · obtain rfl : j = k := by omega
          rw [HV.out.1, HV.out.2] at hy
          exact hy, below_tr (below_tr HK.out.2.1 hB) hW'⟩)
      clear hok hp hW hb9 hB k9 c0
      go_upto_region 5 with (fail)
      rw [← HW.out.2]
      change Code.wp _ _ _ _ (wr.alloc (.cells #[I pb', I pa] 91))
      rw [← HW.out.1]
      clear c10
      cases ok
      · have HF := Lib.hid (fun q => HNO.out (comeOk_none (by
          have := HOK.out.1.symm
          rwa [Option.isSome_eq_false_iff, Option.isNone_iff_eq_none] at this)) (W.drewN q) (below_drewN (Below.refl _ _) q))
        go_quiet (fail)
        go_wp2_with fail
        go_ret
        exact HF.out _
      · have hyes : mapOf (mks f) v = some (pb', pa) := by
          have hok := HOK.out.1
          have hp := HOK.out.2
          cases e : mapOf (mks f) v with
          | none => rw [e] at hok; cases hok
          | some q => rw [e] at hp; simp at hp; rw [hp]
        obtain ⟨j, hj, hpj⟩ := mks_blk (mapOf_some hyes)
        have hpj' : pb' = (j : Int) := hpj
        have hiff := comeOk_some (f := f) (b := t) HU.out.dk.1 hyes
        obtain ⟨n, hn⟩ : ∃ n, n = f.blocks.length := ⟨_, rfl⟩
        have hUW := HU.out.below HB.out.1
        have x8 := hUW.ck.ck.get 8 (.slice (some ⟨p, 0, none⟩) f.blocks.length f.blocks.length) rfl
        have x9 := hUW.ck.ck.get 9 (.slice (some ⟨z, 0, none⟩) f.blocks.length f.blocks.length) rfl
        have hcr := cellA_below HB.out.1 (a := ⟨g, k, none⟩) (World.block_lt_of_cell? _ _ HK.out.2.2.2.2.1) HK.out.2.2.2.2.1
        subst hpj'
        rw [Int.toNat_natCast] at hiff
        have z0 := HB.out.2.get 0 (I (j : Int)) rfl
        have w8 : ∀ d os, (grow (redrawn W d) os).cell? ⟨bk, 8, none⟩ = some (.slice (some ⟨p, 0, none⟩) n n) := fun d os => cell_regrown (by rw [hn]; exact x8) d os
        have w9 : ∀ d os, (grow (redrawn W d) os).cell? ⟨bk, 9, none⟩ = some (.slice (some ⟨z, 0, none⟩) n n) := fun d os => cell_regrown (by rw [hn]; exact x9) d os
        have w7 : ∀ d os, (grow (redrawn W d) os).cell? ⟨b9, 0, none⟩ = some (I (j : Int)) := fun d os => cell_regrown z0 d os
        have w6 : ∀ d os, (grow (redrawn W d) os).cell? ⟨g, k, none⟩ = some (I (t : Int)) := fun d os => cell_regrown hcr d os
        by_cases hdm : Fl.DomG (gN f) j t
        · have hr : true = true ↔ Fl.DomG (gN f) j t := by simp [hdm]
          have HC := Lib.hid (fun p' : Regrown => hUW.fo.over hj HK.out.2.2.2.1 hr p')
          rw [← hn] at HC
          have HF := Lib.hid (fun d os => HNX.out (hiff.2 hdm) _ (below_regrown W d os))
          clear x8 x9 hcr z0 hr hdm hiff hj hn hpj hUW hyes
          refine wp_region_quiet_below (by kernel_rfl) (by kernel_rfl) ?_
          repeat (go_big_quiet_step (first | with_reducible exact HC.out _))
          refine wpQuiet_nil ?_
          intro _ hw'
          obtain ⟨⟨dq, osq⟩, hw''⟩ := hw'
          subst hw''
          clear w6 w7 w8 w9
          go_wp2_with fail
          exact ⟨HF.out _ _, by have := HK.out.2.2.1; simp [intOf]; omega⟩
        · have hr : false = true ↔ Fl.DomG (gN f) j t := by simp [hdm]
          have HC := Lib.hid (fun p' : Regrown => hUW.fo.over hj HK.out.2.2.2.1 hr p')
          rw [← hn] at HC
          have HF := Lib.hid (fun d os => HNO.out (fun h => hdm (hiff.1 h)) _ (below_regrown W d os))
          clear x8 x9 hcr z0 hr hdm hiff hj hn hpj hUW hyes
          refine wp_region_quiet_below (by kernel_rfl) (by kernel_rfl) ?_
          repeat (go_big_quiet_step (first | with_reducible exact HC.out _))
          refine wpQuiet_nil ?_
          intro _ hw'
          obtain ⟨⟨dq, osq⟩, hw''⟩ := hw'
          subst hw''
          clear w6 w7 w8 w9
          go_wp2_with fail
          go_ret
          exact HF.out _ _
    · have e0 : decide (k < A) = false := by simpa using hkA
      have HF := Lib.hid (show TellB (PhiUse f (mks f) i x) w (.returned (.bool true)) wr from ⟨true, rfl, by simp only [true_iff]; exact fun j hj hj' => hus j hj hj' (by have := HH.out.2.2.2.2.2.2; omega), hb1⟩)
      clear hus hb1 hkA hk
      go_wp2_with fail
      go_ret
      exact HF.out
end Go.Proofs.Ytjlmkcamefaodaa
