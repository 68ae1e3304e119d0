/-
  Joined: RKn, RFp.
-/
import Derived.Test.YtjlmkcamefaodaaJ35
/-! RKn: Is what an instruction knows right: the document's own answer, walked. -/

namespace Go.Proofs.Ytjlmkcamefaodaa
open Go Go.RowKit Go.Maps Go.Sort Cd Fl

def Kn1 (w : World) (vars frames : Int) (l : List DbgP) (iv : Value) (W : World) : Prop := ∃ i : Nat, i ≤ l.length ∧ iv = I (i : Int) ∧ (∀ j (h : j < l.length), j < i → DbgOk vars frames l[j]) ∧ ((l.take i).map dKey).Nodup ∧ Below w.heap.size w W
def Kn2 (w : World) (l : List DbgP) (i : Nat) (d : DbgP) (jv : Value) (W : World) : Prop := ∃ j : Nat, j ≤ i ∧ jv = I (j : Int) ∧ (∀ q (h : q < l.length), q < j → dKey l[q] ≠ dKey d) ∧ Below w.heap.size w W
theorem nodup_take {l : List DbgP} {i : Nat} (h : i < l.length) : ((l.take (i + 1)).map dKey).Nodup ↔ ((l.take i).map dKey).Nodup ∧ ∀ q (hq : q < l.length), q < i → dKey l[q] ≠ dKey l[i] := by
  rw [List.take_succ_eq_append_getElem h, List.map_append, List.nodup_append]
  constructor
  · rintro ⟨h1, _, h3⟩
    refine ⟨h1, fun q hq hqi => h3 _ (List.mem_map.2 ⟨l[q], ?_, rfl⟩) _ (by simp)⟩
    exact List.mem_take_iff_getElem.2 ⟨q, by omega, rfl⟩
  · rintro ⟨h1, h2⟩
    refine ⟨h1, by simp, fun a ha b hb => ?_⟩
    obtain ⟨x, hx, rfl⟩ := List.mem_map.1 ha
    obtain ⟨q, hq, rfl⟩ := List.mem_take_iff_getElem.1 hx
    obtain rfl : b = dKey l[i] := by simpa using hb
    exact h2 q (by omega) (by omega)

set_option maxRecDepth 100000 in
set_option maxHeartbeats 3200000 in
theorem known_any (c : CodeP) (f : FunP) (x : InstP) (hx : SmI x) (fa sa ba aa : Option Addr) (F fc sc n bc A ac : Nat) (main : Int) (dv : Value) (st : Nat) (hsite : x.site = (st : Int)) (hst : st < c.stops.length) (hsm : ∀ i (h : i < c.stops.length), c.stops[i].length ≤ 1000000) (w : World)
    (hss : StopsZ w (.slice sa c.stops.length sc) c.stops) (hdz : DbgsZ w dv x.dbg) :
    Calls Try.prog 38 #[.agg #[.slice fa F fc, .slice sa c.stops.length sc, I main], .agg #[I f.params, I f.vars, I f.vals, .slice ba n bc], .agg #[U8 x.op, I x.dst, .slice aa A ac, I x.imm, I x.site, dv]] w fun e w' => TellB (KnownOk f.vars (framesN c x) x.dbg) w e w' := by
  obtain ⟨da, dc, rfl⟩ := hdz.size
  obtain ⟨D, hD⟩ : ∃ D, D = x.dbg.length := ⟨_, rfl⟩
  obtain ⟨T, hT⟩ : ∃ D, D = c.stops.length := ⟨_, rfl⟩
  obtain ⟨pr, vr, vl, hpp⟩ : ∃ a b d, f.params = a ∧ f.vars = b ∧ f.vals = d := ⟨_, _, _, rfl, rfl, rfl⟩
  obtain ⟨op, dst, imm, hyy⟩ : ∃ op dst imm, x.op = op ∧ x.dst = dst ∧ x.imm = imm := ⟨_, _, _, rfl, rfl, rfl⟩
  obtain ⟨b0, _, hsa, hbB, cw0, sv', hsv', hsp⟩ := hss.at st hst
  subst hsa hsv'
  obtain ⟨pa, pc, rfl⟩ := hsp.size
  obtain ⟨m, hm⟩ : ∃ m, m = c.stops[st].length := ⟨_, rfl⟩
  have cs := cw0.f0
  rw [Nat.mul_one, ← hm] at cs
  have hfr : framesN c x = (m : Int) := by
    unfold framesN
    rw [hsite, Int.toNat_natCast, List.getD_eq_getElem?_getD, List.getElem?_eq_getElem hst]
    show (c.stops[st].length : Int) = _
    rw [← hm]
  rw [hfr, hpp.1, hpp.2.1, hpp.2.2, hyy.1, hyy.2.1, hyy.2.2, hsite, ← hD, ← hT]
  rw [← hD] at hdz
  have hcap := hdz.cap
  have hDb : (D : Int) ≤ 1000000 := by have := hx.dl; omega
  have hmb : (m : Int) ≤ 1000000 := by have := hsm st hst; omega
  obtain ⟨W1, hW1⟩ : ∃ W, W = ((w.alloc (.cells #[.slice fa F fc, .slice (some b0) T sc, I main] 25)).alloc (.cells #[I pr, I vr, I vl, .slice ba n bc] 36)).alloc (.cells #[U8 op, I dst, .slice aa A ac, I imm, I (st : Int), .slice da D dc] 44) := ⟨_, rfl⟩
  obtain ⟨b3, hb3⟩ : ∃ b, b = w.heap.size := ⟨_, rfl⟩
  obtain ⟨b4, hb4⟩ : ∃ b, b = w.heap.size + 1 := ⟨_, rfl⟩
  obtain ⟨b5, hb5⟩ : ∃ b, b = w.heap.size + 1 + 1 := ⟨_, rfl⟩
  have hB1 : Below w.heap.size w W1 := by rw [hW1]; exact (((Below.refl _ _).alloc (Nat.le_refl _) _).alloc (by simp) _).alloc (by simp; omega) _
  have k3 : Blk b3 #[.slice fa F fc, .slice (some b0) T sc, I main] 25 W1 := by rw [hW1, hb3]; exact ((Blk.new _ _ _).alloc _).alloc _
  have k4 : Blk b4 #[I pr, I vr, I vl, .slice ba n bc] 36 W1 := by rw [hW1, hb4]; exact (Blk.new' _ _ _ (by simp)).alloc _
  have k5 : Blk b5 #[U8 op, I dst, .slice aa A ac, I imm, I (st : Int), .slice da D dc] 44 W1 := by rw [hW1, hb5]; exact Blk.new' _ _ _ (by simp)
  have x5 := k5.get 5 (.slice da D dc) rfl
  have HST := Lib.hid (show Kn1 W1 vr (m : Int) x.dbg (I 0) W1 from ⟨0, Nat.zero_le _, rfl, fun j _ h => absurd h (by omega), by simp, Below.refl _ _⟩)
  have HH := Lib.hid (And.intro (hdz.below dbgV_stays hB1) (And.intro hB1 (And.intro k3 (And.intro k4 (And.intro k5 (And.intro hD (And.intro hT (And.intro (cellA_below hB1 (by rw [addB_blk]; exact hbB) cs) (And.intro (Nat.lt_of_lt_of_le hbB hB1.size) (And.intro hst hx))))))))))
  have HW1 := Lib.hid (And.intro hW1 (And.intro hb3 (And.intro hb4 hb5)))
  have FIN := Lib.hid (show ∀ (r : Bool), (r = true ↔ KnownOk vr (m : Int) x.dbg) → ∀ w', Below W1.heap.size W1 w' → TellB (KnownOk vr (m : Int) x.dbg) w (.returned (.bool r)) w' from fun r hr w' hb2 => ⟨r, rfl, hr, below_tr hB1 hb2⟩)
  clear hdz hss hx hD hT hpp hyy hsite hst hsm hbB cw0 hsp hm cs hfr hW1 hb3 hb4 hb5 hB1 k3 k4 k5
  go_enter Try.func38, Try.ntmps38
  go_upto_region 1 with (fail)
  rw [← HW1.out.2.2.2, ← HW1.out.2.2.1, ← HW1.out.2.1]
  change Code.wp _ _ _ _ (((w.alloc (.cells #[.slice fa F fc, .slice (some b0) T sc, I main] 25)).alloc (.cells #[I pr, I vr, I vl, .slice ba n bc] 36)).alloc (.cells #[U8 op, I dst, .slice aa A ac, I imm, I (st : Int), .slice da D dc] 44))
  rw [← HW1.out.1]
  go_wp2_with fail
  clear x5
  go_loopw [14] (fun iv W => Kn1 W1 vr (m : Int) x.dbg iv W) (fun iv _ => D - (intOf iv).toNat)
  case atStart => exact HST.out
  case round =>
    obtain ⟨i, hi, rfl, hok, hnd, hb⟩ := hrel
    clear HST
    obtain ⟨Wo, rfl⟩ : ∃ W : World, W = wr := ⟨_, rfl⟩
    by_cases hin : i < D
    · have il : i < x.dbg.length := by have := HH.out.2.2.2.2.2.1; omega
      obtain ⟨pb, _, e1, pl, cw, rfl⟩ := (HH.out.1.below dbgV_stays hb).at i il
      subst e1
      obtain ⟨d, hd⟩ : ∃ d, d = x.dbg[i] := ⟨_, rfl⟩
      rw [← hd] at cw
      obtain ⟨dep, var, kind, arg, da', db', hdd⟩ : ∃ dep var kind arg da' db', d.dep = dep ∧ d.var = var ∧ d.kind = kind ∧ d.arg = arg ∧ d.a = da' ∧ d.b = db' := ⟨_, _, _, _, _, _, rfl, rfl, rfl, rfl, rfl, rfl⟩
      have c0 := cw.f0
      have c1 := cw.f1
      have c2 := cw.f2
      have c3 := cw.f3
      have c4 := cw.f4
      have c5 := cw.f5
      rw [hdd.1] at c0
      rw [hdd.2.1] at c1
      rw [hdd.2.2.1] at c2
      rw [hdd.2.2.2.1] at c3
      rw [hdd.2.2.2.2.1] at c4
      rw [hdd.2.2.2.2.2] at c5
      obtain ⟨W9, hW9⟩ : ∃ W, W = Wo.alloc (.cells #[I dep, I var, U8 kind, I arg, I da', I db'] 57) := ⟨_, rfl⟩
      obtain ⟨b9, hb9⟩ : ∃ b, b = Wo.heap.size := ⟨_, rfl⟩
      have hB9 : Below Wo.heap.size Wo W9 := by rw [hW9]; exact (Below.refl _ _).alloc (Nat.le_refl _) _
      have k9 : Blk b9 #[I dep, I var, U8 kind, I arg, I da', I db'] 57 W9 := by rw [hW9, hb9]; exact Blk.new _ _ _
      have hB19 := below_tr hb hB9
      have z0 := k9.get 0 (I dep) rfl
      have z1 := k9.get 1 (I var) rfl
      have z2 := k9.get 2 (U8 kind) rfl
      have z3 := k9.get 3 (I arg) rfl
      have y1 := (HH.out.2.2.1.below hB19 HH.out.2.2.1.lt).get 1 (.slice (some b0) T sc) rfl
      have y4 := (HH.out.2.2.2.2.1.below hB19 HH.out.2.2.2.2.1.lt).get 4 (I (st : Int)) rfl
      have y5 := (HH.out.2.2.2.2.1.below hB19 HH.out.2.2.2.2.1.lt).get 5 (.slice (some pb) D dc) rfl
      have yv := (HH.out.2.2.2.1.below hB19 HH.out.2.2.2.1.lt).get 1 (I vr) rfl
      have ys := cellA_below hB19 (by rw [addB_blk]; exact HH.out.2.2.2.2.2.2.2.2.1) HH.out.2.2.2.2.2.2.2.1
      have s1 : (0 : Int) ≤ (st : Int) := by omega
      have s2 : (st : Int) < (T : Int) := by have := HH.out.2.2.2.2.2.2.2.2.2.1; have := HH.out.2.2.2.2.2.2.1; omega
      have hDO : Hid (DbgOk vr (m : Int) x.dbg[i] ↔ (0 ≤ dep ∧ dep ≤ (m : Int) - 1) ∧ (1 ≤ kind ∧ kind ≤ 3) ∧ (kind = 3 → 0 ≤ arg ∧ arg ≤ vr - 1)) := by
        unfold Hid DbgOk
        rw [← hd, hdd.1, hdd.2.2.1, hdd.2.2.2.1]
      have HNO := Lib.hid (show ¬ DbgOk vr (m : Int) x.dbg[i] → ∀ q, TellB (KnownOk vr (m : Int) x.dbg) w (.returned (.bool false)) (W9.drewN q) from fun hno q => FIN.out false (by simp only [Bool.false_eq_true, false_iff]; exact fun h => hno (h.1 i il)) _ (below_drewN hB19 q))
      have HY9 := Lib.hid (And.intro y5 (And.intro k9 hB19))
      have HX := Lib.hid (And.intro hok (And.intro hnd (And.intro hd (And.intro hdd (And.intro hin hdd.2.1)))))
      have HW9 := Lib.hid (And.intro hW9 hb9)
      have d0 : decide (i < D) = true := by simpa using hin
      have d1 : (0 : Int) ≤ (i : Int) := by omega
      have d2 : (i : Int) < (D : Int) := by omega
      clear hok hnd hb pl cw hd hdd hW9 hb9 hB9 k9 hB19 hin hi
      go_upto_region 4 with (fail)
      rw [← HW9.out.2]
      change Code.wp _ _ _ _ (Wo.alloc (.cells #[I dep, I var, U8 kind, I arg, I da', I db'] 57))
      rw [← HW9.out.1]
      clear c0 c1 c2 c3 c4 c5
      by_cases p1 : dep < 0
      · have g1 : decide (dep < 0) = true := decide_eq_true p1
        have HF := Lib.hid (HNO.out (fun h => by have := (hDO.out.1 h).1; omega))
        clear p1
        go_quiet (fail)
        go_wp2_with fail
        go_ret
        exact HF.out _
      have g1 : decide (dep < 0) = false := decide_eq_false p1
      by_cases p2 : (m : Int) ≤ dep
      · have g2 : decide ((m : Int) ≤ dep) = true := decide_eq_true p2
        have HF := Lib.hid (HNO.out (fun h => by have := (hDO.out.1 h).1; omega))
        clear p1 p2
        go_quiet (fail)
        go_wp2_with fail
        go_ret
        exact HF.out _
      have g2 : decide ((m : Int) ≤ dep) = false := decide_eq_false p2
      by_cases p3 : kind < 1
      · have g3 : decide (kind < 1) = true := decide_eq_true p3
        have HF := Lib.hid (HNO.out (fun h => by have := (hDO.out.1 h).2.1; omega))
        clear p1 p2 p3
        go_quiet (fail)
        go_wp2_with fail
        go_ret
        exact HF.out _
      have g3 : decide (kind < 1) = false := decide_eq_false p3
      by_cases p4 : 3 < kind
      · have g4 : decide (3 < kind) = true := decide_eq_true p4
        have HF := Lib.hid (HNO.out (fun h => by have := (hDO.out.1 h).2.1; omega))
        clear p1 p2 p3 p4
        go_quiet (fail)
        go_wp2_with fail
        go_ret
        exact HF.out _
      have g4 : decide (3 < kind) = false := decide_eq_false p4
      by_cases p5 : kind = 3
      · have g5 : (kind == 3) = true := by simpa using p5
        by_cases p6 : arg < 0
        · have g6 : decide (arg < 0) = true := decide_eq_true p6
          have HF := Lib.hid (HNO.out (fun h => by have := (hDO.out.1 h).2.2 p5; omega))
          clear p1 p2 p3 p4 p5 p6
          go_quiet (fail)
          go_wp2_with fail
          go_ret
          exact HF.out _
        have g6 : decide (arg < 0) = false := decide_eq_false p6
        by_cases p7 : vr ≤ arg
        · have g7 : decide (vr ≤ arg) = true := decide_eq_true p7
          have HF := Lib.hid (HNO.out (fun h => by have := (hDO.out.1 h).2.2 p5; omega))
          clear p1 p2 p3 p4 p5 p6 p7
          go_quiet (fail)
          go_wp2_with fail
          go_ret
          exact HF.out _
        have g7 : decide (vr ≤ arg) = false := decide_eq_false p7
        have HOK := Lib.hid (hDO.out.2 ⟨by omega, by omega, fun _ => by omega⟩)
        clear p1 p2 p3 p4 p5 p6 p7
        go_quiet (fail)
        go_upto_region 6 with (fail)
        obtain ⟨W8, hW8⟩ : ∃ W, W = W9.drewN nq := ⟨_, rfl⟩
        have hB8 : Below W1.heap.size W1 W8 := by rw [hW8]; exact below_drewN HY9.out.2.2 nq
        have k8 : Blk b9 #[I dep, I var, U8 kind, I arg, I da', I db'] 57 W8 := by rw [hW8]; exact HY9.out.2.1
        have y5' : W8.cell? ⟨b5, 5, none⟩ = some (.slice (some pb) D dc) := by rw [hW8]; exact HY9.out.1
        change Code.wp _ _ _ _ (W9.drewN nq)
        rw [← hW8]
        clear z0 z1 z2 z3 y1 y4 y5 yv ys hW8
        have hic : (i : Int) ≤ (dc : Int) := by omega
        have H8 := Lib.hid (And.intro hB8 k8)
        have HST2 := Lib.hid (show Kn2 W8 x.dbg i d (I 0) W8 from ⟨0, Nat.zero_le _, rfl, fun q _ h => absurd h (by omega), Below.refl _ _⟩)
        clear hB8 k8
        go_wp2_with fail
        clear y5'
        go_loopw [66] (fun jv W => Kn2 W8 x.dbg i d jv W) (fun jv _ => i - (intOf jv).toNat)
        case atStart => exact HST2.out
        case round =>
          obtain ⟨j, hj, rfl, hne, hb2⟩ := hrel
          clear HST2
          by_cases hji : j < i
          · have jl : j < x.dbg.length := by omega
            obtain ⟨pb2, _, e9, pl2, cw2, hv2⟩ := (HH.out.1.below dbgV_stays (below_tr H8.out.1 hb2)).at j jl
            cases e9
            subst hv2
            obtain ⟨d2, hd2⟩ : ∃ d2, d2 = x.dbg[j] := ⟨_, rfl⟩
            rw [← hd2] at cw2
            obtain ⟨dep2, var2, kind2, arg2, da2, db2, hdd2⟩ : ∃ dep var kind arg da' db', d2.dep = dep ∧ d2.var = var ∧ d2.kind = kind ∧ d2.arg = arg ∧ d2.a = da' ∧ d2.b = db' := ⟨_, _, _, _, _, _, rfl, rfl, rfl, rfl, rfl, rfl⟩
            have c0 := cw2.f0
            have c1 := cw2.f1
            have c2 := cw2.f2
            have c3 := cw2.f3
            have c4 := cw2.f4
            have c5 := cw2.f5
            rw [hdd2.1] at c0
            rw [hdd2.2.1] at c1
            rw [hdd2.2.2.1] at c2
            rw [hdd2.2.2.2.1] at c3
            rw [hdd2.2.2.2.2.1] at c4
            rw [hdd2.2.2.2.2.2] at c5
            obtain ⟨W11, hW11⟩ : ∃ W, W = wr.alloc (.cells #[I dep2, I var2, U8 kind2, I arg2, I da2, I db2] 57) := ⟨_, rfl⟩
            obtain ⟨b11, hb11⟩ : ∃ b, b = wr.heap.size := ⟨_, rfl⟩
            have hB11 : Below wr.heap.size wr W11 := by rw [hW11]; exact (Below.refl _ _).alloc (Nat.le_refl _) _
            have k11 : Blk b11 #[I dep2, I var2, U8 kind2, I arg2, I da2, I db2] 57 W11 := by rw [hW11, hb11]; exact Blk.new _ _ _
            have k9 := H8.out.2.below (below_tr hb2 hB11) H8.out.2.lt
            have z0 := k9.get 0 (I dep) rfl
            have z1 := k9.get 1 (I var) rfl
            have w0 := k11.get 0 (I dep2) rfl
            have w1 := k11.get 1 (I var2) rfl
            have hkey : dKey x.dbg[j] = dKey d ↔ dep2 = dep ∧ var2 = var := by
              rw [← hd2]
              unfold dKey
              rw [hdd2.1, hdd2.2.1, HX.out.2.2.2.1.1, HX.out.2.2.2.2.2]
              simp
            have HNX := Lib.hid (show ¬ (dep2 = dep ∧ var2 = var) → Kn2 W8 x.dbg i d (I ((j : Int) + 1)) W11 from fun hn => ⟨j + 1, hji, rfl, fun q hq hqj => by
              rcases Nat.lt_or_ge q j with h | h
              · exact hne q hq h
              · obtain rfl : q = j := by omega
                exact fun e => hn (hkey.1 e), below_tr hb2 hB11⟩)
            have HNO2 := Lib.hid (show (dep2 = dep ∧ var2 = var) → TellB (KnownOk vr (m : Int) x.dbg) w (.returned (.bool false)) W11 from fun hy => FIN.out false (by
              simp only [Bool.false_eq_true, false_iff]
              intro h
              have h9 : ((x.dbg.take (i + 1)).map dKey).Nodup := by
                have h8 := h.2
                rw [← List.take_append_drop (i + 1) x.dbg, List.map_append, List.nodup_append] at h8
                exact h8.1
              exact ((nodup_take il).1 h9).2 j jl hji (by rw [← HX.out.2.2.1]; exact hkey.2 hy)) _ (below_tr H8.out.1 (below_tr hb2 hB11)))
            have HJ := Lib.hid hji
            have HW11 := Lib.hid (And.intro hW11 hb11)
            have e0 : decide (j < i) = true := by simpa using hji
            have e1 : (0 : Int) ≤ (j : Int) := by omega
            have e2 : (j : Int) < (i : Int) := by omega
            clear hne hb2 pl2 cw2 hd2 hdd2 hW11 hb11 hB11 k11 k9 hkey hji hj
            go_upto_region 9 with (fail)
            rw [← HW11.out.2]
            change Code.wp _ _ _ _ (wr.alloc (.cells #[I dep2, I var2, U8 kind2, I arg2, I da2, I db2] 57))
            rw [← HW11.out.1]
            clear c0 c1 c2 c3 c4 c5
            by_cases q1 : dep2 = dep
            · have g1 : (dep2 == dep) = true := by simpa using q1
              by_cases q2 : var2 = var
              · have g2 : (var2 == var) = true := by simpa using q2
                have HF := Lib.hid (HNO2.out ⟨q1, q2⟩)
                clear q1 q2
                go_wp2_with fail
                go_ret
                exact HF.out
              · have g2 : (var2 == var) = false := by simpa using q2
                have HF := Lib.hid (HNX.out (fun h => q2 h.2))
                clear q1 q2
                go_wp2_with fail
                exact ⟨HF.out, by have := HJ.out; simp [intOf]; omega⟩
            · have g1 : (dep2 == dep) = false := by simpa using q1
              have HF := Lib.hid (HNX.out (fun h => q1 h.1))
              clear q1
              go_wp2_with fail
              exact ⟨HF.out, by have := HJ.out; simp [intOf]; omega⟩
          · have e0 : decide (j < i) = false := by simpa using hji
            have hje : j = i := by omega
            subst hje
            have HNX := Lib.hid (show Kn1 W1 vr (m : Int) x.dbg (I ((j : Int) + 1)) wr from ⟨j + 1, il, rfl, fun q hq hqj => by
              rcases Nat.lt_or_ge q j with h | h
              · exact HX.out.1 q hq h
              · obtain rfl : q = j := by omega
                exact HOK.out, (nodup_take il).2 ⟨HX.out.2.1, fun q hq hqj => by rw [← HX.out.2.2.1]; exact hne q hq hqj⟩, below_tr H8.out.1 hb2⟩)
            have HJ := Lib.hid HX.out.2.2.2.2.1
            clear hne hb2 hji hj
            go_wp2_with fail
            exact ⟨HNX.out, by have := HJ.out; simp [intOf]; omega⟩
      have g5 : (kind == 3) = false := by simpa using p5
      have HOK := Lib.hid (hDO.out.2 ⟨by omega, by omega, fun h => absurd h p5⟩)
      clear p1 p2 p3 p4 p5
      go_quiet (fail)
      go_upto_region 6 with (fail)
      obtain ⟨W8, hW8⟩ : ∃ W, W = W9.drewN nq := ⟨_, rfl⟩
      have hB8 : Below W1.heap.size W1 W8 := by rw [hW8]; exact below_drewN HY9.out.2.2 nq
      have k8 : Blk b9 #[I dep, I var, U8 kind, I arg, I da', I db'] 57 W8 := by rw [hW8]; exact HY9.out.2.1
      have y5' : W8.cell? ⟨b5, 5, none⟩ = some (.slice (some pb) D dc) := by rw [hW8]; exact HY9.out.1
      change Code.wp _ _ _ _ (W9.drewN nq)
      rw [← hW8]
      clear z0 z1 z2 z3 y1 y4 y5 yv ys hW8
      have hic : (i : Int) ≤ (dc : Int) := by omega
      have H8 := Lib.hid (And.intro hB8 k8)
      have HST2 := Lib.hid (show Kn2 W8 x.dbg i d (I 0) W8 from ⟨0, Nat.zero_le _, rfl, fun q _ h => absurd h (by omega), Below.refl _ _⟩)
      clear hB8 k8
      go_wp2_with fail
      clear y5'
      go_loopw [66] (fun jv W => Kn2 W8 x.dbg i d jv W) (fun jv _ => i - (intOf jv).toNat)
      case atStart => exact HST2.out
      case round =>
        obtain ⟨j, hj, rfl, hne, hb2⟩ := hrel
        clear HST2
        by_cases hji : j < i
        · have jl : j < x.dbg.length := by omega
          obtain ⟨pb2, _, e9, pl2, cw2, hv2⟩ := (HH.out.1.below dbgV_stays (below_tr H8.out.1 hb2)).at j jl
          cases e9
          subst hv2
          obtain ⟨d2, hd2⟩ : ∃ d2, d2 = x.dbg[j] := ⟨_, rfl⟩
          rw [← hd2] at cw2
          obtain ⟨dep2, var2, kind2, arg2, da2, db2, hdd2⟩ : ∃ dep var kind arg da' db', d2.dep = dep ∧ d2.var = var ∧ d2.kind = kind ∧ d2.arg = arg ∧ d2.a = da' ∧ d2.b = db' := ⟨_, _, _, _, _, _, rfl, rfl, rfl, rfl, rfl, rfl⟩
          have c0 := cw2.f0
          have c1 := cw2.f1
          have c2 := cw2.f2
          have c3 := cw2.f3
          have c4 := cw2.f4
          have c5 := cw2.f5
          rw [hdd2.1] at c0
          rw [hdd2.2.1] at c1
          rw [hdd2.2.2.1] at c2
          rw [hdd2.2.2.2.1] at c3
          rw [hdd2.2.2.2.2.1] at c4
          rw [hdd2.2.2.2.2.2] at c5
          obtain ⟨W11, hW11⟩ : ∃ W, W = wr.alloc (.cells #[I dep2, I var2, U8 kind2, I arg2, I da2, I db2] 57) := ⟨_, rfl⟩
          obtain ⟨b11, hb11⟩ : ∃ b, b = wr.heap.size := ⟨_, rfl⟩
          have hB11 : Below wr.heap.size wr W11 := by rw [hW11]; exact (Below.refl _ _).alloc (Nat.le_refl _) _
          have k11 : Blk b11 #[I dep2, I var2, U8 kind2, I arg2, I da2, I db2] 57 W11 := by rw [hW11, hb11]; exact Blk.new _ _ _
          have k9 := H8.out.2.below (below_tr hb2 hB11) H8.out.2.lt
          have z0 := k9.get 0 (I dep) rfl
          have z1 := k9.get 1 (I var) rfl
          have w0 := k11.get 0 (I dep2) rfl
          have w1 := k11.get 1 (I var2) rfl
          have hkey : dKey x.dbg[j] = dKey d ↔ dep2 = dep ∧ var2 = var := by
            rw [← hd2]
            unfold dKey
            rw [hdd2.1, hdd2.2.1, HX.out.2.2.2.1.1, HX.out.2.2.2.2.2]
            simp
          have HNX := Lib.hid (show ¬ (dep2 = dep ∧ var2 = var) → Kn2 W8 x.dbg i d (I ((j : Int) + 1)) W11 from fun hn => ⟨j + 1, hji, rfl, fun q hq hqj => by
            rcases Nat.lt_or_ge q j with h | h
            · exact hne q hq h
            · obtain rfl : q = j := by omega
              exact fun e => hn (hkey.1 e), below_tr hb2 hB11⟩)
          have HNO2 := Lib.hid (show (dep2 = dep ∧ var2 = var) → TellB (KnownOk vr (m : Int) x.dbg) w (.returned (.bool false)) W11 from fun hy => FIN.out false (by
            simp only [Bool.false_eq_true, false_iff]
            intro h
            have h9 : ((x.dbg.take (i + 1)).map dKey).Nodup := by
              have h8 := h.2
              rw [← List.take_append_drop (i + 1) x.dbg, List.map_append, List.nodup_append] at h8
              exact h8.1
            exact ((nodup_take il).1 h9).2 j jl hji (by rw [← HX.out.2.2.1]; exact hkey.2 hy)) _ (below_tr H8.out.1 (below_tr hb2 hB11)))
          have HJ := Lib.hid hji
          have HW11 := Lib.hid (And.intro hW11 hb11)
          have e0 : decide (j < i) = true := by simpa using hji
          have e1 : (0 : Int) ≤ (j : Int) := by omega
          have e2 : (j : Int) < (i : Int) := by omega
          clear hne hb2 pl2 cw2 hd2 hdd2 hW11 hb11 hB11 k11 k9 hkey hji hj
          go_upto_region 9 with (fail)
          rw [← HW11.out.2]
          change Code.wp _ _ _ _ (wr.alloc (.cells #[I dep2, I var2, U8 kind2, I arg2, I da2, I db2] 57))
          rw [← HW11.out.1]
          clear c0 c1 c2 c3 c4 c5
          by_cases q1 : dep2 = dep
          · have g1 : (dep2 == dep) = true := by simpa using q1
            by_cases q2 : var2 = var
            · have g2 : (var2 == var) = true := by simpa using q2
              have HF := Lib.hid (HNO2.out ⟨q1, q2⟩)
              clear q1 q2
              go_wp2_with fail
              go_ret
              exact HF.out
            · have g2 : (var2 == var) = false := by simpa using q2
              have HF := Lib.hid (HNX.out (fun h => q2 h.2))
              clear q1 q2
              go_wp2_with fail
              exact ⟨HF.out, by have := HJ.out; simp [intOf]; omega⟩
          · have g1 : (dep2 == dep) = false := by simpa using q1
            have HF := Lib.hid (HNX.out (fun h => q1 h.1))
            clear q1
            go_wp2_with fail
            exact ⟨HF.out, by have := HJ.out; simp [intOf]; omega⟩
        · have e0 : decide (j < i) = false := by simpa using hji
          have hje : j = i := by omega
          subst hje
          have HNX := Lib.hid (show Kn1 W1 vr (m : Int) x.dbg (I ((j : Int) + 1)) wr from ⟨j + 1, il, rfl, fun q hq hqj => by
            rcases Nat.lt_or_ge q j with h | h
            · exact HX.out.1 q hq h
            · obtain rfl : q = j := by omega
              exact HOK.out, (nodup_take il).2 ⟨HX.out.2.1, fun q hq hqj => by rw [← HX.out.2.2.1]; exact hne q hq hqj⟩, below_tr H8.out.1 hb2⟩)
          have HJ := Lib.hid HX.out.2.2.2.2.1
          clear hne hb2 hji hj
          go_wp2_with fail
          exact ⟨HNX.out, by have := HJ.out; simp [intOf]; omega⟩
    · have d0 : decide (i < D) = false := by simpa using hin
      have htk : x.dbg.take i = x.dbg := List.take_of_length_le (by have := HH.out.2.2.2.2.2.1; omega)
      rw [htk] at hnd
      have HF := Lib.hid (FIN.out true (by simp only [true_iff]; exact ⟨fun j hj => hok j hj (by have := HH.out.2.2.2.2.2.1; omega), hnd⟩) Wo hb)
      clear hok hnd hb htk hin hi
      go_wp2_with fail
      go_ret
      exact HF.out
end Go.Proofs.Ytjlmkcamefaodaa

/-! RFp: The document's own answer to what a right function is, plainly; and that it says the same. -/

namespace Go.Proofs.Ytjlmkcamefaodaa
open Go Go.RowKit Go.Maps Go.Sort Cd Fl

namespace Cd
def REndB (b : BlockP) : Prop := (1 ≤ b.fin ∧ b.fin ≤ 4) ∧ (b.fin = 2 → b.to ≠ b.els)
def DstOk (f : FunP) (v : Int) : Prop := (0 ≤ v ∧ v < f.vals) ∧ cnt (rMk f) v = 1
def instLen (f : FunP) (i : Nat) : Int := match f.blocks[i]? with | some b => (b.insts.length : Int) | none => 0
def RPhi (f : FunP) (i : Nat) (x : InstP) : Prop := (x.op = 45 ∧ x.args.length = (intoN f i).length) ∧ DstOk f x.dst ∧ ∀ k (h : k < x.args.length) (h' : k < (intoN f i).length), RMay f x.args[k] ((intoN f i)[k] : Int) (instLen f (intoN f i)[k])
def RForm (c : CodeP) (f : FunP) (b : Int) (x : InstP) : Prop := ((shI x.op).2.2 = true ∧ x.op ≠ 45) ∧ ImmOk c f b x
def RArgs (c : CodeP) (f : FunP) (x : InstP) : Prop := (x.args.length : Int) = argsN c x ∧ (makesB x = false → x.dst = -1) ∧ (makesB x = true → 0 ≤ x.dst ∧ x.dst < f.vals)
def RUse (f : FunP) (b k : Int) (x : InstP) : Prop := ∀ v ∈ x.args, RMay f v b k
def RSite (c : CodeP) (x : InstP) : Prop := Tells x ∨ trapsB x.op.toNat = true → 0 ≤ x.site ∧ x.site < (c.stops.length : Int)
def RDbg (f : FunP) (b k : Int) (x : InstP) : Prop := Tells x → ∀ d ∈ x.dbg, d.kind = 2 → RMay f d.arg b k
def RInst (c : CodeP) (f : FunP) (b k : Int) (x : InstP) : Prop := RForm c f b x ∧ RArgs c f x ∧ (makesB x = true → cnt (rMk f) x.dst = 1) ∧ RUse f b k x ∧ RSite c x ∧ (Tells x → KnownOk f.vars (framesN c x) x.dbg) ∧ RDbg f b k x
def REnd (f : FunP) (i : Int) (b : BlockP) : Prop := b.fin = 2 ∨ b.fin = 3 → RMay f b.arg i b.insts.length
def RBlk (c : CodeP) (f : FunP) (i : Nat) (b : BlockP) : Prop := (∀ k (h : k < b.phis.length), RPhi f i b.phis[k]) ∧ (∀ k (h : k < b.insts.length), RInst c f i k b.insts[k]) ∧ REnd f i b
def RFun (c : CodeP) (f : FunP) : Prop := SizesOk f ∧ (∀ i (h : i < f.blocks.length), REndB f.blocks[i]) ∧ errF (waysF f) = 0 ∧ (∀ i, i < f.blocks.length → Rch (gN f) i) ∧ intoN f 0 = [] ∧ (∀ (h : 0 < f.blocks.length), f.blocks[0].phis = []) ∧ ∀ i (h : i < f.blocks.length), RBlk c f i f.blocks[i]

theorem ends_iff {f : FunP} (hs : SizesOk f) : ((∀ i (h : i < f.blocks.length), REndB f.blocks[i]) ∧ errF (waysF f) = 0 ∧ intoN f 0 = []) ↔ EndsOk f := by
  obtain ⟨_, _, _, h1, h6⟩ := hs
  constructor
  · rintro ⟨he, herr, h0⟩ i hi
    have hi' : i < (waysF f).length := by rw [waysF_len]; exact hi
    have e : (waysF f)[i] = waysB f.blocks[i] := by simp [waysF]
    have hin : ∀ t ∈ waysB f.blocks[i], 1 ≤ t ∧ t ≤ (f.blocks.length : Int) - 1 := fun t ht => by
      rw [← e] at ht
      obtain ⟨j, hj, rfl⟩ := List.getElem_of_mem ht
      have hb := errF_in herr hi' hj
      rw [waysF_len] at hb
      refine ⟨?_, by omega⟩
      rcases Int.lt_or_le 0 (waysF f)[i][j] with h | h
      · omega
      · exfalso
        have hz : (waysF f)[i][j] = 0 := by omega
        have hm : i ∈ intoN f 0 := by
          refine mem_rowSt.2 ⟨by rw [gN_len]; exact hi, ?_⟩
          have e2 : row (gN f) i = (waysF f)[i].map Int.toNat := natG_row (waysF f) hi'
          rw [e2]
          refine List.mem_map.2 ⟨(waysF f)[i][j], List.getElem_mem hj, ?_⟩
          rw [hz]; rfl
        rw [h0] at hm
        simp at hm
    have hb := he i hi
    unfold EndOk
    unfold waysB at hin
    unfold REndB at hb
    by_cases q1 : f.blocks[i].fin = 1
    · rw [if_pos q1] at hin
      have := hin _ (by simp : f.blocks[i].to ∈ [f.blocks[i].to])
      exact Or.inl ⟨q1, this⟩
    · rw [if_neg q1] at hin
      by_cases q2 : f.blocks[i].fin = 2
      · rw [if_pos q2] at hin
        have a1 := hin f.blocks[i].to (by simp)
        have a2 := hin f.blocks[i].els (by simp)
        exact Or.inr (Or.inl ⟨q2, a1, a2, hb.2 q2⟩)
      · have := hb.1
        omega
  · intro he
    refine ⟨fun i hi => ?_, waysF_ok h6 he, ?_⟩
    · have := he i hi
      unfold EndOk at this
      unfold REndB
      omega
    · apply List.eq_nil_iff_forall_not_mem.2
      intro p hp
      obtain ⟨hp1, hp2⟩ := mem_rowSt.1 hp
      rw [gN_len] at hp1
      have hi' : p < (waysF f).length := by rw [waysF_len]; exact hp1
      have e2 : row (gN f) p = (waysF f)[p].map Int.toNat := natG_row (waysF f) hi'
      rw [e2] at hp2
      obtain ⟨t, ht, htz⟩ := List.mem_map.1 hp2
      have e : (waysF f)[p] = waysB f.blocks[p] := by simp [waysF]
      rw [e] at ht
      have hb := he p hp1
      unfold waysB at ht
      unfold EndOk at hb
      split at ht
      · have : t = f.blocks[p].to := by simpa using ht
        omega
      · split at ht
        · have : t = f.blocks[p].to ∨ t = f.blocks[p].els := by simpa using ht
          omega
        · simp at ht
/-- What is made is made once and in range, told of each. -/
theorem dok_iff {c : CodeP} {f : FunP} (hi : ∀ i (h : i < f.blocks.length), ∀ x ∈ f.blocks[i].insts, makesB x = true ↔ x.dst ≠ -1) :
    DOk f.vals (mks f) ↔ ∀ i (h : i < f.blocks.length), (∀ x ∈ f.blocks[i].phis, DstOk f x.dst) ∧ ∀ x ∈ f.blocks[i].insts, makesB x = true → DstOk f x.dst := by
  have hmem : ∀ p, p ∈ mks f → ∃ (i : Nat) (h : i < f.blocks.length), (∃ x ∈ f.blocks[i].phis, x.dst = p.1) ∨ ∃ x ∈ f.blocks[i].insts, x.dst = p.1 ∧ x.dst ≠ -1 := fun p hp => by
    have key : ∀ k, k ≤ f.blocks.length → p ∈ mkBl f k → ∃ (i : Nat) (h : i < f.blocks.length), (∃ x ∈ f.blocks[i].phis, x.dst = p.1) ∨ ∃ x ∈ f.blocks[i].insts, x.dst = p.1 ∧ x.dst ≠ -1 := fun k hk h => by
      induction k with
      | zero => simp [mkBl] at h
      | succ k ih =>
        rw [mkBl_succ f hk] at h
        rcases List.mem_append.1 h with h | h
        · exact ih (by omega) h
        · refine ⟨k, hk, ?_⟩
          unfold mkB at h
          rcases List.mem_append.1 h with h | h
          · obtain ⟨x, hx, rfl⟩ := List.mem_map.1 h
            exact Or.inl ⟨x, hx, rfl⟩
          · right
            have hin : ∀ m, m ≤ f.blocks[k].insts.length → p ∈ mkIn k f.blocks[k].insts m → ∃ x ∈ f.blocks[k].insts, x.dst = p.1 ∧ x.dst ≠ -1 := fun m hm hp => by
              induction m with
              | zero => simp [mkIn] at hp
              | succ m ihm =>
                rw [mkIn_succ _ _ hm] at hp
                rcases List.mem_append.1 hp with h2 | h2
                · exact ihm (by omega) h2
                · unfold mk1 at h2
                  split at h2
                  · simp at h2
                  · rename_i hne
                    have : p = (f.blocks[k].insts[m].dst, (k : Int), (m : Int)) := by simpa using h2
                    exact ⟨_, List.getElem_mem hm, by rw [this], hne⟩
            exact hin _ (Nat.le_refl _) h
    exact key _ (Nat.le_refl _) hp
  have hin : ∀ i (h : i < f.blocks.length), (∀ x ∈ f.blocks[i].phis, ∃ p ∈ mks f, p.1 = x.dst) ∧ ∀ x ∈ f.blocks[i].insts, x.dst ≠ -1 → ∃ p ∈ mks f, p.1 = x.dst := fun i h => by
    obtain ⟨R, hR⟩ := pre_mks f h
    rw [mkBl_succ f h] at hR
    constructor
    · intro x hx
      refine ⟨(x.dst, (i : Int), -1), ?_, rfl⟩
      rw [hR]
      refine List.mem_append_left _ (List.mem_append_right _ (List.mem_append_left _ ?_))
      exact List.mem_map.2 ⟨x, hx, rfl⟩
    · intro x hx hne
      obtain ⟨m, hm, rfl⟩ := List.getElem_of_mem hx
      refine ⟨(f.blocks[i].insts[m].dst, (i : Int), (m : Int)), ?_, rfl⟩
      rw [hR]
      refine List.mem_append_left _ (List.mem_append_right _ (List.mem_append_right _ ?_))
      obtain ⟨R2, hR2⟩ := mkIn_pre i f.blocks[i].insts (show m + 1 ≤ f.blocks[i].insts.length from hm)
      rw [hR2, mkIn_succ _ _ hm]
      refine List.mem_append_left _ (List.mem_append_right _ ?_)
      unfold mk1
      rw [if_neg hne]
      simp
  constructor
  · rintro ⟨hd, hr⟩ i h
    have hone : ∀ p ∈ mks f, DstOk f p.1 := fun p hp => by
      have h1 := hr p hp
      exact ⟨⟨h1.1, by omega⟩, by rw [← cnt_mks h1.1]; exact cnt_nodup.1 hd p hp⟩
    refine ⟨fun x hx => ?_, fun x hx hm => ?_⟩
    · obtain ⟨p, hp, e⟩ := (hin i h).1 x hx
      rw [← e]; exact hone p hp
    · obtain ⟨p, hp, e⟩ := (hin i h).2 x hx ((hi i h x hx).1 hm)
      rw [← e]; exact hone p hp
  · intro hall
    have hone : ∀ p ∈ mks f, DstOk f p.1 := fun p hp => by
      obtain ⟨i, h, h2⟩ := hmem p hp
      rcases h2 with ⟨x, hx, e⟩ | ⟨x, hx, e, hne⟩
      · rw [← e]; exact (hall i h).1 x hx
      · rw [← e]; exact (hall i h).2 x hx ((hi i h x hx).2 hne)
    exact ⟨cnt_nodup.2 fun p hp => by rw [cnt_mks (hone p hp).1.1]; exact (hone p hp).2, fun p hp => by have := (hone p hp).1; omega⟩
end Cd
end Go.Proofs.Ytjlmkcamefaodaa
