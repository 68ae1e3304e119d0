/-
  Joined: KT, RPc.
-/
import Derived.Test.YtjlmkcamefaodaaJ33
/-! KT: Is code plain: the program's walk. -/

namespace Go.Proofs.Ytjlmkcamefaodaa
open Go Go.RowKit Go.Maps Go.Sort Cd Fl

def PlR1 (w : World) (c : CodeP) (iv : Value) (W : World) : Prop := ∃ i : Nat, i ≤ c.funs.length ∧ iv = I (i : Int) ∧ (∀ j (h : j < c.funs.length), j < i → ∀ b ∈ c.funs[j].blocks, ∀ x ∈ b.insts, ¬ Asks x) ∧ Below w.heap.size w W
def PlR2 (w : World) (f : FunP) (iv : Value) (W : World) : Prop := ∃ i : Nat, i ≤ f.blocks.length ∧ iv = I (i : Int) ∧ (∀ j (h : j < f.blocks.length), j < i → ∀ x ∈ f.blocks[j].insts, ¬ Asks x) ∧ Below w.heap.size w W
def PlR3 (w : World) (y : BlockP) (iv : Value) (W : World) : Prop := ∃ i : Nat, i ≤ y.insts.length ∧ iv = I (i : Int) ∧ (∀ j (h : j < y.insts.length), j < i → ¬ Asks y.insts[j]) ∧ Below w.heap.size w W

set_option maxRecDepth 100000 in
set_option maxHeartbeats 3200000 in
theorem plain_any (v : Value) (c : CodeP) (hT : totN c ≤ 4000000) (h4 : sizeC c ≤ 40000) (hs : SmA c) (w : World) (h : CodeZ w v c) :
    Calls Try.prog 10 #[v] w fun e w' => TellB (PlainC c) w e w' := by
  have h' := h
  obtain ⟨fv, sv, rfl, hf, hst⟩ := h'
  obtain ⟨fa, fc, rfl⟩ := hf.size
  obtain ⟨sa, sc, rfl⟩ := hst.size
  obtain ⟨F, hF⟩ : ∃ F, F = c.funs.length := ⟨_, rfl⟩
  obtain ⟨T, hT'⟩ : ∃ F, F = c.stops.length := ⟨_, rfl⟩
  obtain ⟨mn, hmn⟩ : ∃ m, m = c.main := ⟨_, rfl⟩
  rw [← hF, ← hT', ← hmn] at h ⊢
  rw [← hF] at hf
  have hFb : (F : Int) ≤ 1000000 := by have := hs.sm.fl; omega
  obtain ⟨W1, hW1⟩ : ∃ W, W = w.alloc (.cells #[.slice fa F fc, .slice sa T sc, I mn] 25) := ⟨_, rfl⟩
  obtain ⟨b1, hb1⟩ : ∃ b, b = w.heap.size := ⟨_, rfl⟩
  have hB1 : Below w.heap.size w W1 := by rw [hW1]; exact (Below.refl _ _).alloc (Nat.le_refl _) _
  have k1 : Blk b1 #[.slice fa F fc, .slice sa T sc, I mn] 25 W1 := by rw [hW1, hb1]; exact Blk.new _ _ _
  have x0 := k1.get 0 (.slice fa F fc) rfl
  have x1 := k1.get 1 (.slice sa T sc) rfl
  have x2 := k1.get 2 (I mn) rfl
  have hC1 := Lib.hid (check_any _ c hT h4 hs W1 (h.below hB1))
  have HH := Lib.hid (And.intro hF (And.intro hB1 (And.intro k1 (And.intro hs (hf.below funV_stays hB1)))))
  have HW1 := Lib.hid (And.intro hW1 hb1)
  clear hF hT' hmn hB1 k1 hW1 hb1 hf hst hT h4 hs h
  go_enter Try.func10, Try.ntmps10
  go_upto_region 1 with (fail)
  rw [← HW1.out.2]
  change Code.wp _ _ _ _ (w.alloc (.cells #[.slice fa F fc, .slice sa T sc, I mn] 25))
  rw [← HW1.out.1]
  go_wp2_with fail
  refine hC1.out.mono ?_
  rintro e w2 ⟨r, rfl, hr, hb2⟩
  clear x0 x1 x2
  cases r
  · have HF := Lib.hid (show TellB (PlainC c) w (.returned (.bool false)) w2 from ⟨false, rfl, by simp only [Bool.false_eq_true, false_iff]; exact fun h => absurd (hr.2 h.1) (by decide), below_tr HH.out.2.1 hb2⟩)
    clear hr hb2
    go_wp2_with fail
    go_ret
    exact HF.out
  have HR := Lib.hid (hr.1 rfl)
  have x0 := (HH.out.2.2.1.below hb2 HH.out.2.2.1.lt).get 0 (.slice fa F fc) rfl
  have H2 := Lib.hid (And.intro (HH.out.2.2.2.2.below funV_stays hb2) (below_tr HH.out.2.1 hb2))
  have HNO := Lib.hid (show ∀ W', Below w2.heap.size w2 W' → (∃ (i : Nat) (h : i < c.funs.length), ∃ b ∈ c.funs[i].blocks, ∃ x ∈ b.insts, Asks x) → TellB (PlainC c) w (.returned (.bool false)) W' from fun W' hW' ⟨i, hi, b, hb, x, hx, ha⟩ => ⟨false, rfl, by simp only [Bool.false_eq_true, false_iff]; exact fun h => h.2 i hi b hb x hx ha, below_tr (below_tr HH.out.2.1 hb2) hW'⟩)
  have HST := Lib.hid (show PlR1 w2 c (I 0) w2 from ⟨0, Nat.zero_le _, rfl, fun j _ h => absurd h (by omega), Below.refl _ _⟩)
  clear hr hb2
  go_wp2_with fail
  clear x0
  go_loopw [15] (fun iv W => PlR1 w2 c iv W) (fun iv _ => F - (intOf iv).toNat)
  case atStart => exact HST.out
  case round =>
    obtain ⟨i, hi, rfl, hfs, hb⟩ := hrel
    clear HST
    obtain ⟨Wo, rfl⟩ : ∃ W : World, W = wr := ⟨_, rfl⟩
    by_cases hin : i < F
    · have il : i < c.funs.length := by have := HH.out.1; omega
      obtain ⟨b, _, hfa, hbB, cw, bv, hbv, hbl⟩ := (H2.out.1.below funV_stays hb).at i il
      subst hfa hbv
      obtain ⟨ba, bc, hbs⟩ := hbl.size
      obtain ⟨f, hf⟩ : ∃ f, f = c.funs[i] := ⟨_, rfl⟩
      rw [← hf] at cw hbl hbs
      have hsf := HH.out.2.2.2.1.fs i il
      rw [← hf] at hsf
      obtain ⟨n, hn⟩ : ∃ n, n = f.blocks.length := ⟨_, rfl⟩
      rw [← hn] at hbs
      subst hbs
      have hnb : (n : Int) ≤ 1000000 := by have := hsf.2.bl; omega
      obtain ⟨pr, vr, vl, hpp⟩ : ∃ a b d, f.params = a ∧ f.vars = b ∧ f.vals = d := ⟨_, _, _, rfl, rfl, rfl⟩
      rw [hpp.1, hpp.2.1, hpp.2.2] at cw
      have c0 := cw.f0
      have c1 := cw.f1
      have c2 := cw.f2
      have c3 := cw.f3
      obtain ⟨W5, hW5⟩ : ∃ W, W = Wo.alloc (.cells #[I pr, I vr, I vl, .slice ba n bc] 36) := ⟨_, rfl⟩
      obtain ⟨b5, hb5⟩ : ∃ b, b = Wo.heap.size := ⟨_, rfl⟩
      have hB5 : Below Wo.heap.size Wo W5 := by rw [hW5]; exact (Below.refl _ _).alloc (Nat.le_refl _) _
      have k5 : Blk b5 #[I pr, I vr, I vl, .slice ba n bc] 36 W5 := by rw [hW5, hb5]; exact Blk.new _ _ _
      have z3 := k5.get 3 (.slice ba n bc) rfl
      have HS2 := Lib.hid (show PlR2 W5 f (I 0) W5 from ⟨0, Nat.zero_le _, rfl, fun j _ h => absurd h (by omega), Below.refl _ _⟩)
      have H5 := Lib.hid (And.intro (hbl.below blockV_stays hB5) (And.intro hn (And.intro (below_tr hb hB5) (And.intro hin (And.intro hf (And.intro hsf hfs))))))
      have HW5 := Lib.hid (And.intro hW5 hb5)
      have d0 : decide (i < F) = true := by simpa using hin
      have d1 : (0 : Int) ≤ (i : Int) := by omega
      have d2 : (i : Int) < (F : Int) := by omega
      clear hfs hb hbB cw hbl hn hpp hW5 hb5 hB5 k5 hin hi hsf hf
      go_upto_region 6 with (fail)
      rw [← HW5.out.2]
      change Code.wp _ _ _ _ (Wo.alloc (.cells #[I pr, I vr, I vl, .slice ba n bc] 36))
      rw [← HW5.out.1]
      clear c0 c1 c2 c3
      go_wp2_with fail
      clear z3
      go_loopw [22] (fun jv W => PlR2 W5 f jv W) (fun jv _ => n - (intOf jv).toNat)
      case atStart => exact HS2.out
      case round =>
        obtain ⟨j, hj, rfl, hbs, hb⟩ := hrel
        clear HS2
        obtain ⟨Wp, rfl⟩ : ∃ W : World, W = wr := ⟨_, rfl⟩
        by_cases hjn : j < n
        · have jl : j < f.blocks.length := by have := H5.out.2.1; omega
          obtain ⟨g1, _, e1, gl, cw, pv, iv, rfl, hpz, hiz⟩ := (H5.out.1.below blockV_stays hb).at j jl
          subst e1
          obtain ⟨pa, pc, hpv⟩ := hpz.size
          obtain ⟨ia, ic, hiv⟩ := hiz.size
          obtain ⟨y, hy⟩ : ∃ x, x = f.blocks[j] := ⟨_, rfl⟩
          rw [← hy] at cw hpz hiz hpv hiv
          have hyi := H5.out.2.2.2.2.2.1.2.ins j jl
          rw [← hy] at hyi
          obtain ⟨PL, hP⟩ : ∃ P, P = y.phis.length := ⟨_, rfl⟩
          obtain ⟨J, hJ⟩ : ∃ P, P = y.insts.length := ⟨_, rfl⟩
          subst hpv hiv
          have hJb : (J : Int) ≤ 1000000 := by
            have h1 := cB_succ f jl
            have h2 := cB_mono f (show j + 1 ≤ f.blocks.length from jl)
            have h3 := H5.out.2.2.2.2.2.1.2.cb
            rw [← hy, ← hJ] at h1
            omega
          obtain ⟨fin, arg, tt, els, hyy⟩ : ∃ fin arg tt els, y.fin = fin ∧ y.arg = arg ∧ y.to = tt ∧ y.els = els := ⟨_, _, _, _, rfl, rfl, rfl, rfl⟩
          rw [hyy.1, hyy.2.1, hyy.2.2.1, hyy.2.2.2, ← hP, ← hJ] at cw
          rw [← hJ] at hiz
          have c0 := cw.f0
          have c1 := cw.f1
          have c2 := cw.f2
          have c3 := cw.f3
          have c4 := cw.f4
          have c5 := cw.f5
          obtain ⟨W7, hW7⟩ : ∃ W, W = Wp.alloc (.cells #[.slice pa PL pc, .slice ia J ic, U8 fin, I arg, I tt, I els] 40) := ⟨_, rfl⟩
          obtain ⟨b7, hb7⟩ : ∃ b, b = Wp.heap.size := ⟨_, rfl⟩
          have hB7 : Below Wp.heap.size Wp W7 := by rw [hW7]; exact (Below.refl _ _).alloc (Nat.le_refl _) _
          have k7 : Blk b7 #[.slice pa PL pc, .slice ia J ic, U8 fin, I arg, I tt, I els] 40 W7 := by rw [hW7, hb7]; exact Blk.new _ _ _
          have z1 := k7.get 1 (.slice ia J ic) rfl
          have HS3 := Lib.hid (show PlR3 W7 y (I 0) W7 from ⟨0, Nat.zero_le _, rfl, fun j _ h => absurd h (by omega), Below.refl _ _⟩)
          have H7 := Lib.hid (And.intro (hiz.below instV_stays hB7) (And.intro hJ (And.intro (below_tr hb hB7) (And.intro hjn (And.intro hy (And.intro hyi hbs))))))
          have HW7 := Lib.hid (And.intro hW7 hb7)
          have d0 : decide (j < n) = true := by simpa using hjn
          have d1 : (0 : Int) ≤ (j : Int) := by omega
          have d2 : (j : Int) < (n : Int) := by omega
          clear hbs hb gl cw hpz hiz hP hJ hyy hjn hj hyi hW7 hb7 hB7 k7 hy
          go_upto_region 9 with (fail)
          rw [← HW7.out.2]
          change Code.wp _ _ _ _ (Wp.alloc (.cells #[.slice pa PL pc, .slice ia J ic, U8 fin, I arg, I tt, I els] 40))
          rw [← HW7.out.1]
          clear c0 c1 c2 c3 c4 c5
          go_wp2_with fail
          clear z1
          go_loopw [29] (fun kv W => PlR3 W7 y kv W) (fun kv _ => J - (intOf kv).toNat)
          case atStart => exact HS3.out
          case round =>
            obtain ⟨k, hk, rfl, his, hb⟩ := hrel
            clear HS3
            obtain ⟨Wq, rfl⟩ : ∃ W : World, W = wr := ⟨_, rfl⟩
            by_cases hkJ : k < J
            · have kx : k < y.insts.length := by have := H7.out.2.1; omega
              obtain ⟨pb, _, e1, pl, cw, av, dv, rfl, haz, hdz⟩ := (H7.out.1.below instV_stays hb).at k kx
              subst e1
              obtain ⟨aa, ac, hav⟩ := haz.size
              obtain ⟨da, dc, hdv⟩ := hdz.size
              obtain ⟨x, hx⟩ : ∃ y', y' = y.insts[k] := ⟨_, rfl⟩
              have hsi : SmI x := by rw [hx]; exact H7.out.2.2.2.2.2.1.2.1 _ (List.getElem_mem kx)
              rw [← hx] at cw haz hdz hav hdv
              obtain ⟨A, hA⟩ : ∃ A, A = x.args.length := ⟨_, rfl⟩
              obtain ⟨D, hD⟩ : ∃ A, A = x.dbg.length := ⟨_, rfl⟩
              subst hav hdv
              obtain ⟨op, dst, imm, site, hyy⟩ : ∃ op dst imm site, x.op = op ∧ x.dst = dst ∧ x.imm = imm ∧ x.site = site := ⟨_, _, _, _, rfl, rfl, rfl, rfl⟩
              rw [hyy.1, hyy.2.1, hyy.2.2.1, hyy.2.2.2, ← hA, ← hD] at cw
              have c0 := cw.f0
              have c1 := cw.f1
              have c2 := cw.f2
              have c3 := cw.f3
              have c4 := cw.f4
              have c5 := cw.f5
              obtain ⟨W9, hW9⟩ : ∃ W, W = Wq.alloc (.cells #[U8 op, I dst, .slice aa A ac, I imm, I site, .slice da D dc] 44) := ⟨_, rfl⟩
              obtain ⟨b9, hb9⟩ : ∃ b, b = Wq.heap.size := ⟨_, rfl⟩
              have hB9 : Below Wq.heap.size Wq W9 := by rw [hW9]; exact (Below.refl _ _).alloc (Nat.le_refl _) _
              have k9 : Blk b9 #[U8 op, I dst, .slice aa A ac, I imm, I site, .slice da D dc] 44 W9 := by rw [hW9, hb9]; exact Blk.new _ _ _
              have z0 := k9.get 0 (U8 op) rfl
              have z1 := k9.get 1 (I dst) rfl
              have z2 := k9.get 2 (.slice aa A ac) rfl
              have z3 := k9.get 3 (I imm) rfl
              have z4 := k9.get 4 (I site) rfl
              have z5 := k9.get 5 (.slice da D dc) rfl
              have hdz9 := hdz.below dbgV_stays hB9
              have HW9 := Lib.hid (And.intro hW9 hb9)
              have HY := Lib.hid (show Asks x → ∀ W', Below W9.heap.size W9 W' → TellB (PlainC c) w (.returned (.bool false)) W' from fun ha W' hW' => HNO.out W' (below_tr H5.out.2.2.1 (below_tr H7.out.2.2.1 (below_tr hb (below_tr hB9 hW')))) ⟨i, il, y, by rw [← H5.out.2.2.2.2.1, H7.out.2.2.2.2.1]; exact List.getElem_mem jl, x, by rw [hx]; exact List.getElem_mem kx, ha⟩)
              have HNX := Lib.hid (show ¬ Asks x → ∀ W', Below W9.heap.size W9 W' → PlR3 W7 y (I ((k : Int) + 1)) W' from fun hn W' hW' => ⟨k + 1, kx, rfl, fun j hj hjk => by
                rcases Nat.lt_or_ge j k with h | h
                · exact his j hj h
                · obtain rfl : j = k := by omega
                  rw [← hx]; exact hn, below_tr hb (below_tr hB9 hW')⟩)
              have HK := Lib.hid (And.intro hkJ (And.intro hsi (And.intro hyy (And.intro hA (And.intro hD (And.intro hdz9 k9))))))
              have d0 : decide (k < J) = true := by simpa using hkJ
              have d1 : (0 : Int) ≤ (k : Int) := by omega
              have d2 : (k : Int) < (J : Int) := by omega
              clear his hb pl cw haz hdz hsi hyy hW9 hb9 hB9 k9 hkJ hk hdz9 hx kx hA hD
              go_upto_region 12 with (fail)
              rw [← HW9.out.2]
              change Code.wp _ _ _ _ (Wq.alloc (.cells #[U8 op, I dst, .slice aa A ac, I imm, I site, .slice da D dc] 44))
              rw [← HW9.out.1]
              clear c0 c1 c2 c3 c4 c5
              have hC9 : Hid (Calls Try.prog 22 #[.agg #[U8 x.op, I x.dst, .slice aa A ac, I x.imm, I x.site, .slice da x.dbg.length dc]] W9 fun e w' => TellB (Asks x) W9 e w') := Lib.hid (asks_any x HK.out.2.1 (.slice aa A ac) (.slice da x.dbg.length dc) W9 ⟨_, _, _, rfl⟩ (by rw [← HK.out.2.2.2.2.1]; have h9 := HK.out.2.2.2.2.2.1; rw [← HK.out.2.2.2.2.1] at h9; exact h9))
              rw [HK.out.2.2.1.1, HK.out.2.2.1.2.1, HK.out.2.2.1.2.2.1, HK.out.2.2.1.2.2.2, ← HK.out.2.2.2.2.1] at hC9
              go_wp2_with fail
              refine hC9.out.mono ?_
              rintro e w9 ⟨r, rfl, hr, hb9⟩
              cases r
              · have HF := Lib.hid (HNX.out (fun h => absurd (hr.2 h) (by decide)) w9 hb9)
                clear hr hb9 z0 z1 z2 z3 z4 z5
                go_wp2_with fail
                exact ⟨HF.out, by have := HK.out.1; simp [intOf]; omega⟩
              · have HF := Lib.hid (HY.out (hr.1 rfl) w9 hb9)
                clear hr hb9 z0 z1 z2 z3 z4 z5
                go_wp2_with fail
                go_ret
                exact HF.out
            · have d0 : decide (k < J) = false := by simpa using hkJ
              have HNX := Lib.hid (show PlR2 W5 f (I ((j : Int) + 1)) Wq from ⟨j + 1, jl, rfl, fun j' hj' hjk => by
                rcases Nat.lt_or_ge j' j with h | h
                · exact H7.out.2.2.2.2.2.2 j' hj' h
                · obtain rfl : j' = j := by omega
                  intro x hx
                  rw [← H7.out.2.2.2.2.1] at hx
                  obtain ⟨q, hq, rfl⟩ := List.getElem_of_mem hx
                  exact his q hq (by have := H7.out.2.1; omega), below_tr H7.out.2.2.1 hb⟩)
              have HJ := Lib.hid H7.out.2.2.2.1
              clear his hb hkJ hk
              go_wp2_with fail
              exact ⟨HNX.out, by have := HJ.out; simp [intOf]; omega⟩
        · have d0 : decide (j < n) = false := by simpa using hjn
          have HNX := Lib.hid (show PlR1 w2 c (I ((i : Int) + 1)) Wp from ⟨i + 1, il, rfl, fun j' hj' hjk => by
            rcases Nat.lt_or_ge j' i with h | h
            · exact H5.out.2.2.2.2.2.2 j' hj' h
            · obtain rfl : j' = i := by omega
              intro b hb' x hx
              rw [← H5.out.2.2.2.2.1] at hb'
              obtain ⟨q, hq, rfl⟩ := List.getElem_of_mem hb'
              exact hbs q hq (by have := H5.out.2.1; omega) x hx, below_tr H5.out.2.2.1 hb⟩)
          have HJ := Lib.hid H5.out.2.2.2.1
          clear hbs hb hjn hj
          go_wp2_with fail
          exact ⟨HNX.out, by have := HJ.out; simp [intOf]; omega⟩
    · have d0 : decide (i < F) = false := by simpa using hin
      have HF := Lib.hid (show TellB (PlainC c) w (.returned (.bool true)) Wo from ⟨true, rfl, by simp only [true_iff]; exact ⟨HR.out, fun j hj b hb' x hx => hfs j hj (by have := HH.out.1; omega) b hb' x hx⟩, below_tr H2.out.2 hb⟩)
      clear hfs hb hin hi
      go_wp2_with fail
      go_ret
      exact HF.out
end Go.Proofs.Ytjlmkcamefaodaa

/-! RPc: The document's own answer to what right code is: who makes what, counted. -/

namespace Go.Proofs.Ytjlmkcamefaodaa
open Go Go.RowKit Go.Maps Go.Sort Cd Fl

namespace Cd
/-- All that stand in a list, as the document's answer has them. -/
def rowM (g : Nat → Int) (i : Int) (l : List InstP) : Nat → List Mk
  | 0 => []
  | k + 1 => rowM g i l k ++ (match l[k]? with | some x => [(x.dst, i, g k)] | none => [])
theorem rowM_succ (g : Nat → Int) (i : Int) (l : List InstP) {k : Nat} (h : k < l.length) : rowM g i l (k + 1) = rowM g i l k ++ [(l[k].dst, i, g k)] := by
  show rowM g i l k ++ _ = _
  rw [List.getElem?_eq_getElem h]
def gPh (b : BlockP) (k : Nat) : Int := (k : Int) - (b.phis.length : Int)
def gIn (k : Nat) : Int := (k : Int)
def rB (i : Int) (b : BlockP) : List Mk := rowM (gPh b) i b.phis b.phis.length ++ rowM gIn i b.insts b.insts.length
def rBl (f : FunP) : Nat → List Mk
  | 0 => []
  | k + 1 => rBl f k ++ (match f.blocks[k]? with | some b => rB k b | none => [])
theorem rBl_succ (f : FunP) {k : Nat} (h : k < f.blocks.length) : rBl f (k + 1) = rBl f k ++ rB k f.blocks[k] := by
  show rBl f k ++ _ = _
  rw [List.getElem?_eq_getElem h]
def rMk (f : FunP) : List Mk := rBl f f.blocks.length
def cnt (L : List Mk) (v : Int) : Nat := L.countP (fun p => p.1 == v)
theorem cnt_app (L M : List Mk) (v : Int) : cnt (L ++ M) v = cnt L v + cnt M v := List.countP_append
theorem cnt_one (p : Mk) (v : Int) : cnt [p] v = if p.1 = v then 1 else 0 := by
  unfold cnt
  rw [List.countP_singleton]
  by_cases e : p.1 = v <;> simp [e]
def gM (p : Mk) : Option Mk := if p.2.2 < 0 then some (p.1, p.2.1, -1) else if p.1 = -1 then none else some p
theorem mkPh_gM (i : Int) (b : BlockP) {k : Nat} (hk : k ≤ b.phis.length) : mkPh i (b.phis.take k) = (rowM (gPh b) i b.phis k).filterMap gM := by
  induction k with
  | zero => simp [mkPh, rowM]
  | succ k ih =>
    rw [mkPh_take _ _ hk, rowM_succ _ _ _ hk, List.filterMap_append, ih (by omega)]
    congr 1
    have h : gPh b k < 0 := by unfold gPh; omega
    simp [gM, h]
theorem mkIn_gM (i : Int) (l : List InstP) {k : Nat} (hk : k ≤ l.length) : mkIn i l k = (rowM gIn i l k).filterMap gM := by
  induction k with
  | zero => simp [mkIn, rowM]
  | succ k ih =>
    rw [mkIn_succ _ _ hk, rowM_succ _ _ _ hk, List.filterMap_append, ih (by omega)]
    congr 1
    have h : ¬ gIn k < 0 := by unfold gIn; omega
    unfold mk1
    by_cases e : l[k].dst = -1
    · simp [gM, h, e]
    · have e2 : gM (l[k].dst, i, gIn k) = some (l[k].dst, i, (k : Int)) := by
        unfold gM
        rw [if_neg h, if_neg e]
        rfl
      rw [if_neg e]
      simp only [List.filterMap_cons, e2, List.filterMap_nil]
theorem mks_gM (f : FunP) : mks f = (rMk f).filterMap gM := by
  have key : ∀ k, k ≤ f.blocks.length → mkBl f k = (rBl f k).filterMap gM := fun k hk => by
    induction k with
    | zero => simp [mkBl, rBl]
    | succ k ih =>
      rw [mkBl_succ f hk, rBl_succ f hk, List.filterMap_append, ih (by omega)]
      congr 1
      unfold mkB rB
      rw [List.filterMap_append, ← mkIn_gM _ _ (Nat.le_refl _), ← mkPh_gM _ _ (Nat.le_refl _), List.take_length]
  exact key _ (Nat.le_refl _)
theorem gM_fst {p q : Mk} (h : gM p = some q) : q.1 = p.1 ∧ q.2.1 = p.2.1 ∧ (∀ a : Int, 0 ≤ a → (q.2.2 < a ↔ p.2.2 < a)) := by
  unfold gM at h
  split at h
  · cases h
    exact ⟨rfl, rfl, fun a ha => ⟨fun _ => by omega, fun _ => by show (-1 : Int) < a; omega⟩⟩
  · split at h
    · cases h
    · cases h
      exact ⟨rfl, rfl, fun a _ => Iff.rfl⟩
theorem cnt_mks {f : FunP} {v : Int} (hv : 0 ≤ v) : cnt (mks f) v = cnt (rMk f) v := by
  rw [mks_gM]
  unfold cnt
  rw [List.countP_filterMap]
  congr 1
  funext p
  cases e : gM p with
  | some q => simp [(gM_fst e).1]
  | none =>
    have h1 : p.1 = -1 := by
      unfold gM at e
      split at e
      · cases e
      · split at e
        · assumption
        · cases e
    have : ¬ p.1 = v := by omega
    simp [this]
/-- May a value be used there, by the document's answer? -/
def RMay (f : FunP) (v b a : Int) : Prop := (0 ≤ v ∧ v < f.vals) ∧ cnt (rMk f) v = 1 ∧ ∃ pb pa, (v, pb, pa) ∈ rMk f ∧ ((pb = b ∧ pa < a) ∨ (pb ≠ b ∧ DomG (gN f) pb.toNat b.toNat))
theorem cnt_pos {L : List Mk} {v : Int} (h : cnt L v ≠ 0) : ∃ p ∈ L, p.1 = v := by
  unfold cnt at h
  have := List.countP_pos_iff.1 (Nat.pos_of_ne_zero h)
  obtain ⟨p, hp, h1⟩ := this
  exact ⟨p, hp, by simpa using h1⟩
theorem cnt_mem {L : List Mk} {p : Mk} (h : p ∈ L) : cnt L p.1 ≠ 0 := by
  have : 0 < cnt L p.1 := List.countP_pos_iff.2 ⟨p, h, by simp⟩
  omega
theorem cnt_nodup {L : List Mk} : (L.map (·.1)).Nodup ↔ ∀ p ∈ L, cnt L p.1 = 1 := by
  rw [List.nodup_iff_count]
  have e : ∀ v, List.count v (L.map (·.1)) = cnt L v := fun v => by
    rw [List.count_eq_countP, List.countP_map]
    rfl
  constructor
  · intro h p hp
    have h1 := h p.1
    rw [e] at h1
    have h2 := cnt_mem hp
    omega
  · intro h v
    rw [e]
    by_cases h0 : cnt L v = 0
    · omega
    · obtain ⟨p, hp, rfl⟩ := cnt_pos h0
      exact Nat.le_of_eq (h p hp)
theorem cnt_uniq {L : List Mk} {v : Int} (h : cnt L v = 1) {p q : Int × Int} (hp : (v, p) ∈ L) (hq : (v, q) ∈ L) : p = q := by
  unfold cnt at h
  rw [List.countP_eq_length_filter] at h
  obtain ⟨x, hx⟩ := List.length_eq_one_iff.1 h
  have h1 : (v, p) ∈ L.filter (fun r => r.1 == v) := List.mem_filter.2 ⟨hp, by simp⟩
  have h2 : (v, q) ∈ L.filter (fun r => r.1 == v) := List.mem_filter.2 ⟨hq, by simp⟩
  rw [hx, List.mem_singleton] at h1 h2
  have := h1.trans h2.symm
  injection this
/-- Where what is made is made once and in range, the two say the same of uses. -/
theorem rmay_use {f : FunP} (hd : DOk f.vals (mks f)) {v b a : Int} (ha : 0 ≤ a) : RMay f v b a ↔ UseOk f (mks f) v b a := by
  have hmk := mks_gM f
  constructor
  · rintro ⟨h1, h2, pb, pa, hm, h3⟩
    cases e : gM (v, pb, pa) with
    | none =>
      exfalso
      unfold gM at e
      split at e
      · cases e
      · split at e
        · rename_i h4
          have h5 : v = -1 := h4
          omega
        · cases e
    | some q =>
      obtain ⟨e1, e2, e3⟩ := gM_fst e
      refine ⟨q.2.1, q.2.2, ?_, ?_⟩
      · rw [hmk]
        refine List.mem_filterMap.2 ⟨_, hm, ?_⟩
        rw [e]
        have : q.1 = v := e1
        rw [← this]
      · have e2' : q.2.1 = pb := e2
        rw [e2']
        rcases h3 with h3 | h3
        · exact Or.inl ⟨h3.1, (e3 a ha).2 h3.2⟩
        · exact Or.inr h3
  · rintro ⟨pb, pa, hm, h3⟩
    have hr := hd.2 _ hm
    have h0 : 0 ≤ v ∧ v ≤ f.vals - 1 := hr
    refine ⟨⟨h0.1, by omega⟩, ?_, ?_⟩
    · rw [← cnt_mks h0.1]
      exact cnt_nodup.1 hd.1 _ hm
    · rw [hmk] at hm
      obtain ⟨p, hp, e⟩ := List.mem_filterMap.1 hm
      obtain ⟨e1, e2, e3⟩ := gM_fst e
      have e1' : v = p.1 := e1
      have e2' : pb = p.2.1 := e2
      refine ⟨p.2.1, p.2.2, by rw [e1']; exact hp, ?_⟩
      rw [← e2']
      rcases h3 with h3 | h3
      · exact Or.inl ⟨h3.1, (e3 a ha).1 h3.2⟩
      · exact Or.inr h3
end Cd
end Go.Proofs.Ytjlmkcamefaodaa
