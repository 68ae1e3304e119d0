/-
  Joined: KQ, KR.
-/
import Derived.Test.YtjlmkcamefaodaaJ32
import Derived.Test.YtjlmkcamefaodaaJ02
/-! KQ: How much code there is: the walks. -/

namespace Go.Proofs.Ytjlmkcamefaodaa
open Go Go.RowKit Go.Maps Go.Sort Cd Fl

namespace Cd
def sizeB (b : BlockP) : Nat := b.phis.length + b.insts.length
def sizeF (f : FunP) : Nat := sumN sizeB f.blocks
def sizeC (c : CodeP) : Nat := sumN sizeF c.funs
theorem sumN_le {α : Type} {f g : α → Nat} (h : ∀ x, f x ≤ g x) (l : List α) : sumN f l ≤ sumN g l := by
  induction l with
  | nil => exact Nat.le_refl _
  | cons a l ih =>
    have := h a
    simp only [sumN, List.map_cons, List.sum_cons] at ih ⊢
    omega
theorem len_sumN {α : Type} {f : α → Nat} (h : ∀ x, 1 ≤ f x) (l : List α) : l.length ≤ sumN f l := by
  induction l with
  | nil => exact Nat.zero_le _
  | cons a l ih =>
    have := h a
    simp only [sumN, List.map_cons, List.sum_cons, List.length_cons] at ih ⊢
    omega
theorem sumN_at {α : Type} (f : α → Nat) {l : List α} {i : Nat} (h : i < l.length) : f l[i] ≤ sumN f l := by
  induction l generalizing i with
  | nil => exact absurd h (by simp)
  | cons a l ih =>
    simp only [sumN, List.map_cons, List.sum_cons] at ih ⊢
    cases i with
    | zero => simp
    | succ i =>
      have := ih (i := i) (by simpa using h)
      simp only [List.getElem_cons_succ]
      omega
theorem sizeB_le (b : BlockP) : sizeB b ≤ blockN b := by
  have h1 := len_sumN (f := instN) (fun x => by unfold instN; omega) b.phis
  have h2 := len_sumN (f := instN) (fun x => by unfold instN; omega) b.insts
  unfold sizeB blockN
  omega
theorem sizeF_le (f : FunP) : sizeF f ≤ funN f := by
  have h1 := sumN_le sizeB_le f.blocks
  unfold sizeF funN
  omega
theorem sizeC_tot (c : CodeP) : sizeC c ≤ totN c := by
  have h1 := sumN_le sizeF_le c.funs
  unfold sizeC totN
  omega
theorem blocks_tot {c : CodeP} {i : Nat} (h : i < c.funs.length) : c.funs[i].blocks.length ≤ totN c := by
  have h1 := sumN_at funN h
  have h2 : c.funs[i].blocks.length ≤ funN c.funs[i] := by unfold funN; omega
  unfold totN
  omega
end Cd
def SzR (w : World) (c : CodeP) (tot : Nat) (nv iv : Value) (W : World) : Prop := ∃ i s : Nat, i ≤ c.funs.length ∧ iv = I (i : Int) ∧ nv = I (s : Int) ∧ s + sumN sizeF (c.funs.drop i) = tot ∧ Below w.heap.size w W
def SzR2 (w : World) (f : FunP) (r tot : Nat) (nv iv : Value) (W : World) : Prop := ∃ i s : Nat, i ≤ f.blocks.length ∧ iv = I (i : Int) ∧ nv = I (s : Int) ∧ s + sumN sizeB (f.blocks.drop i) + r = tot ∧ Below w.heap.size w W

set_option maxRecDepth 100000 in
set_option maxHeartbeats 1600000 in
theorem size_any (v : Value) (c : CodeP) (hT : totN c ≤ 4000000) (w : World) (h : CodeZ w v c) :
    Calls Try.prog 12 #[v] w fun e w' => e = .returned (I (sizeC c : Int)) ∧ Below w.heap.size w w' := by
  obtain ⟨fv, sv, rfl, hf, hst⟩ := h
  obtain ⟨fa, fc, rfl⟩ := hf.size
  obtain ⟨sa, sc, rfl⟩ := hst.size
  obtain ⟨F, hF⟩ : ∃ F, F = c.funs.length := ⟨_, rfl⟩
  obtain ⟨T, hT'⟩ : ∃ F, F = c.stops.length := ⟨_, rfl⟩
  obtain ⟨mn, hmn⟩ : ∃ m, m = c.main := ⟨_, rfl⟩
  rw [← hF] at hf
  rw [← hT'] at hst
  obtain ⟨tot, htot⟩ : ∃ t, t = sizeC c := ⟨_, rfl⟩
  have htb : tot ≤ 4000000 := by rw [htot]; exact Nat.le_trans (sizeC_tot c) hT
  have hFb : (F : Int) ≤ 4000000 := by have h9 : c.funs.length ≤ totN c := (by unfold totN; omega); omega
  obtain ⟨W1, hW1⟩ : ∃ W, W = w.alloc (.cells #[.slice fa F fc, .slice sa T sc, I mn] 25) := ⟨_, rfl⟩
  obtain ⟨b1, hb1⟩ : ∃ b, b = w.heap.size := ⟨_, rfl⟩
  have hB1 : Below w.heap.size w W1 := by rw [hW1]; exact (Below.refl _ _).alloc (Nat.le_refl _) _
  have k1 : Blk b1 #[.slice fa F fc, .slice sa T sc, I mn] 25 W1 := by rw [hW1, hb1]; exact Blk.new _ _ _
  have x0 := k1.get 0 (.slice fa F fc) rfl
  have HH := Lib.hid (And.intro hF (And.intro hB1 (And.intro (hf.below funV_stays hB1) (And.intro htot (And.intro htb hT)))))
  have HW1 := Lib.hid (And.intro hW1 hb1)
  have HST := Lib.hid (show SzR W1 c tot (I 0) (I 0) W1 from ⟨0, 0, Nat.zero_le _, rfl, rfl, by rw [Nat.zero_add, sumN_all, htot]; rfl, Below.refl _ _⟩)
  rw [← hF, ← hT', ← hmn, ← htot]
  clear hF hT' hmn hB1 k1 hW1 hb1 hf hst htot htb hT
  go_enter Try.func12, Try.ntmps12
  go_upto_region 1 with (fail)
  rw [← HW1.out.2]
  change Code.wp _ _ _ _ (w.alloc (.cells #[.slice fa F fc, .slice sa T sc, I mn] 25))
  rw [← HW1.out.1]
  go_wp2_with fail
  clear x0
  go_loopw [3, 11] (fun nv iv W => SzR W1 c tot nv iv W) (fun _ iv _ => F - (intOf iv).toNat)
  case atStart => exact HST.out
  case round =>
    obtain ⟨i, s, hi, rfl, rfl, hs, hb⟩ := hrel
    clear HST
    obtain ⟨Wo, rfl⟩ : ∃ W : World, W = wr := ⟨_, rfl⟩
    by_cases hin : i < F
    · have il : i < c.funs.length := by have := HH.out.1; omega
      obtain ⟨b, _, hfa, hbB, cw, bv, hbv, hbl⟩ := (HH.out.2.2.1.below funV_stays hb).at i il
      subst hfa hbv
      obtain ⟨ba, bc, hbs⟩ := hbl.size
      obtain ⟨f, hf⟩ : ∃ f, f = c.funs[i] := ⟨_, rfl⟩
      rw [← hf] at cw hbl hbs
      rw [sumN_drop _ il, ← hf] at hs
      obtain ⟨n, hn⟩ : ∃ n, n = f.blocks.length := ⟨_, rfl⟩
      rw [← hn] at hbs
      subst hbs
      have hnb : (n : Int) ≤ 4000000 := by
        have h1 := blocks_tot il
        rw [← hf, ← hn] at h1
        have := HH.out.2.2.2.2.2
        omega
      obtain ⟨pr, vr, vl, hpp⟩ : ∃ a b d, f.params = a ∧ f.vars = b ∧ f.vals = d := ⟨_, _, _, rfl, rfl, rfl⟩
      rw [hpp.1, hpp.2.1, hpp.2.2] at cw
      have c0 := cw.f0
      have c1 := cw.f1
      have c2 := cw.f2
      have c3 := cw.f3
      obtain ⟨W5, hW5⟩ : ∃ W, W = Wo.alloc (.cells #[I pr, I vr, I vl, .slice ba n bc] 36) := ⟨_, rfl⟩
      obtain ⟨b5, hb5⟩ : ∃ b, b = Wo.heap.size := ⟨_, rfl⟩
      have hB5 : Below Wo.heap.size Wo W5 := by rw [hW5]; exact (Below.refl _ _).alloc (Nat.le_refl _) _
      have k5 : Blk b5 #[I pr, I vr, I vl, .slice ba n bc] 36 W5 := by rw [hW5, hb5]; exact Blk.new _ _ _
      have z3 := k5.get 3 (.slice ba n bc) rfl
      obtain ⟨r, hr⟩ : ∃ r, r = sumN sizeF (c.funs.drop (i + 1)) := ⟨_, rfl⟩
      rw [← hr] at hs
      have HS2 := Lib.hid (show SzR2 W5 f r tot (I (s : Int)) (I 0) W5 from ⟨0, s, Nat.zero_le _, rfl, rfl, by rw [sumN_all]; show s + sizeF f + r = tot; omega, Below.refl _ _⟩)
      have H5 := Lib.hid (And.intro (hbl.below blockV_stays hB5) (And.intro hn (And.intro (below_tr hb hB5) (And.intro hin hr))))
      have HW5 := Lib.hid (And.intro hW5 hb5)
      have d0 : decide (i < F) = true := by simpa using hin
      have d1 : (0 : Int) ≤ (i : Int) := by omega
      have d2 : (i : Int) < (F : Int) := by omega
      clear hs hb hbB cw hbl hf hn hpp hW5 hb5 hB5 k5 hr hin hi il
      go_upto_region 5 with (fail)
      rw [← HW5.out.2]
      change Code.wp _ _ _ _ (Wo.alloc (.cells #[I pr, I vr, I vl, .slice ba n bc] 36))
      rw [← HW5.out.1]
      clear c0 c1 c2 c3
      go_wp2_with fail
      clear z3
      go_loopw [3, 18] (fun nv jv W => SzR2 W5 f r tot nv jv W) (fun _ jv _ => n - (intOf jv).toNat)
      case atStart => exact HS2.out
      case round =>
        obtain ⟨j, s, hj, rfl, rfl, hs, hb⟩ := hrel
        clear HS2
        by_cases hjn : j < n
        · have jl : j < f.blocks.length := by have := H5.out.2.1; omega
          obtain ⟨g1, _, e1, gl, cw, pv, iv, rfl, hpz, hiz⟩ := (H5.out.1.below blockV_stays hb).at j jl
          subst e1
          obtain ⟨pa, pc, rfl⟩ := hpz.size
          obtain ⟨ia, ic, rfl⟩ := hiz.size
          obtain ⟨x, hx⟩ : ∃ x, x = f.blocks[j] := ⟨_, rfl⟩
          rw [← hx] at cw
          rw [sumN_drop _ jl, ← hx] at hs
          have hsz : sizeB x = x.phis.length + x.insts.length := rfl
          obtain ⟨PL, hP⟩ : ∃ P, P = x.phis.length := ⟨_, rfl⟩
          obtain ⟨J, hJ⟩ : ∃ P, P = x.insts.length := ⟨_, rfl⟩
          rw [← hP, ← hJ] at hsz cw
          obtain ⟨fin, arg, tt, els, hyy⟩ : ∃ fin arg tt els, x.fin = fin ∧ x.arg = arg ∧ x.to = tt ∧ x.els = els := ⟨_, _, _, _, rfl, rfl, rfl, rfl⟩
          rw [hyy.1, hyy.2.1, hyy.2.2.1, hyy.2.2.2] at cw
          have c0 := cw.f0
          have c1 := cw.f1
          have c2 := cw.f2
          have c3 := cw.f3
          have c4 := cw.f4
          have c5 := cw.f5
          have hle : s + (PL + J) ≤ 4000000 := by have := HH.out.2.2.2.2.1; omega
          have g1' : (s : Int) + ((PL : Int) + (J : Int)) ≤ 4000000 := by omega
          have g2' : (PL : Int) + (J : Int) ≤ 4000000 := by omega
          have HNX := Lib.hid (show ∀ W', Below wr.heap.size wr W' → SzR2 W5 f r tot (I ((s : Int) + ((PL : Int) + (J : Int)))) (I ((j : Int) + 1)) W' from fun W' hW' => ⟨j + 1, s + (PL + J), jl, rfl, by congr 1, by omega, below_tr hb hW'⟩)
          have HBB := Lib.hid ((Below.refl wr.heap.size wr).alloc (Nat.le_refl _) (.cells #[.slice pa PL pc, .slice ia J ic, U8 fin, I arg, I tt, I els] 40))
          have HJ := Lib.hid hjn
          have d0 : decide (j < n) = true := by simpa using hjn
          have d1 : (0 : Int) ≤ (j : Int) := by omega
          have d2 : (j : Int) < (n : Int) := by omega
          clear hs hb gl cw hpz hiz hx hsz hP hJ hyy hle hjn hj jl
          go_wp2_with fail
          exact ⟨HNX.out _ HBB.out, by have := HJ.out; simp [intOf]; omega⟩
        · have d0 : decide (j < n) = false := by simpa using hjn
          have hjl : f.blocks.length ≤ j := by have := H5.out.2.1; omega
          rw [sumN_end _ hjl] at hs
          have HNX := Lib.hid (show SzR W1 c tot (I (s : Int)) (I ((i : Int) + 1)) wr from ⟨i + 1, s, by have := HH.out.1; have := H5.out.2.2.2.1; omega, rfl, rfl, by rw [← H5.out.2.2.2.2]; omega, below_tr H5.out.2.2.1 hb⟩)
          clear hs hb hjl hjn hj
          go_wp2_with fail
          exact ⟨HNX.out, by have := H5.out.2.2.2.1; simp [intOf]; omega⟩
    · have d0 : decide (i < F) = false := by simpa using hin
      have hil : c.funs.length ≤ i := by have := HH.out.1; omega
      rw [sumN_end _ hil, Nat.add_zero] at hs
      have HF := Lib.hid (show Below w.heap.size w Wo from below_tr HH.out.2.1 hb)
      subst hs
      clear hb hil hin hi
      go_wp2_with fail
      go_ret
      exact ⟨rfl, HF.out⟩

set_option maxRecDepth 100000 in
set_option maxHeartbeats 1600000 in
theorem refSize_any (v : Value) (c : CodeP) (hT : totN c ≤ 4000000) (w : World) (h : CodeZ w v c) :
    Calls Try.prog 13 #[v] w fun e w' => e = .returned (I (sizeC c : Int)) ∧ Below w.heap.size w w' := by
  obtain ⟨fv, sv, rfl, hf, hst⟩ := h
  obtain ⟨fa, fc, rfl⟩ := hf.size
  obtain ⟨sa, sc, rfl⟩ := hst.size
  obtain ⟨F, hF⟩ : ∃ F, F = c.funs.length := ⟨_, rfl⟩
  obtain ⟨T, hT'⟩ : ∃ F, F = c.stops.length := ⟨_, rfl⟩
  obtain ⟨mn, hmn⟩ : ∃ m, m = c.main := ⟨_, rfl⟩
  rw [← hF] at hf
  rw [← hT'] at hst
  obtain ⟨tot, htot⟩ : ∃ t, t = sizeC c := ⟨_, rfl⟩
  have htb : tot ≤ 4000000 := by rw [htot]; exact Nat.le_trans (sizeC_tot c) hT
  have hFb : (F : Int) ≤ 4000000 := by have h9 : c.funs.length ≤ totN c := (by unfold totN; omega); omega
  obtain ⟨W1, hW1⟩ : ∃ W, W = w.alloc (.cells #[.slice fa F fc, .slice sa T sc, I mn] 25) := ⟨_, rfl⟩
  obtain ⟨b1, hb1⟩ : ∃ b, b = w.heap.size := ⟨_, rfl⟩
  have hB1 : Below w.heap.size w W1 := by rw [hW1]; exact (Below.refl _ _).alloc (Nat.le_refl _) _
  have k1 : Blk b1 #[.slice fa F fc, .slice sa T sc, I mn] 25 W1 := by rw [hW1, hb1]; exact Blk.new _ _ _
  have x0 := k1.get 0 (.slice fa F fc) rfl
  have HH := Lib.hid (And.intro hF (And.intro hB1 (And.intro (hf.below funV_stays hB1) (And.intro htot (And.intro htb hT)))))
  have HW1 := Lib.hid (And.intro hW1 hb1)
  have HST := Lib.hid (show SzR W1 c tot (I 0) (I 0) W1 from ⟨0, 0, Nat.zero_le _, rfl, rfl, by rw [Nat.zero_add, sumN_all, htot]; rfl, Below.refl _ _⟩)
  rw [← hF, ← hT', ← hmn, ← htot]
  clear hF hT' hmn hB1 k1 hW1 hb1 hf hst htot htb hT
  go_enter Try.func13, Try.ntmps13
  go_upto_region 1 with (fail)
  rw [← HW1.out.2]
  change Code.wp _ _ _ _ (w.alloc (.cells #[.slice fa F fc, .slice sa T sc, I mn] 25))
  rw [← HW1.out.1]
  go_wp2_with fail
  clear x0
  go_loopw [3, 11] (fun nv iv W => SzR W1 c tot nv iv W) (fun _ iv _ => F - (intOf iv).toNat)
  case atStart => exact HST.out
  case round =>
    obtain ⟨i, s, hi, rfl, rfl, hs, hb⟩ := hrel
    clear HST
    obtain ⟨Wo, rfl⟩ : ∃ W : World, W = wr := ⟨_, rfl⟩
    by_cases hin : i < F
    · have il : i < c.funs.length := by have := HH.out.1; omega
      obtain ⟨b, _, hfa, hbB, cw, bv, hbv, hbl⟩ := (HH.out.2.2.1.below funV_stays hb).at i il
      subst hfa hbv
      obtain ⟨ba, bc, hbs⟩ := hbl.size
      obtain ⟨f, hf⟩ : ∃ f, f = c.funs[i] := ⟨_, rfl⟩
      rw [← hf] at cw hbl hbs
      rw [sumN_drop _ il, ← hf] at hs
      obtain ⟨n, hn⟩ : ∃ n, n = f.blocks.length := ⟨_, rfl⟩
      rw [← hn] at hbs
      subst hbs
      have hnb : (n : Int) ≤ 4000000 := by
        have h1 := blocks_tot il
        rw [← hf, ← hn] at h1
        have := HH.out.2.2.2.2.2
        omega
      obtain ⟨pr, vr, vl, hpp⟩ : ∃ a b d, f.params = a ∧ f.vars = b ∧ f.vals = d := ⟨_, _, _, rfl, rfl, rfl⟩
      rw [hpp.1, hpp.2.1, hpp.2.2] at cw
      have c0 := cw.f0
      have c1 := cw.f1
      have c2 := cw.f2
      have c3 := cw.f3
      obtain ⟨W5, hW5⟩ : ∃ W, W = Wo.alloc (.cells #[I pr, I vr, I vl, .slice ba n bc] 36) := ⟨_, rfl⟩
      obtain ⟨b5, hb5⟩ : ∃ b, b = Wo.heap.size := ⟨_, rfl⟩
      have hB5 : Below Wo.heap.size Wo W5 := by rw [hW5]; exact (Below.refl _ _).alloc (Nat.le_refl _) _
      have k5 : Blk b5 #[I pr, I vr, I vl, .slice ba n bc] 36 W5 := by rw [hW5, hb5]; exact Blk.new _ _ _
      have z3 := k5.get 3 (.slice ba n bc) rfl
      obtain ⟨r, hr⟩ : ∃ r, r = sumN sizeF (c.funs.drop (i + 1)) := ⟨_, rfl⟩
      rw [← hr] at hs
      have HS2 := Lib.hid (show SzR2 W5 f r tot (I (s : Int)) (I 0) W5 from ⟨0, s, Nat.zero_le _, rfl, rfl, by rw [sumN_all]; show s + sizeF f + r = tot; omega, Below.refl _ _⟩)
      have H5 := Lib.hid (And.intro (hbl.below blockV_stays hB5) (And.intro hn (And.intro (below_tr hb hB5) (And.intro hin hr))))
      have HW5 := Lib.hid (And.intro hW5 hb5)
      have d0 : decide (i < F) = true := by simpa using hin
      have d1 : (0 : Int) ≤ (i : Int) := by omega
      have d2 : (i : Int) < (F : Int) := by omega
      clear hs hb hbB cw hbl hf hn hpp hW5 hb5 hB5 k5 hr hin hi il
      go_upto_region 5 with (fail)
      rw [← HW5.out.2]
      change Code.wp _ _ _ _ (Wo.alloc (.cells #[I pr, I vr, I vl, .slice ba n bc] 36))
      rw [← HW5.out.1]
      clear c0 c1 c2 c3
      go_wp2_with fail
      clear z3
      go_loopw [3, 18] (fun nv jv W => SzR2 W5 f r tot nv jv W) (fun _ jv _ => n - (intOf jv).toNat)
      case atStart => exact HS2.out
      case round =>
        obtain ⟨j, s, hj, rfl, rfl, hs, hb⟩ := hrel
        clear HS2
        by_cases hjn : j < n
        · have jl : j < f.blocks.length := by have := H5.out.2.1; omega
          obtain ⟨g1, _, e1, gl, cw, pv, iv, rfl, hpz, hiz⟩ := (H5.out.1.below blockV_stays hb).at j jl
          subst e1
          obtain ⟨pa, pc, rfl⟩ := hpz.size
          obtain ⟨ia, ic, rfl⟩ := hiz.size
          obtain ⟨x, hx⟩ : ∃ x, x = f.blocks[j] := ⟨_, rfl⟩
          rw [← hx] at cw
          rw [sumN_drop _ jl, ← hx] at hs
          have hsz : sizeB x = x.phis.length + x.insts.length := rfl
          obtain ⟨PL, hP⟩ : ∃ P, P = x.phis.length := ⟨_, rfl⟩
          obtain ⟨J, hJ⟩ : ∃ P, P = x.insts.length := ⟨_, rfl⟩
          rw [← hP, ← hJ] at hsz cw
          obtain ⟨fin, arg, tt, els, hyy⟩ : ∃ fin arg tt els, x.fin = fin ∧ x.arg = arg ∧ x.to = tt ∧ x.els = els := ⟨_, _, _, _, rfl, rfl, rfl, rfl⟩
          rw [hyy.1, hyy.2.1, hyy.2.2.1, hyy.2.2.2] at cw
          have c0 := cw.f0
          have c1 := cw.f1
          have c2 := cw.f2
          have c3 := cw.f3
          have c4 := cw.f4
          have c5 := cw.f5
          have hle : s + (PL + J) ≤ 4000000 := by have := HH.out.2.2.2.2.1; omega
          have g1' : (s : Int) + ((PL : Int) + (J : Int)) ≤ 4000000 := by omega
          have g2' : (PL : Int) + (J : Int) ≤ 4000000 := by omega
          have HNX := Lib.hid (show ∀ W', Below wr.heap.size wr W' → SzR2 W5 f r tot (I ((s : Int) + ((PL : Int) + (J : Int)))) (I ((j : Int) + 1)) W' from fun W' hW' => ⟨j + 1, s + (PL + J), jl, rfl, by congr 1, by omega, below_tr hb hW'⟩)
          have HBB := Lib.hid ((Below.refl wr.heap.size wr).alloc (Nat.le_refl _) (.cells #[.slice pa PL pc, .slice ia J ic, U8 fin, I arg, I tt, I els] 40))
          have HJ := Lib.hid hjn
          have d0 : decide (j < n) = true := by simpa using hjn
          have d1 : (0 : Int) ≤ (j : Int) := by omega
          have d2 : (j : Int) < (n : Int) := by omega
          clear hs hb gl cw hpz hiz hx hsz hP hJ hyy hle hjn hj jl
          go_wp2_with fail
          exact ⟨HNX.out _ HBB.out, by have := HJ.out; simp [intOf]; omega⟩
        · have d0 : decide (j < n) = false := by simpa using hjn
          have hjl : f.blocks.length ≤ j := by have := H5.out.2.1; omega
          rw [sumN_end _ hjl] at hs
          have HNX := Lib.hid (show SzR W1 c tot (I (s : Int)) (I ((i : Int) + 1)) wr from ⟨i + 1, s, by have := HH.out.1; have := H5.out.2.2.2.1; omega, rfl, rfl, by rw [← H5.out.2.2.2.2]; omega, below_tr H5.out.2.2.1 hb⟩)
          clear hs hb hjl hjn hj
          go_wp2_with fail
          exact ⟨HNX.out, by have := H5.out.2.2.2.1; simp [intOf]; omega⟩
    · have d0 : decide (i < F) = false := by simpa using hin
      have hil : c.funs.length ≤ i := by have := HH.out.1; omega
      rw [sumN_end _ hil, Nat.add_zero] at hs
      have HF := Lib.hid (show Below w.heap.size w Wo from below_tr HH.out.2.1 hb)
      subst hs
      clear hb hil hin hi
      go_wp2_with fail
      go_ret
      exact ⟨rfl, HF.out⟩

end Go.Proofs.Ytjlmkcamefaodaa

/-! KR: Check and Plain of the program: the walks. -/

namespace Go.Proofs.Ytjlmkcamefaodaa
open Go Go.RowKit Go.Maps Go.Sort Cd Fl

/-- 0 where P holds, else 3. -/
def TellE (P : Prop) (w : World) (e : Ending) (w' : World) : Prop := ∃ v : Bool, e = .returned (I (if v then 0 else 3)) ∧ (v = true ↔ P) ∧ Below w.heap.size w w'

set_option maxRecDepth 100000 in
set_option maxHeartbeats 1600000 in
theorem check_any (v : Value) (c : CodeP) (hT : totN c ≤ 4000000) (h4 : sizeC c ≤ 40000) (hs : SmA c) (w : World) (h : CodeZ w v c) :
    Calls Try.prog 8 #[v] w fun e w' => TellE (RightC c) w e w' := by
  have h' := h
  obtain ⟨fv, sv, rfl, hf, hst⟩ := h'
  obtain ⟨fa, fc, rfl⟩ := hf.size
  obtain ⟨sa, sc, rfl⟩ := hst.size
  obtain ⟨F, hF⟩ : ∃ F, F = c.funs.length := ⟨_, rfl⟩
  obtain ⟨T, hT'⟩ : ∃ F, F = c.stops.length := ⟨_, rfl⟩
  obtain ⟨mn, hmn⟩ : ∃ m, m = c.main := ⟨_, rfl⟩
  rw [← hF, ← hT', ← hmn] at h ⊢
  obtain ⟨W1, hW1⟩ : ∃ W, W = w.alloc (.cells #[.slice fa F fc, .slice sa T sc, I mn] 25) := ⟨_, rfl⟩
  obtain ⟨b1, hb1⟩ : ∃ b, b = w.heap.size := ⟨_, rfl⟩
  have hB1 : Below w.heap.size w W1 := by rw [hW1]; exact (Below.refl _ _).alloc (Nat.le_refl _) _
  have k1 : Blk b1 #[.slice fa F fc, .slice sa T sc, I mn] 25 W1 := by rw [hW1, hb1]; exact Blk.new _ _ _
  have x0 := k1.get 0 (.slice fa F fc) rfl
  have x1 := k1.get 1 (.slice sa T sc) rfl
  have x2 := k1.get 2 (I mn) rfl
  have hC1 := Lib.hid (size_any _ c hT W1 (h.below hB1))
  obtain ⟨sz, hsz⟩ : ∃ s, s = sizeC c := ⟨_, rfl⟩
  rw [← hsz] at hC1 h4
  have g0 : decide ((40000 : Int) < (sz : Int)) = false := by simp; omega
  have HH := Lib.hid (And.intro h (And.intro hB1 (And.intro k1 hs)))
  have HW1 := Lib.hid (And.intro hW1 hb1)
  clear hF hT' hmn hB1 k1 hW1 hb1 hf hst hT h4 hs h hsz
  go_enter Try.func8, Try.ntmps8
  go_upto_region 1 with (fail)
  rw [← HW1.out.2]
  change Code.wp _ _ _ _ (w.alloc (.cells #[.slice fa F fc, .slice sa T sc, I mn] 25))
  rw [← HW1.out.1]
  go_wp2_with fail
  refine hC1.out.mono ?_
  rintro e w2 ⟨rfl, hb2⟩
  have k2 := HH.out.2.2.1.below hb2 HH.out.2.2.1.lt
  clear x0 x1 x2
  have x0 := k2.get 0 (.slice fa F fc) rfl
  have x1 := k2.get 1 (.slice sa T sc) rfl
  have x2 := k2.get 2 (I mn) rfl
  have hC2 := Lib.hid (isRight_any _ c HH.out.2.2.2 w2 ((HH.out.1.below HH.out.2.1).below hb2))
  have H2 := Lib.hid (below_tr HH.out.2.1 hb2)
  clear k2 hb2
  go_wp2_with fail
  refine hC2.out.mono ?_
  rintro e w3 ⟨r, rfl, hr, hb3⟩
  cases r
  · have HF := Lib.hid (show TellE (RightC c) w (.returned (I 3)) w3 from ⟨false, rfl, hr, below_tr H2.out hb3⟩)
    clear hr hb3 x0 x1 x2
    go_wp2_with fail
    go_ret
    exact HF.out
  · have HF := Lib.hid (show TellE (RightC c) w (.returned (I 0)) w3 from ⟨true, rfl, hr, below_tr H2.out hb3⟩)
    clear hr hb3 x0 x1 x2
    go_wp2_with fail
    go_ret
    exact HF.out

def AkR (w : World) (l : List DbgP) (kv : Value) (W : World) : Prop := ∃ k : Nat, k ≤ l.length ∧ kv = I (k : Int) ∧ (∀ j (h : j < l.length), j < k → l[j].kind ≠ 3) ∧ Below w.heap.size w W
set_option maxRecDepth 100000 in
set_option maxHeartbeats 1600000 in
theorem asks_any (x : InstP) (hx : SmI x) (av dv : Value) (w : World) (hav : ∃ a n c, av = .slice a n c) (hdz : DbgsZ w dv x.dbg) :
    Calls Try.prog 22 #[instZ x av dv] w fun e w' => TellB (Asks x) w e w' := by
  obtain ⟨aa, A, ac, rfl⟩ := hav
  obtain ⟨da, dc, hdv⟩ := hdz.size
  obtain ⟨D, hD⟩ : ∃ A, A = x.dbg.length := ⟨_, rfl⟩
  subst hdv
  obtain ⟨op, dst, imm, site, hyy⟩ : ∃ op dst imm site, x.op = op ∧ x.dst = dst ∧ x.imm = imm ∧ x.site = site := ⟨_, _, _, _, rfl, rfl, rfl, rfl⟩
  show Calls Try.prog 22 #[.agg #[U8 x.op, I x.dst, .slice aa A ac, I x.imm, I x.site, .slice da x.dbg.length dc]] w fun e w' => TellB (Asks x) w e w'
  rw [hyy.1, hyy.2.1, hyy.2.2.1, hyy.2.2.2, ← hD]
  rw [← hD] at hdz
  have hDb : (D : Int) ≤ 1000000 := by have := hx.dl; omega
  have hAS : Hid (Asks x ↔ op = 43 ∨ op = 44 ∨ ((op = 42 ∨ op = 39) ∧ ∃ d ∈ x.dbg, d.kind = 3)) := by
    unfold Hid Asks Tells
    rw [hyy.1]
  obtain ⟨W1, hW1⟩ : ∃ W, W = w.alloc (.cells #[U8 op, I dst, .slice aa A ac, I imm, I site, .slice da D dc] 44) := ⟨_, rfl⟩
  obtain ⟨b1, hb1⟩ : ∃ b, b = w.heap.size := ⟨_, rfl⟩
  have hB1 : Below w.heap.size w W1 := by rw [hW1]; exact (Below.refl _ _).alloc (Nat.le_refl _) _
  have k1 : Blk b1 #[U8 op, I dst, .slice aa A ac, I imm, I site, .slice da D dc] 44 W1 := by rw [hW1, hb1]; exact Blk.new _ _ _
  have x0 := k1.get 0 (U8 op) rfl
  have x5 := k1.get 5 (.slice da D dc) rfl
  have HH := Lib.hid (And.intro (hdz.below dbgV_stays hB1) (And.intro hB1 hD))
  have HW1 := Lib.hid (And.intro hW1 hb1)
  have FIN := Lib.hid (show ∀ (r : Bool), (r = true ↔ Asks x) → ∀ w', Below W1.heap.size W1 w' → TellB (Asks x) w (.returned (.bool r)) w' from fun r hr w' hb2 => ⟨r, rfl, hr, below_tr hB1 hb2⟩)
  clear hdz hx hD hyy hW1 hb1 hB1 k1
  go_enter Try.func22, Try.ntmps22
  go_upto_region 1 with (fail)
  rw [← HW1.out.2]
  change Code.wp _ _ _ _ (w.alloc (.cells #[U8 op, I dst, .slice aa A ac, I imm, I site, .slice da D dc] 44))
  rw [← HW1.out.1]
  by_cases h43 : op = 43 ∨ op = 44
  · have hg : (op == 43) = true ∨ ((op == 43) = false ∧ (op == 44) = true) := by
      rcases h43 with rfl | rfl
      · exact Or.inl rfl
      · exact Or.inr ⟨rfl, rfl⟩
    have HF := Lib.hid (FIN.out true (by simp only [true_iff]; rw [hAS.out]; omega) W1 (Below.refl _ _))
    clear h43
    rcases hg with g1 | ⟨g1, g2⟩
    all_goals go_wp2_with fail
    all_goals go_ret
    all_goals exact HF.out
  · have g1 : (op == 43) = false := by simp; omega
    have g2 : (op == 44) = false := by simp; omega
    have H43 := Lib.hid h43
    clear h43
    by_cases h42 : op = 42 ∨ op = 39
    · have hg : (op == 42) = true ∨ ((op == 42) = false ∧ (op == 39) = true) := by
        rcases h42 with rfl | rfl
        · exact Or.inl rfl
        · exact Or.inr ⟨rfl, rfl⟩
      have H42 := Lib.hid h42
      have HST := Lib.hid (show AkR W1 x.dbg (I 0) W1 from ⟨0, Nat.zero_le _, rfl, fun j _ h => absurd h (by omega), Below.refl _ _⟩)
      clear h42
      rcases hg with g3 | ⟨g3, g4⟩
      all_goals go_wp2_with fail
      all_goals clear x0 x5
      all_goals go_loopw [16] (fun kv W => AkR W1 x.dbg kv W) (fun kv _ => D - (intOf kv).toNat)
      case atStart => exact HST.out
      case round =>
        obtain ⟨k, hk, rfl, hus, hb1⟩ := hrel
        by_cases hkD : k < D
        · have kx : k < x.dbg.length := by have := HH.out.2.2; omega
          obtain ⟨pb, _, e1, pl, cw, rfl⟩ := (HH.out.1.below dbgV_stays hb1).at k kx
          subst e1
          obtain ⟨d, hd⟩ : ∃ d, d = x.dbg[k] := ⟨_, rfl⟩
          rw [← hd] at cw
          obtain ⟨dep, var, kind, arg, da', db', hdd⟩ : ∃ dep var kind arg da' db', d.dep = dep ∧ d.var = var ∧ d.kind = kind ∧ d.arg = arg ∧ d.a = da' ∧ d.b = db' := ⟨_, _, _, _, _, _, rfl, rfl, rfl, rfl, rfl, rfl⟩
          have c0 := cw.f0
          have c1 := cw.f1
          have c2 := cw.f2
          have c3 := cw.f3
          have c4 := cw.f4
          have c5 := cw.f5
          rw [hdd.1] at c0
          rw [hdd.2.1] at c1
          rw [hdd.2.2.1] at c2
          rw [hdd.2.2.2.1] at c3
          rw [hdd.2.2.2.2.1] at c4
          rw [hdd.2.2.2.2.2] at c5
          have HB9 := Lib.hid ((Below.refl wr.heap.size wr).alloc (Nat.le_refl _) (.cells #[I dep, I var, U8 kind, I arg, I da', I db'] 57))
          have HNX := Lib.hid (show kind ≠ 3 → ∀ W', Below wr.heap.size wr W' → AkR W1 x.dbg (I ((k : Int) + 1)) W' from fun hu W' hW' => ⟨k + 1, kx, rfl, fun j hj hjk => by
            rcases Nat.lt_or_ge j k with h | h
            · exact hus j hj h
            · obtain rfl : j = k := by omega
              rw [← hd, hdd.2.2.1]
              exact hu, below_tr hb1 hW'⟩)
          have HY := Lib.hid (show kind = 3 → ∀ W', Below wr.heap.size wr W' → TellB (Asks x) w (.returned (.bool true)) W' from fun hu W' hW' => FIN.out true (by simp only [true_iff]; rw [hAS.out]; exact Or.inr (Or.inr ⟨H42.out, x.dbg[k], List.getElem_mem kx, by rw [← hd, hdd.2.2.1]; exact hu⟩)) W' (below_tr hb1 hW'))
          have HK := Lib.hid hkD
          have e0 : decide (k < D) = true := by simpa using hkD
          have e1 : (0 : Int) ≤ (k : Int) := by omega
          have e2 : (k : Int) < (D : Int) := by omega
          clear hus hb1 pl cw hkD hk hd hdd kx
          by_cases hk3 : kind = 3
          · have g5 : (kind == 3) = true := by simpa using hk3
            have HF := Lib.hid (HY.out hk3 _ HB9.out)
            clear hk3
            go_wp2_with fail
            go_ret
            exact HF.out
          · have g5 : (kind == 3) = false := by simpa using hk3
            have HF := Lib.hid (HNX.out hk3 _ HB9.out)
            clear hk3
            go_wp2_with fail
            exact ⟨HF.out, by have := HK.out; simp [intOf]; omega⟩
        · have e0 : decide (k < D) = false := by simpa using hkD
          have HF := Lib.hid (FIN.out false (by
            simp only [Bool.false_eq_true, false_iff]
            rw [hAS.out]
            rintro (h | h | ⟨_, d, hd, h3⟩)
            · exact H43.out (Or.inl h)
            · exact H43.out (Or.inr h)
            · obtain ⟨j, hj, rfl⟩ := List.getElem_of_mem hd
              exact hus j hj (by have := HH.out.2.2; omega) h3) wr hb1)
          clear hus hb1 hkD hk
          go_wp2_with fail
          go_ret
          exact HF.out
      case atStart => exact HST.out
      case round =>
        obtain ⟨k, hk, rfl, hus, hb1⟩ := hrel
        by_cases hkD : k < D
        · have kx : k < x.dbg.length := by have := HH.out.2.2; omega
          obtain ⟨pb, _, e1, pl, cw, rfl⟩ := (HH.out.1.below dbgV_stays hb1).at k kx
          subst e1
          obtain ⟨d, hd⟩ : ∃ d, d = x.dbg[k] := ⟨_, rfl⟩
          rw [← hd] at cw
          obtain ⟨dep, var, kind, arg, da', db', hdd⟩ : ∃ dep var kind arg da' db', d.dep = dep ∧ d.var = var ∧ d.kind = kind ∧ d.arg = arg ∧ d.a = da' ∧ d.b = db' := ⟨_, _, _, _, _, _, rfl, rfl, rfl, rfl, rfl, rfl⟩
          have c0 := cw.f0
          have c1 := cw.f1
          have c2 := cw.f2
          have c3 := cw.f3
          have c4 := cw.f4
          have c5 := cw.f5
          rw [hdd.1] at c0
          rw [hdd.2.1] at c1
          rw [hdd.2.2.1] at c2
          rw [hdd.2.2.2.1] at c3
          rw [hdd.2.2.2.2.1] at c4
          rw [hdd.2.2.2.2.2] at c5
          have HB9 := Lib.hid ((Below.refl wr.heap.size wr).alloc (Nat.le_refl _) (.cells #[I dep, I var, U8 kind, I arg, I da', I db'] 57))
          have HNX := Lib.hid (show kind ≠ 3 → ∀ W', Below wr.heap.size wr W' → AkR W1 x.dbg (I ((k : Int) + 1)) W' from fun hu W' hW' => ⟨k + 1, kx, rfl, fun j hj hjk => by
            rcases Nat.lt_or_ge j k with h | h
            · exact hus j hj h
            · obtain rfl : j = k := by omega
              rw [← hd, hdd.2.2.1]
              exact hu, below_tr hb1 hW'⟩)
          have HY := Lib.hid (show kind = 3 → ∀ W', Below wr.heap.size wr W' → TellB (Asks x) w (.returned (.bool true)) W' from fun hu W' hW' => FIN.out true (by simp only [true_iff]; rw [hAS.out]; exact Or.inr (Or.inr ⟨H42.out, x.dbg[k], List.getElem_mem kx, by rw [← hd, hdd.2.2.1]; exact hu⟩)) W' (below_tr hb1 hW'))
          have HK := Lib.hid hkD
          have e0 : decide (k < D) = true := by simpa using hkD
          have e1 : (0 : Int) ≤ (k : Int) := by omega
          have e2 : (k : Int) < (D : Int) := by omega
          clear hus hb1 pl cw hkD hk hd hdd kx
          by_cases hk3 : kind = 3
          · have g5 : (kind == 3) = true := by simpa using hk3
            have HF := Lib.hid (HY.out hk3 _ HB9.out)
            clear hk3
            go_wp2_with fail
            go_ret
            exact HF.out
          · have g5 : (kind == 3) = false := by simpa using hk3
            have HF := Lib.hid (HNX.out hk3 _ HB9.out)
            clear hk3
            go_wp2_with fail
            exact ⟨HF.out, by have := HK.out; simp [intOf]; omega⟩
        · have e0 : decide (k < D) = false := by simpa using hkD
          have HF := Lib.hid (FIN.out false (by
            simp only [Bool.false_eq_true, false_iff]
            rw [hAS.out]
            rintro (h | h | ⟨_, d, hd, h3⟩)
            · exact H43.out (Or.inl h)
            · exact H43.out (Or.inr h)
            · obtain ⟨j, hj, rfl⟩ := List.getElem_of_mem hd
              exact hus j hj (by have := HH.out.2.2; omega) h3) wr hb1)
          clear hus hb1 hkD hk
          go_wp2_with fail
          go_ret
          exact HF.out
    · have g3 : (op == 42) = false := by simp; omega
      have g4 : (op == 39) = false := by simp; omega
      have HF := Lib.hid (FIN.out false (by simp only [Bool.false_eq_true, false_iff]; rw [hAS.out]; have := H43.out; omega) W1 (Below.refl _ _))
      clear h42
      go_wp2_with fail
      go_ret
      exact HF.out
end Go.Proofs.Ytjlmkcamefaodaa
