/-
  Joined: FLow2, FMeet.
-/
import Derived.Test.YtjlmkcamefaodaaJ11
import Derived.Test.YtjlmkcamefaodaaJ12
/-! FLow2: The one with the least half way: the walk. -/

namespace Go.Proofs.Ytjlmkcamefaodaa
open Go Go.RowKit Fl

/-- What is answered of the lowest. -/
def LowT (base bc b0 b1 b2 b3 m : Nat) (fr half : List Nat) (Z : List Nat × List Nat × Nat) (pv0 : Value) (W0 W : World) (e : Ending) : Prop :=
  ∃ pv l, e = .returned (I ((Z.2.1.getD Z.2.2 0 : Nat) : Int)) ∧ ClimbP base bc b0 b1 b2 b3 m fr Z.1 half Z.2.1 pv0 pv l W0 W
/-- The path so far. -/
def PRel (base bc b0 b1 b2 b3 m : Nat) (fr up half ls : List Nat) (first : Nat) (P : List Nat) (R : Nat) (pv0 : Value) (W0 : World) (nv : Value) (W : World) : Prop :=
  ∃ (n : Nat) (acc : List Nat) (pv : Value), n < m ∧ nv = I (n : Int) ∧ (∀ x ∈ acc, x < m) ∧ acc.length + n ≤ m ∧ Fl.PathAt up first P R acc n ∧ ClimbP base bc b0 b1 b2 b3 m fr up half ls pv0 pv acc W0 W
def CutRel (base bc b0 b1 b2 b3 m : Nat) (fr up half ls : List Nat) (pv0 : Value) (W0 : World) (p : Value) (W : World) : Prop :=
  ∃ pv, p = I 0 ∧ ClimbP base bc b0 b1 b2 b3 m fr up half ls pv0 pv [] W0 W

/-- The way made short so far. -/
def SRel (base bc b0 b1 b2 b3 m : Nat) (fr half : List Nat) (P : List Nat) (Z : List Nat × List Nat × Nat) (pv0 pv : Value) (W0 : World) (nv iv : Value) (W : World) : Prop :=
  ∃ (k n : Nat) (up ls : List Nat), k ≤ P.length ∧ n < m ∧ nv = I (n : Int) ∧ iv = I ((k : Int) - 1) ∧ LsOk m up ∧ LsOk m ls ∧ Fl.CompAt half P Z k up ls n ∧ ClimbP base bc b0 b1 b2 b3 m fr up half ls pv0 pv P W0 W
theorem Fl.LsOk.set {m : Nat} {ls : List Nat} (h : LsOk m ls) {b x : Nat} (hb : b < m) (hx : x < m) : LsOk m (ls.set b x) := by
  refine ⟨by rw [List.length_set]; exact h.1, fun i hi => ?_⟩
  rw [getD_set _ _ _ _ (by rw [h.1]; exact hb)]
  by_cases e : i = b
  · rw [if_pos e]; exact hx
  · rw [if_neg e]; exact h.2 i hi
theorem Fl.UpOk.ls {m : Nat} {up : List Nat} (h : UpOk m up) : LsOk m up := ⟨h.1, fun i hi => by
  rcases Nat.eq_zero_or_pos i with e | e
  · rw [e, h.2.2]; omega
  · have := h.2.1 i e hi; omega⟩

set_option maxRecDepth 100000 in
set_option maxHeartbeats 8000000 in
theorem lowest_any (base bc b0 b1 b2 b3 m : Nat) (fr up half ls l0 : List Nat) (first n0 : Nat) (hm : m ≤ 60000) (hn : n0 < m) (hf : 0 < first) (hfm : first ≤ m) (hu : UpOk m up) (hls : LsOk m ls) (pv0 : Value) (W0 : World) (h : ClimbP base bc b0 b1 b2 b3 m fr up half ls pv0 pv0 l0 W0 W0) :
    Calls Try.prog 65 #[.pointer (some ⟨bc, 0, none⟩), I (n0 : Int), I (first : Int)] W0 fun e w' => LowT base bc b0 b1 b2 b3 m fr half (Fl.lowF up half ls first n0) pv0 W0 w' e := by
  obtain ⟨i0, hi, hz0, hz1, hz2⟩ := info_parts info_int'
  have HI := Lib.hid (And.intro hi (And.intro hz0 (And.intro hz1 hz2)))
  have H := Lib.hid h
  have HU := Lib.hid (And.intro hu (And.intro hls (And.intro hn (And.intro hf (And.intro hfm hm)))))
  have c4 := h.g.blk.get 4 pv0 rfl
  have f4 := h.g.blk.free 4
  clear h hu hls hi hz0 hz1 hz2 hn hf hfm
  go_enter Try.func65, Try.ntmps65
  go_upto_region 1 with (fail)
  go_cut [6] from 9 to 16 (fun p W => CutRel base bc b0 b1 b2 b3 m fr up half ls pv0 W0 p W)
  case first =>
    rcases own_slice H.out.o with ⟨e, _⟩ | ⟨g, cap, e⟩
    · have FIN := Lib.hid (show CutRel base bc b0 b1 b2 b3 m fr up half ls pv0 W0 (I 0) (W0.setCell ⟨bc, 4, none⟩ (.slice none 0 0)) from ⟨_, rfl, by have h1 := H.out; rw [e] at h1 ⊢; exact h1.cutNil⟩)
      rw [e] at c4
      go_wp2_with fail
      go_meet
      case rel => exact FIN.out
    · have FIN := Lib.hid (show CutRel base bc b0 b1 b2 b3 m fr up half ls pv0 W0 (I 0) (W0.setCell ⟨bc, 4, none⟩ (.slice (some ⟨g, 0, none⟩) 0 cap)) from ⟨_, rfl, by have h1 := H.out; rw [e] at h1 ⊢; exact h1.cut⟩)
      rw [e] at c4
      go_wp2_with fail
      go_meet
      case rel => exact FIN.out
  case rest =>
    obtain ⟨pv, rfl, hW⟩ := hcut
    obtain ⟨P, hP⟩ : ∃ P, P = (Fl.pathF up first (n0 + 1) n0).1 := ⟨_, rfl⟩
    obtain ⟨R, hR⟩ : ∃ R, R = (Fl.pathF up first (n0 + 1) n0).2 := ⟨_, rfl⟩
    have HP := Lib.hid (And.intro hP hR)
    have HST := Lib.hid (show PRel base bc b0 b1 b2 b3 m fr up half ls first P R pv0 W0 (I (n0 : Int)) wc from ⟨n0, [], pv, HU.out.2.2.1, rfl, by simp, by have := HU.out.2.2.1; simp; omega, by rw [hP, hR]; exact Fl.path_start up first n0, hW⟩)
    clear hW hP hR c4 f4
    go_wp2_with fail
    go_loopw [1] (fun nv wr => PRel base bc b0 b1 b2 b3 m fr up half ls first P R pv0 W0 nv wr) (fun nv _ => (intOf nv).toNat)
    case atStart => exact HST.out
    case round =>
      obtain ⟨n, acc, pv1, hn, rfl, hacc, hlen, hpa, hC⟩ := hrel
      obtain ⟨wo, rfl⟩ : ∃ wo : World, wo = wr := ⟨_, rfl⟩
      have x1 := hC.g.blk.get 1 (.slice (some ⟨b1, 0, none⟩) m m) rfl
      have x4 := hC.g.blk.get 4 pv1 rfl
      have y1 := arrN_at hC.g.k1 (j := n) (by rw [hC.g.e1]; exact hn)
      obtain ⟨u, hu⟩ : ∃ u, u = up.getD n 0 := ⟨_, rfl⟩
      rw [← hu] at y1
      have d1 : (0 : Int) ≤ (n : Int) := by omega
      have d2 : (n : Int) < (m : Int) := by omega
      by_cases hge : first ≤ u
      · have d3 : decide (first ≤ u) = true := by simpa using hge
        obtain ⟨hp2, hul⟩ := Fl.path_step HU.out.1 hn HU.out.2.2.2.1 hpa (by rw [← hu]; exact hge)
        rw [← hu] at hp2 hul
        obtain ⟨s0, m0, k0, rfl⟩ : ∃ a m c, pv1 = .slice a m c := by
          rcases own_slice hC.o with ⟨h, _⟩ | ⟨g, cap, h⟩
          · exact ⟨_, _, _, h⟩
          · exact ⟨_, _, _, h⟩
        have HB := Lib.hid (And.intro (show acc.length + 1 ≤ maxLen by unfold maxLen; have := HU.out.2.2.2.2.2; omega) (show (acc.length + 1) * 8 ≤ 140737488355328 by have := HU.out.2.2.2.2.2; omega))
        have H1 := Lib.hid hC
        have HU2 := Lib.hid hu.symm
        have HN := Lib.hid (And.intro hp2 (And.intro hul (And.intro hacc (And.intro hlen hn))))
        clear hC hp2 hge hacc hlen hpa hn hul hu
        go_wp2_with (at_builtin; refine Hid.out ?_)
        unfold Hid
        refine wpList_append_own_at _ rfl _ _ 41 rfl base 3 i0 (I 0) 1 8 Try.underlying41 HI.out.1 HI.out.2.1 HI.out.2.2.1 HI.out.2.2.2 rfl (by decide) (.slice s0 m0 k0) acc.length (ints acc) rfl (H1.out.o.alloc _) ⟨wo.heap.size, 0, none⟩ 1 1 [I (n : Int)] rfl rfl (cell_one_new _ _ _) (by simp [Value.oneCell']) HB.out.1 HB.out.2 (by have := H1.out.g.lc; have := H1.out.g.blk.lt; simp; omega) ?_
        intro v' w4 ho4 hg4 _ hat
        obtain ⟨g4, cap4, rfl⟩ : ∃ g cap, v' = .slice (some ⟨g, 0, none⟩) (acc.length + 1) cap := by
          rcases own_slice ho4 with ⟨_, h⟩ | ⟨g, cap, h⟩
          · exact absurd h (by omega)
          · exact ⟨g, cap, h⟩
        have ho4' : Nums w4 base (.slice (some ⟨g4, 0, none⟩) (acc.length + 1) cap4) (acc ++ [n]) := by
          show World.ownsRow _ _ _ _ _ _ _
          rw [List.length_append, List.length_singleton]
          simpa using ho4
        have hG4 : ClimbG base bc b0 b1 b2 b3 m fr up half ls (.slice s0 m0 k0) w4 := (H1.out.g.grown (World.grownBy_alloc wo _ none) (by simp) (by simp) (by simp) (by simp) (by simp)).grown hg4 H1.out.a.1 H1.out.a.2.1 H1.out.a.2.2.1 H1.out.a.2.2.2.1 H1.out.a.2.2.2.2
        have HR5 := Lib.hid (show PRel base bc b0 b1 b2 b3 m fr up half ls first P R pv0 W0 (I (u : Int)) (w4.setCell ⟨bc, 4, none⟩ (.slice (some ⟨g4, 0, none⟩) (acc.length + 1) cap4)) from
          ⟨u, acc ++ [n], _, by have := HN.out.2.1; have := HN.out.2.2.2.2; omega, rfl, by
            intro x hx
            rcases List.mem_append.1 hx with h | h
            · exact HN.out.2.2.1 x h
            · have := HN.out.2.2.2.2; simp at h; omega, by
            have := HN.out.2.1; have := HN.out.2.2.2.1; simp; omega, HN.out.1, H1.out.app hg4 ho4' hat⟩)
        clear x1 x4 y1
        have x1 := hG4.blk.get 1 (.slice (some ⟨b1, 0, none⟩) m m) rfl
        have x4 := hG4.blk.get 4 (.slice s0 m0 k0) rfl
        have f4 := hG4.blk.free 4
        have y1 := arrN_at hG4.k1 (j := n) (by rw [hG4.e1]; exact HN.out.2.2.2.2)
        rw [HU2.out] at y1
        have n1 := hG4.nc.2.1
        clear ho4 hg4 hat ho4' hG4
        go_wp2_with fail
        exact ⟨HR5.out, by have := HN.out.2.1; simp [intOf]; omega⟩
      · have d3 : decide (first ≤ u) = false := by simpa using hge
        obtain ⟨rfl, rfl⟩ := Fl.path_end hpa (by rw [← hu]; exact hge)
        obtain ⟨s0, k0, rfl⟩ : ∃ a c, pv1 = .slice a acc.length c := by
          rcases own_slice hC.o with ⟨h, h2⟩ | ⟨g, cap, h⟩
          · exact ⟨_, _, by rw [h, h2]⟩
          · exact ⟨_, _, h⟩
        obtain ⟨L, hL⟩ : ∃ L, L = acc.length := ⟨_, rfl⟩
        obtain ⟨Z, hZ⟩ : ∃ Z, Z = Fl.lowF up half ls first n0 := ⟨_, rfl⟩
        have hZ2 : Z = comp half acc.reverse up ls n := by rw [hZ]; unfold Fl.lowF; rw [← HP.out.1, ← HP.out.2]
        have HST2 := Lib.hid (show SRel base bc b0 b1 b2 b3 m fr half acc Z pv0 (.slice s0 L k0) W0 (I (n : Int)) (I ((L : Int) - 1)) wo from ⟨L, n, up, ls, by rw [hL]; exact Nat.le_refl _, hn, rfl, rfl, HU.out.1.ls, HU.out.2.1, by rw [hZ2, hL]; exact Fl.comp_start half acc up ls n, by rw [hL]; exact hC⟩)
        have HA := Lib.hid hacc
        have hLb : L ≤ 60000 := by have := HU.out.2.2.2.2.2; omega
        rw [← hL] at x4
        have HL := Lib.hid (And.intro hL (And.intro hlen hZ))
        clear hC hge hacc hlen hpa hn hu hL hZ hZ2 HST HP
        go_wp2_with fail
        go_loopw [1, 7] (fun nv iv wr => SRel base bc b0 b1 b2 b3 m fr half acc Z pv0 (.slice s0 L k0) W0 nv iv wr) (fun _ iv _ => (intOf iv + 1).toNat)
        case atStart => exact HST2.out
        case round =>
          obtain ⟨k, p, up', ls', hk, hp, rfl, rfl, hu', hl', hcp, hC⟩ := hrel
          obtain ⟨wq, rfl⟩ : ∃ wq : World, wq = wr := ⟨_, rfl⟩
          cases k with
          | zero =>
            have e := Fl.comp_end hcp
            have x3 := hC.g.blk.get 3 (.slice (some ⟨b3, 0, none⟩) m m) rfl
            have y3 := arrN_at hC.g.k3 (j := p) (by rw [hC.g.e3]; exact hp)
            have d4 : (0 : Int) ≤ (p : Int) := by omega
            have d5 : (p : Int) < (m : Int) := by omega
            have FIN := Lib.hid (show LowT base bc b0 b1 b2 b3 m fr half (Fl.lowF up half ls first n0) pv0 W0 wq (.returned (I ((ls'.getD p 0 : Nat) : Int))) by rw [← HL.out.2.2, e]; exact ⟨_, _, rfl, hC⟩)
            clear hC hcp hu' hl' hk hp e
            go_wp2_with fail
            go_ret
            exact FIN.out
          | succ k =>
            have hkI : ((k + 1 : Nat) : Int) - 1 = (k : Int) := by omega
            rw [hkI]
            obtain ⟨b, hb⟩ : ∃ b, acc.getD k 0 = b := ⟨_, rfl⟩
            have hbm : b < m := by
              rw [← hb, getD_of acc k 0 hk]
              exact HA.out _ (List.getElem_mem hk)
            have hstep := Fl.comp_step hcp hk hb
            obtain ⟨g, c, hs, hc⟩ : ∃ g c, s0 = some ⟨g, 0, none⟩ ∧ c = k0 := by
              rcases own_slice hC.o with ⟨h, h2⟩ | ⟨g, cap, h⟩
              · exact absurd h2 (by omega)
              · simp only [Value.slice.injEq] at h
                exact ⟨g, k0, h.1, rfl⟩
            subst hc
            subst hs
            have hLl : acc.length = L := HL.out.1.symm
            have cb : wq.cell? ⟨g, k, none⟩ = some (I (b : Int)) := by
              rw [← hb]
              have h1 : wq.ownsRow base 3 1 (.slice (some ⟨g, 0, none⟩) L c) acc.length (ints acc) := hC.o
              rw [hLl] at h1
              exact nums_get h1 hLl k (by omega)
            obtain ⟨r, hr⟩ : ∃ r, ls'.getD p 0 = r := ⟨_, rfl⟩
            obtain ⟨q, hq⟩ : ∃ q, ls'.getD b 0 = q := ⟨_, rfl⟩
            obtain ⟨v, hv⟩ : ∃ v, up'.getD p 0 = v := ⟨_, rfl⟩
            have hrm : r < m := by rw [← hr]; exact hl'.2 p hp
            have hqm : q < m := by rw [← hq]; exact hl'.2 b hbm
            have hvm : v < m := by rw [← hv]; exact hu'.2 p hp
            rw [hr, hq, hv] at hstep
            obtain ⟨x, hx⟩ : ∃ x, half.getD r 0 = x := ⟨_, rfl⟩
            obtain ⟨y, hy⟩ : ∃ y, half.getD q 0 = y := ⟨_, rfl⟩
            rw [hx, hy] at hstep
            have x2 := hC.g.blk.get 2 (.slice (some ⟨b2, 0, none⟩) m m) rfl
            have x3 := hC.g.blk.get 3 (.slice (some ⟨b3, 0, none⟩) m m) rfl
            have x4 := hC.g.blk.get 4 (.slice (some ⟨g, 0, none⟩) L c) rfl
            have y1 := arrN_at hC.g.k3 (j := p) (by rw [hC.g.e3]; exact hp)
            have y2 := arrN_at hC.g.k3 (j := b) (by rw [hC.g.e3]; exact hbm)
            have y3 := arrN_at hC.g.k2 (j := r) (by rw [hC.g.e2]; exact hrm)
            have y4 := arrN_at hC.g.k2 (j := q) (by rw [hC.g.e2]; exact hqm)
            rw [hr] at y1
            rw [hq] at y2
            rw [hx] at y3
            rw [hy] at y4
            have d1 : (0 : Int) ≤ (k : Int) := by omega
            have d2 : (k : Int) < (L : Int) := by omega
            have d3 : (0 : Int) ≤ (p : Int) := by omega
            have d4 : (p : Int) < (m : Int) := by omega
            have d5 : (0 : Int) ≤ (b : Int) := by omega
            have d6 : (b : Int) < (m : Int) := by omega
            have d7 : (0 : Int) ≤ (r : Int) := by omega
            have d8 : (r : Int) < (m : Int) := by omega
            have d9 : (0 : Int) ≤ (q : Int) := by omega
            have d10 : (q : Int) < (m : Int) := by omega
            have H1 := Lib.hid (And.intro hC (And.intro hu' (And.intro hl' (And.intro hstep (And.intro hk (And.intro hbm (And.intro hp (And.intro hrm hvm))))))))
            have HE := Lib.hid (And.intro hr (And.intro hq hv))
            clear hC hu' hl' hstep hk hbm hp hrm hqm hvm hr hq hv hx hy hcp hb hkI hLl
            go_upto_region 9 with (fail)
            go_region
            go_upto_if 86 with (fail)
            go_cut [1, 7, 8] from 49 to 113 (fun nv iv bv W => nv = I (p : Int) ∧ iv = I (k : Int) ∧ bv = I (b : Int) ∧ ∃ ls2, ls2 = (if x < y then ls'.set b r else ls') ∧ LsOk m ls2 ∧ ClimbP base bc b0 b1 b2 b3 m fr up' half ls2 pv0 (.slice (some ⟨g, 0, none⟩) L c) acc W0 W)
            case first =>
              as_aux_lemma =>
                have f3 := H1.out.1.g.k3.free b
                go_wp2_with fail
                · rename_i hlt
                  have FIN := Lib.hid (show ∃ ls2, ls2 = (if x < y then ls'.set b r else ls') ∧ LsOk m ls2 ∧ ClimbP base bc b0 b1 b2 b3 m fr up' half ls2 pv0 (.slice (some ⟨g, 0, none⟩) L c) acc W0 (wq.drew.setCell ⟨b3, b, none⟩ (I (r : Int))).drew from
                    ⟨ls'.set b r, by rw [if_pos hlt], Fl.LsOk.set H1.out.2.2.1 H1.out.2.2.2.2.2.1 H1.out.2.2.2.2.2.2.2.1, (H1.out.1.drew.set3 b r).drew⟩)
                  clear hlt
                  go_region
                  go_wp2_with fail
                  go_meet
                  case rel => exact ⟨rfl, rfl, rfl, FIN.out⟩
                · rename_i hlt
                  have FIN := Lib.hid (show ∃ ls2, ls2 = (if x < y then ls'.set b r else ls') ∧ LsOk m ls2 ∧ ClimbP base bc b0 b1 b2 b3 m fr up' half ls2 pv0 (.slice (some ⟨g, 0, none⟩) L c) acc W0 wq.drew from
                    ⟨ls', by rw [if_neg hlt], H1.out.2.2.1, H1.out.1.drew⟩)
                  clear hlt
                  go_meet
                  case rel => exact ⟨rfl, rfl, rfl, FIN.out⟩
            case rest =>
              as_aux_lemma =>
                obtain ⟨rfl, rfl, rfl, ls2, hl2, hl3, hC⟩ := hcut
                have H2 := Lib.hid (And.intro hC (And.intro hl2 hl3))
                clear hC hl2 hl3 x2 x3 x4 y1 y2 y3 y4 cb
                have x1 := H2.out.1.g.blk.get 1 (.slice (some ⟨b1, 0, none⟩) m m) rfl
                have z1 := arrN_at H2.out.1.g.k1 (j := p) (by rw [H2.out.1.g.e1]; exact H1.out.2.2.2.2.2.2.1)
                have z2 := arrN_at H2.out.1.g.k1 (j := b) (by rw [H2.out.1.g.e1]; exact H1.out.2.2.2.2.2.1)
                have f1 := H2.out.1.g.k1.free b
                rw [HE.out.2.2] at z1
                obtain ⟨W9, hW9⟩ : ∃ W9, W9 = (wc.setCell ⟨b1, b, none⟩ (I (v : Int))).drew := ⟨_, rfl⟩
                have FIN := Lib.hid (show SRel base bc b0 b1 b2 b3 m fr half acc Z pv0 (.slice (some ⟨g, 0, none⟩) L c) W0 (I (b : Int)) (I ((k : Int) - 1)) W9 from
                  ⟨k, b, up'.set b v, ls2, Nat.le_of_lt H1.out.2.2.2.2.1, H1.out.2.2.2.2.2.1, rfl, rfl, Fl.LsOk.set H1.out.2.1 H1.out.2.2.2.2.2.1 H1.out.2.2.2.2.2.2.2.2, H2.out.2.2, by rw [H2.out.2.1]; exact H1.out.2.2.2.1, by rw [hW9]; exact (H2.out.1.set1 b v).drew⟩)
                have HW9 := Lib.hid hW9
                clear hW9
                go_wp2_with fail
                go_region
                change Exit.then _ _ _ _ (wc.setCell ⟨b1, b, none⟩ (I (v : Int))).drew
                rw [← HW9.out]
                clear x1 z1 z2 f1 HW9 H1 H2 HE d3 d4 d5 d6 d7 d8 d9 d10
                go_wp2_with fail
                exact ⟨FIN.out, by simp [intOf]⟩
end Go.Proofs.Ytjlmkcamefaodaa

/-! FMeet: The nearest above: going up until it is met. -/

namespace Go.Proofs.Ytjlmkcamefaodaa
open Go Go.RowKit Fl

theorem Fl.meet_step {near far : List Nat} {h F n : Nat} (hc : h < n) (hF : n < F) (hlt : near.getD n 0 < n) (hft : far.getD n 0 < n) :
    ∃ F', (if h < far.getD n 0 then far.getD n 0 else near.getD n 0) < F' ∧ meetF near far h F n = meetF near far h F' (if h < far.getD n 0 then far.getD n 0 else near.getD n 0) := by
  obtain ⟨F', rfl⟩ : ∃ F', F = F' + 1 := ⟨F - 1, by omega⟩
  refine ⟨F', by split <;> omega, ?_⟩
  show (if h < n then _ else _) = _
  rw [if_pos hc]
theorem Fl.meet_end {near far : List Nat} {h F n : Nat} (hc : ¬ h < n) : meetF near far h F n = n := by
  cases F with
  | zero => rfl
  | succ F => show (if h < n then _ else _) = _; rw [if_neg hc]

/-- Rows of which the boxes are known. -/
structure MeetW (fb nb f n m : Nat) (near far : List Nat) (w : World) : Prop where
  cf : w.cell? ⟨fb, 0, none⟩ = some (.slice (some ⟨f, 0, none⟩) m m)
  cn : w.cell? ⟨nb, 0, none⟩ = some (.slice (some ⟨n, 0, none⟩) m m)
  kf : Blk f (arrN far) 3 w
  kn : Blk n (arrN near) 3 w

set_option maxRecDepth 100000 in
set_option maxHeartbeats 2000000 in
theorem meet_any (fb nb f n m k : Nat) (near far : List Nat) (h v0 : Nat) (hm : m ≤ 60000) (hk : k ≤ m) (hv : v0 < k) (hok : NearOk m k near far) (w : World) (hw : MeetW fb nb f n m near far w) :
    Calls Try.prog 70 #[I (v0 : Int), I (h : Int), .pointer (some ⟨fb, 0, none⟩), .pointer (some ⟨nb, 0, none⟩)] w fun e w' => e = .returned (I ((meetF near far h (v0 + 1) v0 : Nat) : Int)) ∧ w = w' := by
  obtain ⟨M, hM⟩ : ∃ M, M = meetF near far h (v0 + 1) v0 := ⟨_, rfl⟩
  rw [← hM]
  have cf := hw.cf
  have cn := hw.cn
  have H := Lib.hid (And.intro hw (And.intro hok (And.intro hM (And.intro hv (And.intro hk hm)))))
  clear hw hok hM hv hk
  go_enter Try.func70, Try.ntmps70
  go_wp2_with fail
  go_loopw [0] (fun nv wr => ∃ v F : Nat, nv = I (v : Int) ∧ v < k ∧ v < F ∧ meetF near far h F v = M ∧ wr = w) (fun nv _ => (intOf nv).toNat)
  case atStart => exact ⟨v0, v0 + 1, rfl, H.out.2.2.2.1, by omega, H.out.2.2.1.symm, rfl⟩
  case round =>
    obtain ⟨v, F, rfl, hvk, hF, hMe, rfl⟩ := hrel
    by_cases hc : h < v
    · have d0 : decide (h < v) = true := by simpa using hc
      have hvp : 0 < v := by omega
      have hnl := H.out.2.1.nlt v hvp hvk
      have hfl := H.out.2.1.flt v hvp hvk
      obtain ⟨F', hF', e⟩ := Fl.meet_step (near := near) (far := far) hc hF hnl hfl
      have y1 := arrN_at H.out.1.kf (j := v) (by rw [H.out.2.1.fl]; have := H.out.2.2.2.2.1; omega)
      have y2 := arrN_at H.out.1.kn (j := v) (by rw [H.out.2.1.nl]; have := H.out.2.2.2.2.1; omega)
      rw [e] at hMe
      obtain ⟨q, hq⟩ : ∃ q, q = far.getD v 0 := ⟨_, rfl⟩
      obtain ⟨p, hp⟩ : ∃ p, p = near.getD v 0 := ⟨_, rfl⟩
      rw [← hq] at y1 hMe hF' hfl
      rw [← hp] at y2 hMe hF' hnl
      have d1 : (0 : Int) ≤ (v : Int) := by omega
      have d2 : (v : Int) < (m : Int) := by have := H.out.2.2.2.2.1; omega
      have HX := Lib.hid (And.intro hMe (And.intro hF' (And.intro hvk (And.intro hnl hfl))))
      clear hc hF hMe hF' e hvk hvp hq hp hnl hfl
      go_wp2_with fail
      · rename_i hlt
        refine ⟨⟨q, F', rfl, by have := HX.out.2.2.2.2; have := HX.out.2.2.1; omega, by have := HX.out.2.1; rw [if_pos hlt] at this; exact this, by have := HX.out.1; rw [if_pos hlt] at this; exact this, trivial⟩, ?_⟩
        have := HX.out.2.2.2.2
        simp [intOf]; omega
      · rename_i hlt
        refine ⟨⟨p, F', rfl, by have := HX.out.2.2.2.1; have := HX.out.2.2.1; omega, by have := HX.out.2.1; rw [if_neg hlt] at this; exact this, by have := HX.out.1; rw [if_neg hlt] at this; exact this, trivial⟩, ?_⟩
        have := HX.out.2.2.2.1
        simp [intOf]; omega
    · have d0 : decide (h < v) = false := by simpa using hc
      have e := Fl.meet_end (near := near) (far := far) (F := F) hc
      rw [e] at hMe
      subst hMe
      clear hc hF e hvk
      go_wp2_with fail
      go_ret
      exact ⟨rfl, rfl⟩
end Go.Proofs.Ytjlmkcamefaodaa
