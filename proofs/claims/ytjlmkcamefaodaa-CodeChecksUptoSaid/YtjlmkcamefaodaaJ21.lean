/-
  Joined: FAbv2.
-/
import Derived.Test.YtjlmkcamefaodaaJ20
import Derived.Deep.RegionHeld3
/-! FAbv2: What stands above, of any graph: the walk. -/

namespace Go.Proofs.Ytjlmkcamefaodaa
open Go Go.RowKit Fl

def AbvT (w : World) (N : Nat) (Z : List Int) (W : World) (e : Ending) : Prop := ∃ b, e = .returned (.slice (some ⟨b, 0, none⟩) N N) ∧ Blk b (arrZ Z) 3 W ∧ Z.length = N ∧ w.heap.size ≤ b ∧ Below w.heap.size w W
def Abv2 (w : World) (N : Nat) (p q : Value) (W : World) : Prop := ∃ a b, p = .slice (some ⟨a, 0, none⟩) N N ∧ q = .slice (some ⟨b, 0, none⟩) N N ∧ AbG w a b N (List.replicate N 0) (List.replicate N 0) W
def ARel1 (w : World) (a b N : Nat) (iv : Value) (W : World) : Prop := ∃ j : Nat, j ≤ N ∧ iv = I (j : Int) ∧ AbG w a b N (minusL N j) (List.replicate N 0) W
def ARel2 (w : World) (a b N m : Nat) (ent : List Nat) (iv : Value) (W : World) : Prop := ∃ i : Nat, i ≤ m ∧ iv = I (i : Int) ∧ AbG w a b N (List.replicate N (-1)) (numsF ent N i) W
/-- The climb, from the greatest number on. -/
def ARel3 (wc : World) (bc b0 b1 b2 b3 m : Nat) (E : Nat → Nat → Prop) (Pd : Nat → List Nat) (par : Nat → Nat) (fr : List Nat) (Z : List Nat × List Nat × List Nat) (nv : Value) (W : World) : Prop :=
  ∃ (n : Nat) (up ls half : List Nat) (pv : Value) (l : List Nat), n < m ∧ nv = I (n : Int) ∧ CliS m E Pd par Z n up ls half ∧ ClimbP wc.heap.size bc b0 b1 b2 b3 m fr up half ls pv pv l W W ∧ Below wc.heap.size wc W
/-- Those that go on to one. -/
def ARel4 (wc : World) (bc b0 b1 b2 b3 m L n : Nat) (par : Nat → Nat) (fr half : List Nat) (rst : Nat → List Nat) (Z : List Nat × List Nat × Nat) (kv hv : Value) (W : World) : Prop :=
  ∃ (j h : Nat) (up ls : List Nat) (pv : Value) (l : List Nat), j ≤ L ∧ kv = I (j : Int) ∧ hv = I (h : Int) ∧ h ≤ 60000 ∧ Cl m n par half up ls ∧ predsF half n (rst j) up ls h = Z ∧ ClimbP wc.heap.size bc b0 b1 b2 b3 m fr up half ls pv pv l W W ∧ Below wc.heap.size wc W
def ARel5 (w : World) (a b bn N m : Nat) (ent near : List Nat) (U : List Nat) (iv : Value) (W : World) : Prop := ∃ k : Nat, k ≤ m ∧ iv = I (k : Int) ∧ AbG w a b N (aboveL ent near N k) U W ∧ Blk bn (arrN near) 3 W ∧ a ≠ bn

set_option maxRecDepth 100000 in
set_option maxHeartbeats 16000000 in
theorem above_any (bw g m cap bf br N bl : Nat) (G : List (List Nat)) (s : Ws) (P : List Nat) (hN : N ≤ 60000) (hI : InvP G s P) (hok : WsOk G s) (hc : s.cur = -1) (w : World) (h : AbvR w bw g m cap bf br N bl G s) :
    Calls Try.prog 55 #[.pointer (some ⟨bw, 0, none⟩), .slice (some ⟨bl, 0, none⟩) N N] w fun e w' => AbvT w N (aboveL s.ent (nearL G s) N m) w' e := by
  have hmk := mkIn N (by omega)
  have hm0 : 0 < m := by rw [← h.em]; exact hI.ne
  have hmN : m ≤ N := by rw [← h.em, ← h.nm]; exact nodup_len hI.nd hI.lo
  have HI := Lib.hid (And.intro hI (And.intro hok (And.intro hc (And.intro hm0 (And.intro hmN hN)))))
  have H := Lib.hid h
  clear hI hok hc h hm0 hmN hN
  go_enter Try.func55, Try.ntmps55
  go_upto_region 1 with (fail)
  go_cut [5, 6] from 17 to 22 (fun p q W => Abv2 w N p q W)
  case first =>
    go_region
    · go_wp2_with fail
      go_meet
      case rel => exact ⟨_, _, rfl, rfl, abG_start w N _ _ (Or.inl ⟨rfl, by omega⟩)⟩
    · go_wp2_with fail
      go_meet
      case rel => exact ⟨_, _, rfl, rfl, abG_start w N _ _ (Or.inr ⟨by omega, rfl⟩)⟩
  case rest =>
    obtain ⟨a, b, rfl, rfl, hA⟩ := hcut
    obtain ⟨W, rfl⟩ : ∃ W, W = wc := ⟨_, rfl⟩
    have HS := Lib.hid (show ARel1 w a b N (I 0) W from ⟨0, Nat.zero_le _, rfl, by rw [minusL_zero]; exact hA⟩)
    clear hA hmk
    go_wp2_with fail
    go_loopw [25] (fun iv wr => ARel1 w a b N iv wr) (fun iv _ => (N - intOf iv).toNat)
    case atStart => exact HS.out
    case round =>
      clear HS
      obtain ⟨j, hj, rfl, hA⟩ := hrel
      obtain ⟨wo, rfl⟩ : ∃ wo : World, wo = wr := ⟨_, rfl⟩
      by_cases hlt : j < N
      · have d0 : decide (j < N) = true := by simpa using hlt
        have d1 : (0 : Int) ≤ (j : Int) := by omega
        have d2 : (j : Int) < (N : Int) := by omega
        have d3 : (j : Int) + 1 ≤ 60000 := by have := HI.out.2.2.2.2.2; omega
        have y := hA.ka.get j (I ((minusL N j).getD j 0)) (arrZ_getD _ _ _ (by rw [hA.ll]; exact hlt))
        have f := hA.ka.free j
        have FIN := Lib.hid (show ARel1 w a b N (I ((j : Int) + 1)) (wo.setCell ⟨a, j, none⟩ (I (-1))) from ⟨j + 1, hlt, rfl, by rw [← minusL_set hlt]; exact hA.setA j (-1)⟩)
        clear hA hlt hj
        go_wp2_with fail
        exact ⟨FIN.out, by simp [intOf]; omega⟩
      · have d0 : decide (j < N) = false := by simpa using hlt
        obtain rfl : j = N := by omega
        rw [minusL_all] at hA
        have h1 := H.out.below (by exact hA.bel)
        have c0 := h1.c0
        have HS := Lib.hid (show ARel2 w a b j m s.ent (I 0) wo from ⟨0, Nat.zero_le _, rfl, hA⟩)
        clear hA hlt hj h1
        go_upto_region 7 with (fail)
        go_wp2_with fail
        go_loopw [37] (fun iv wr => ARel2 w a b j m s.ent iv wr) (fun iv _ => (m - intOf iv).toNat)
        case atStart => exact HS.out
        case round =>
          clear HS c0
          obtain ⟨i, hi, rfl, hA⟩ := hrel
          obtain ⟨w2, rfl⟩ : ∃ w2 : World, w2 = wr := ⟨_, rfl⟩
          by_cases hlt : i < m
          · have d0 : decide (i < m) = true := by simpa using hlt
            have d1 : (0 : Int) ≤ (i : Int) := by omega
            have d2 : (i : Int) < (m : Int) := by omega
            have d3 : (i : Int) + 1 ≤ 60000 := by have := HI.out.2.2.2.2; omega
            obtain ⟨q, hq⟩ : ∃ q, q = s.ent.getD i 0 := ⟨_, rfl⟩
            have hqN : q < j := by rw [hq, ← H.out.nm]; exact HI.out.1.lo _ (getD_mem (by rw [H.out.em]; exact hlt))
            have y := (H.out.below hA.bel).en i hlt
            rw [← hq] at y
            have d4 : (0 : Int) ≤ (q : Int) := by omega
            have d5 : (q : Int) < (j : Int) := by omega
            have z := hA.kb.get q (I (((numsF s.ent j i).getD q 0 : Nat) : Int)) (arrN_getD _ _ _ (by rw [hA.ul]; exact hqN))
            have f := hA.kb.free q
            have FIN := Lib.hid (show ARel2 w a b j m s.ent (I ((i : Int) + 1)) (w2.setCell ⟨b, q, none⟩ (I (i : Int))) from ⟨i + 1, hlt, rfl, by show AbG w a b j _ ((numsF s.ent j i).set (s.ent.getD i 0) i) _; rw [← hq]; exact hA.setB q i⟩)
            clear hA hlt hi hq hqN
            go_wp2_with fail
            exact ⟨FIN.out, by simp [intOf]; omega⟩
          · have d0 : decide (i < m) = false := by simpa using hlt
            obtain rfl : i = m := by omega
            have hR := H.out.below hA.bel
            have hFW : FromW w2 bw bf b g i j cap s.ent s.frm (numsF s.ent j i) :=
              ⟨hR.c0, hR.c2, hR.en, hR.fm, fun q hq => hA.kb.get q _ (arrN_getD _ _ _ (by rw [hA.ul]; exact hq)), hR.lw, hR.lf, hA.kb.lt, hR.lg, hR.em, fun q hq => by rw [← H.out.nm]; exact HI.out.1.lo _ (getD_mem (by rw [H.out.em]; exact hq)), fun q h0 hq => by
                have hm := H.out.em
                have e1 := (HI.out.1.pfr q h0 (by omega)).1
                have hlo : s.ent.getD q 0 < s.frm.length := by rw [HI.out.2.1.fl]; exact HI.out.1.lo _ (getD_mem (by omega))
                have e2 : s.frm.getD (s.ent.getD q 0) 0 = s.frm.getD (s.ent.getD q 0) (-1) := by rw [getD_of _ _ _ hlo, getD_of _ _ _ hlo]
                have hp := HI.out.1.plt q h0 (by omega)
                have := HI.out.1.lo _ (getD_mem (l := s.ent) (i := P.getD q 0) (by omega))
                rw [e2, e1, ← H.out.nm]
                omega⟩
            have HC := Lib.hid (newClimb_any bw bf b g i j cap s.ent s.frm (numsF s.ent j i) (by have := HI.out.2.2.2.2; omega) (by have := HI.out.2.2.2.2; omega) w2 hFW)
            have HA := Lib.hid hA
            clear hA hlt hi hR hFW
            have i2 : (1 : Int) ≤ (i : Int) := by have := HI.out.2.2.2.1; omega
            have i3 : (i : Int) ≤ 60000 := by have := HI.out.2.2.2.2; omega
            go_upto_region 12 with (fail)
            go_wp2_with ((go_at_call 64; refine HC.out.mono ?_; rintro e w3 ⟨bc, b0, b1, b2, b3, rfl, hcl, hb3⟩; have c0 := (H.out.below (HA.out.bel.trans (hb3.mono HA.out.bel.size))).c0))
            have e1 : (List.range i).map (fromF s.ent s.frm (numsF s.ent j i)) = (List.range i).map (parL G s) := List.map_congr_left fun x _ => by unfold parL; rw [H.out.em, H.out.nm]
            have hm0 := HI.out.2.2.2.1
            have D : Nums3 i (EN G s.ent) (parL G s) := by rw [← H.out.em]; exact (HI.out.1.nums3 HI.out.2.2.1).congr (fun q hq => HI.out.1.par HI.out.2.1 hq)
            have hp0 : parL G s 0 = 0 := by rw [HI.out.1.par HI.out.2.1 HI.out.1.ne]; exact HI.out.1.p0
            obtain ⟨Z, hZ⟩ : ∃ Z, Z = halfF (predsL G s) (parL G s) (i - 1) ((List.range i).map (parL G s)) (List.range i) (List.range i) := ⟨_, rfl⟩
            have hS : CliS i (EN G s.ent) (predsL G s) (parL G s) Z (i - 1) ((List.range i).map (parL G s)) (List.range i) (List.range i) :=
              ⟨cl_start D.lt hm0 hp0, fun q _ hq => by simp [List.getD_eq_getElem?_getD, hq], by simp, fun u h1 h2 => by omega, hZ.symm⟩
            rw [e1] at hcl
            obtain ⟨fr, hfr⟩ : ∃ fr, fr = (List.range i).map (parL G s) := ⟨_, rfl⟩
            have hfx : ∀ q, q < i → fr.getD q 0 = parL G s q := fun q hq => by rw [hfr]; simp [List.getD_eq_getElem?_getD, hq]
            rw [← hfr] at hcl hS
            have HD := Lib.hid (And.intro D (And.intro hZ (And.intro hfx hfr)))
            have HS := Lib.hid (show ARel3 w2 bc b0 b1 b2 b3 i (EN G s.ent) (predsL G s) (parL G s) fr Z (I ((i : Int) - 1)) w3 from
              ⟨i - 1, _, _, _, _, _, by omega, by rw [show ((i - 1 : Nat) : Int) = (i : Int) - 1 by omega], hS, hcl.path, hb3⟩)
            clear e1 hm0 D hp0 hZ hS hfr hfx hcl hb3
            go_loopw [11] (fun nv wr => ARel3 w2 bc b0 b1 b2 b3 i (EN G s.ent) (predsL G s) (parL G s) fr Z nv wr) (fun nv _ => (intOf nv).toNat)
            case atStart => exact HS.out
            case round =>
              clear HS c0 HC i2 i3
              obtain ⟨n, up, ls, half, pv, l, hn, rfl, hC, hP, hB⟩ := hrel
              obtain ⟨w4, rfl⟩ : ∃ w4 : World, w4 = wr := ⟨_, rfl⟩
              by_cases hlt : 0 < n
              · have d0 : decide (0 < n) = true := by simpa using hlt
                have hR := H.out.below (HA.out.bel.trans (hB.mono HA.out.bel.size))
                have c0 := hR.c0
                have d1 : (0 : Int) ≤ (n : Int) := by omega
                have d2 : (n : Int) < (i : Int) := by omega
                have x0 := hP.g.blk.get 0 (.slice (some ⟨b0, 0, none⟩) i i) rfl
                have y0 := arrN_at hP.g.k0 (j := n) (by rw [hP.g.e0]; exact hn)
                rw [HD.out.2.2.1 n hn] at y0
                obtain ⟨pn, hpn⟩ : ∃ pn, pn = parL G s n := ⟨_, rfl⟩
                rw [← hpn] at y0
                obtain ⟨q, hq⟩ : ∃ q, q = s.ent.getD n 0 := ⟨_, rfl⟩
                have hqN : q < j := by rw [hq, ← H.out.nm]; exact HI.out.1.lo _ (getD_mem (by rw [H.out.em]; exact hn))
                have e0 := hR.en n hn
                rw [← hq] at e0
                have d3 : (0 : Int) ≤ (q : Int) := by omega
                have d4 : (q : Int) < (j : Int) := by omega
                have hR2 := H.out.below HA.out.bel
                have hrr := hR2.gr.row q (by simp [intoF]; rw [H.out.nm]; exact hqN)
                obtain ⟨R, hRR⟩ : ∃ R, R = row (intoF G) q := ⟨_, rfl⟩
                rw [← hRR] at hrr
                obtain ⟨rv, r0w, ra, rc, hrv, hrw⟩ := hrr
                subst hrv
                have r0 := cell_below hB hR2.gr.lt r0w
                have hrow : R = rowSt G G.length 0 q := by
                  have : q < G.length := by rw [H.out.nm]; exact hqN
                  rw [hRR]
                  simp [row, intoF, List.getD_eq_getElem?_getD, this]
                obtain ⟨L, hL⟩ : ∃ L, L = R.length := ⟨_, rfl⟩
                rw [← hL] at r0
                have hLb : L ≤ 60001 := by rw [hL, hrow]; have := rowSt_len G G.length 0 q; have := H.out.nm; have := HI.out.2.2.2.2; omega
                have hPd : predsL G s n = restF s.rch (numsF s.ent j i) (R.drop 0) := by
                  unfold predsL restF
                  rw [List.drop_zero, hrow, ← hq, H.out.nm, H.out.em]
                obtain ⟨Z4, hZ4⟩ : ∃ Z4, Z4 = predsF half n (predsL G s n) up ls pn := ⟨_, rfl⟩
                have hpnb : pn ≤ 60000 := by have := HD.out.1.lt n hlt hn; rw [← hpn] at this; have := HI.out.2.2.2.2; omega
                have HS := Lib.hid (show ARel4 w2 bc b0 b1 b2 b3 i L n (parL G s) fr half (fun k => restF s.rch (numsF s.ent j i) (R.drop k)) Z4 (I 0) (I (pn : Int)) w4 from
                  ⟨0, pn, up, ls, pv, l, Nat.zero_le _, rfl, rfl, hpnb, hC.cl, by rw [hZ4, hPd], hP, hB⟩)
                have HX := Lib.hid (And.intro hC (And.intro hZ4 (And.intro hpn (And.intro hPd (And.intro hL (And.intro hLb (And.intro hrow (And.intro hrw (And.intro hlt hn)))))))))
                have l0 : (L : Int) ≤ 60001 := by omega
                clear hR hR2 r0w hpn hq hqN hrow hRR hL hLb hPd hZ4 hpnb hC hP hB hrw hlt hn
                go_wp2_with fail
                go_loopw [78, 12] (fun kv hv wr => ARel4 w2 bc b0 b1 b2 b3 i L n (parL G s) fr half (fun k => restF s.rch (numsF s.ent j i) (R.drop k)) Z4 kv hv wr) (fun kv _ _ => (L - intOf kv).toNat)
                case atStart => exact HS.out
                case round =>
                  clear HS c0 x0 y0 e0 r0
                  obtain ⟨k, h, up4, ls4, pv4, l4, hk, rfl, rfl, hh, hcl, hpr, hP, hB⟩ := hrel
                  obtain ⟨w5, rfl⟩ : ∃ w5 : World, w5 = wr := ⟨_, rfl⟩
                  by_cases hlt : k < L
                  · have d5 : decide (k < L) = true := by simpa using hlt
                    have hkR : k < R.length := by rw [← HX.out.2.2.2.2.1]; exact hlt
                    obtain ⟨rg, hra, hrl, hrc⟩ := HX.out.2.2.2.2.2.2.2.1 k hkR
                    subst hra
                    obtain ⟨x, hx⟩ : ∃ x, x = R.getD k 0 := ⟨_, rfl⟩
                    have hxN : x < j := by
                      have h1 : x ∈ R := by rw [hx]; exact getD_mem hkR
                      rw [HX.out.2.2.2.2.2.2.1] at h1
                      rw [← H.out.nm]; exact (mem_rowSt.1 h1).1
                    have hR := H.out.below (HA.out.bel.trans (hB.mono HA.out.bel.size))
                    have y1 := cell_below hB hrl hrc
                    rw [← getD_of R k 0 hkR, ← hx] at y1
                    have c3 := hR.c3
                    obtain ⟨rb, hrb⟩ : ∃ rb, rb = s.rch.getD x false := ⟨_, rfl⟩
                    have y2 := hR.rc x hxN
                    rw [← hrb] at y2
                    have d6 : (0 : Int) ≤ (k : Int) := by omega
                    have d7 : (k : Int) < (L : Int) := by omega
                    have d8 : (0 : Int) ≤ (x : Int) := by omega
                    have d9 : (x : Int) < (j : Int) := by omega
                    cases hrv : rb with
                    | false =>
                      subst hrv
                      have FIN := Lib.hid (show ARel4 w2 bc b0 b1 b2 b3 i L n (parL G s) fr half (fun k => restF s.rch (numsF s.ent j i) (R.drop k)) Z4 (I ((k : Int) + 1)) (I (h : Int)) w5 from
                        ⟨k + 1, h, up4, ls4, pv4, l4, hlt, rfl, rfl, hh, hcl, by rw [← hpr]; show predsF _ _ (restF _ _ (R.drop (k + 1))) _ _ _ = predsF _ _ (restF _ _ (R.drop k)) _ _ _; rw [restF_no hkR (by rw [← getD_of R k 0 hkR, ← hx]; exact hrb.symm)], hP, hB⟩)
                      clear hk hh hcl hpr hP hB hlt hkR hrl hrc hx hxN hR hrb
                      as_aux_lemma =>
                      go_wp2_with fail
                      exact ⟨FIN.out, by simp [intOf]; omega⟩
                    | true =>
                      subst hrv
                      obtain ⟨v, hv⟩ : ∃ v, v = (numsF s.ent j i).getD x 0 := ⟨_, rfl⟩
                      have hvi : v < i := by
                        obtain ⟨e, he, hex⟩ := mem_getD ((HI.out.1.rc x).1 hrb.symm)
                        rw [hv, ← hex, ← H.out.nm, ← H.out.em, numsF_at HI.out.1.nd HI.out.1.lo (Nat.le_refl _) he]
                        exact he
                      have hA5 := HA.out.later hB
                      obtain ⟨Y, hY⟩ : ∃ Y, Y = lowF up4 half ls4 (n + 1) v := ⟨_, rfl⟩
                      have hp := HD.out.1.lt
                      obtain ⟨hcl', hY2, _⟩ := low_ok hp hcl HX.out.1.hh hvi
                      rw [← hY] at hcl' hY2
                      obtain ⟨z, hz⟩ : ∃ z, z = Y.2.1.getD v 0 := ⟨_, rfl⟩
                      have hzi : z < i := by rw [hz]; exact (Cl.lsOk hp hcl').2 v hvi
                      obtain ⟨hfz, hhfz⟩ : ∃ hfz, hfz = half.getD z 0 := ⟨_, rfl⟩
                      have hlen := HX.out.1.hl
                      have hnm := HX.out.2.2.2.2.2.2.2.2.2
                      have HL := Lib.hid (show ∀ q, Calls Try.prog 65 #[.pointer (some ⟨bc, 0, none⟩), I (v : Int), I ((n : Int) + 1)] (w5.drewN q) fun e w' => ∃ pv l, e = .returned (I (z : Int)) ∧ ClimbP w2.heap.size bc b0 b1 b2 b3 i fr Y.1 half Y.2.1 pv pv l w' w' ∧ Below w2.heap.size w5 w' from fun q => by
                        refine (lowest_any w2.heap.size bc b0 b1 b2 b3 i fr up4 half ls4 l4 (n + 1) v (by have := HI.out.2.2.2.2; omega) hvi (by omega) (by omega) (Cl.upOk hcl) (Cl.lsOk hp hcl) pv4 (w5.drewN q) (hP.heap rfl)).mono ?_
                        rintro e w' ⟨pv, l, rfl, hq⟩
                        rw [← hY] at hq ⊢
                        rw [hY2]
                        have k1 : Below w2.heap.size w5 (w5.drewN q) := ⟨rfl, rfl, rfl, Nat.le_refl _, fun _ _ => rfl⟩
                        have k2 : Below w2.heap.size (w5.drewN q) w' := ClimbP.kept (hP.heap (W' := w5.drewN q) rfl).o hq hB.size
                        exact ⟨pv, l, by rw [hz], hq.anew, k1.trans k2⟩)
                      have z0 := hP.g.blk.get 2 (.slice (some ⟨b2, 0, none⟩) i i) rfl
                      have z1 := hA5.kb.get x (I (v : Int)) (by rw [hv]; exact arrN_getD _ _ _ (by rw [hA5.ul]; exact hxN))
                      have z2 := arrN_at hP.g.k2 (j := z) (by rw [hP.g.e2]; exact hzi)
                      rw [← hhfz] at z2
                      have e1 : (0 : Int) ≤ (z : Int) := by omega
                      have e2 : (z : Int) < (i : Int) := by omega
                      have e3 : (n : Int) + 1 ≤ 60000 := by have := HI.out.2.2.2.2; omega
                      have HZ := Lib.hid (show ∀ w', Below w2.heap.size w5 w' → w'.cell? ⟨b, x, none⟩ = some (I (v : Int)) from fun w' hb => (hA5.kb.below hb HA.out.kb.lt).get x (I (v : Int)) (by rw [hv]; exact arrN_getD _ _ _ (by rw [hA5.ul]; exact hxN)))
                      obtain ⟨mn, hmn⟩ : ∃ mn, mn = min h hfz := ⟨_, rfl⟩
                      have hmi : (if hfz < h then (hfz : Int) else (h : Int)) = (mn : Int) := by rw [hmn]; split <;> omega
                      have hpr' : predsF half n (restF s.rch (numsF s.ent j i) (R.drop (k + 1))) Y.1 Y.2.1 mn = Z4 := by
                        rw [← hpr]
                        show _ = predsF half n (restF s.rch (numsF s.ent j i) (R.drop k)) up4 ls4 h
                        rw [restF_yes hkR (by rw [← getD_of R k 0 hkR, ← hx]; exact hrb.symm), ← getD_of R k 0 hkR, ← hx, ← hv]
                        show _ = predsF half n (restF s.rch (numsF s.ent j i) (R.drop (k + 1))) (lowF up4 half ls4 (n + 1) v).1 (lowF up4 half ls4 (n + 1) v).2.1 (min h (half.getD ((lowF up4 half ls4 (n + 1) v).2.1.getD (lowF up4 half ls4 (n + 1) v).2.2 0) 0))
                        rw [← hY, hY2, ← hz, ← hhfz, ← hmn]
                      have HA5 := Lib.hid (And.intro hB (And.intro hcl' (And.intro hpr' (And.intro hlt (And.intro (show mn ≤ 60000 by omega) (And.intro hhfz hzi))))))
                      have e4 : IntKind.i64.wrap ((n : Int) + 1) = (n : Int) + 1 := IntWalk.i64_in _ (by omega)
                      have e5 : (0 : Int) ≤ (n : Int) + 1 := by omega
                      clear hA5 hP hB hcl hcl' hpr hpr' hlt hh hkR hx hrb hv hY hY2 hz hhfz hzi hlen hxN hp hnm hvi hrl hrc hR hk hmn
                      as_aux_lemma =>
                      go_upto_region 21 with (fail)
                      go_region_held3 (fun w' => w'.cell? ⟨bc, 2, none⟩ = some (.slice (some ⟨b2, 0, none⟩) i i) ∧ w'.cell? ⟨b, x, none⟩ = some (I (v : Int)) ∧ w'.cell? ⟨b2, z, none⟩ = some (I (hfz : Int))) (first | exact hS6 | exact ⟨z0, z1, z2⟩ | go_keep) (first | (go_at_call 65; refine (HL.out 1).mono ?_; rintro e w6 ⟨pv6, l6, rfl, hP6, hB6⟩; have y6 := arrN_at hP6.g.k2 (j := z) (by rw [hP6.g.e2]; exact HA5.out.2.2.2.2.2.2); rw [← HA5.out.2.2.2.2.2.1] at y6; have hS6 := And.intro (hP6.g.blk.get 2 (.slice (some ⟨b2, 0, none⟩) i i) rfl) (And.intro (HZ.out _ hB6) y6)))
                      have FIN := Lib.hid (show ARel4 w2 bc b0 b1 b2 b3 i L n (parL G s) fr half (fun k => restF s.rch (numsF s.ent j i) (R.drop k)) Z4 (I ((k : Int) + 1)) (I (mn : Int)) w6 from
                        ⟨k + 1, mn, Y.1, Y.2.1, pv6, l6, HA5.out.2.2.2.1, rfl, rfl, HA5.out.2.2.2.2.1, HA5.out.2.1, HA5.out.2.2.1, hP6, HA5.out.1.trans hB6⟩)
                      have hlk := HA5.out.2.2.2.1
                      clear hP6 hB6 y6 hS6
                      go_wp2_with fail
                      exact ⟨FIN.out, by simp [intOf]; omega⟩
                  · have d5 : decide (k < L) = false := by simpa using hlt
                    obtain rfl : k = L := by omega
                    have hpr' : predsF half n (predsL G s n) up ls (parL G s n) = (up4, ls4, h) := by
                      rw [← HX.out.2.2.1, ← HX.out.2.1, ← hpr]
                      show predsF half n (restF _ _ (R.drop k)) _ _ _ = _
                      rw [HX.out.2.2.2.2.1, restF_end]
                      rfl
                    obtain ⟨n', hn'⟩ : ∃ n', n = n' + 1 := ⟨n - 1, by have := HX.out.2.2.2.2.2.2.2.2.1; omega⟩
                    have hCS := HX.out.1
                    have hnm := HX.out.2.2.2.2.2.2.2.2.2
                    have x0 := hP.g.blk.get 2 (.slice (some ⟨b2, 0, none⟩) i i) rfl
                    have y0 := arrN_at hP.g.k2 (j := n) (by rw [hP.g.e2]; exact hnm)
                    have f0 := hP.g.k2.free n
                    have d6 : (0 : Int) ≤ (n : Int) := by omega
                    have d7 : (n : Int) < (i : Int) := by omega
                    have d8 : (1 : Int) ≤ (n : Int) := by omega
                    have d9 : (n : Int) ≤ 60000 := by have := HI.out.2.2.2.2; omega
                    have FIN := Lib.hid (show ARel3 w2 bc b0 b1 b2 b3 i (EN G s.ent) (predsL G s) (parL G s) fr Z (I ((n : Int) - 1)) (w5.setCell ⟨b2, n, none⟩ (I (h : Int))) from
                      ⟨n', up4, ls4, half.set n h, pv4, l4, by omega, by rw [show (n' : Int) = (n : Int) - 1 by omega], by subst hn'; exact hCS.step HD.out.1 (fun q v hq => HI.out.1.preds (by rw [H.out.em]; exact hq)) hnm hpr', hP.set2 n h, hB.setCell (p := ⟨b2, n, none⟩) hP.g.l2 _⟩)
                    clear hk hh hcl hpr hpr' hn' hCS hnm hP hB hlt
                    as_aux_lemma =>
                    go_wp2_with fail
                    exact ⟨FIN.out, by simp [intOf]; omega⟩
              · have d0 : decide (0 < n) = false := by simpa using hlt
                obtain rfl : n = 0 := by omega
                have hZ := hC.eq
                have hh : half = halvesF (predsL G s) (parL G s) i := by
                  unfold halvesF
                  rw [← HD.out.2.1, ← hZ]
                  rfl
                have hNE := nearest_any w2.heap.size bc b0 b1 b2 b3 i fr up half ls pv w4 (by have := HI.out.2.2.2.2; omega) HI.out.2.2.2.1 (fun q h0 hq => by rw [HD.out.2.2.1 q hq]; exact HD.out.1.lt q h0 hq) hP.g
                rw [nearF_congr (g := parL G s) (fun q hq => HD.out.2.2.1 q (by omega)), hh] at hNE
                have hNE' : Calls Try.prog 66 #[.pointer (some ⟨bc, 0, none⟩)] w4 fun e w' => NearT' w4 i (nearL G s) w' e := by
                  have e : nearL G s = nearestF (predsL G s) (parL G s) i := by unfold nearL; rw [H.out.em]
                  rw [e]; exact hNE
                have HN := Lib.hid hNE'
                have HB := Lib.hid hB
                have c0 := (H.out.below (HA.out.bel.trans (hB.mono HA.out.bel.size))).c0
                clear hC hP hB hlt hn hZ hh hNE hNE'
                as_aux_lemma =>
                go_wp2_with ((go_at_call 66; refine HN.out.mono ?_; rintro e w5 ⟨bn, rfl, hbn, hbl, hb5⟩))
                have hA5 := (HA.out.later (HB.out.mono (Nat.le_refl _))).later hb5
                have hne : a ≠ bn := by have := HA.out.ka.lt; have := HB.out.size; omega
                obtain ⟨NL, hNL⟩ : ∃ NL, NL = nearL G s := ⟨_, rfl⟩
                rw [← hNL] at hbn
                obtain ⟨n1, n2, n3, n4⟩ := HI.out.1.near HI.out.2.1 HI.out.2.2.1
                rw [← hNL, H.out.em] at n1 n3
                have HNL := Lib.hid (And.intro hNL (And.intro n1 n3))
                have HS := Lib.hid (show ARel5 w a b bn j i s.ent NL (numsF s.ent j i) (I 0) w5 from ⟨0, Nat.zero_le _, rfl, hA5, hbn, hne⟩)
                clear hA5 hne hNL hbn n1 n2 n3 n4 hb5 hbl c0
                go_loopw [116] (fun kv wr => ARel5 w a b bn j i s.ent NL (numsF s.ent j i) kv wr) (fun kv _ => (i - intOf kv).toNat)
                case atStart => exact HS.out
                case round =>
                  clear HS
                  obtain ⟨k, hk, rfl, hA, hbn, hne⟩ := hrel
                  obtain ⟨w6, rfl⟩ : ∃ w6 : World, w6 = wr := ⟨_, rfl⟩
                  by_cases hlt : k < i
                  · have d1 : decide (k < i) = true := by simpa using hlt
                    have d2 : (0 : Int) ≤ (k : Int) := by omega
                    have d3 : (k : Int) < (i : Int) := by omega
                    have d4 : (k : Int) + 1 ≤ 60000 := by have := HI.out.2.2.2.2; omega
                    have y := arrN_at hbn (j := k) (by rw [HNL.out.2.1]; exact hlt)
                    obtain ⟨x, hx⟩ : ∃ x, x = NL.getD k 0 := ⟨_, rfl⟩
                    rw [← hx] at y
                    by_cases hk0 : 0 < k
                    · have d5 : decide (0 < k) = true := by simpa using hk0
                      have hxi : x < i := by have := HNL.out.2.2 k hk0 hlt; rw [← hx] at this; omega
                      have hR := H.out.below hA.bel
                      have c0 := hR.c0
                      obtain ⟨q, hq⟩ : ∃ q, q = s.ent.getD k 0 := ⟨_, rfl⟩
                      obtain ⟨p, hp⟩ : ∃ p, p = s.ent.getD x 0 := ⟨_, rfl⟩
                      have y1 := hR.en k hlt
                      have y2 := hR.en x hxi
                      rw [← hq] at y1
                      rw [← hp] at y2
                      have hqN : q < j := by rw [hq, ← H.out.nm]; exact HI.out.1.lo _ (getD_mem (by rw [H.out.em]; exact hlt))
                      have d6 : (0 : Int) ≤ (q : Int) := by omega
                      have d7 : (q : Int) < (j : Int) := by omega
                      have d8 : (0 : Int) ≤ (x : Int) := by omega
                      have d9 : (x : Int) < (i : Int) := by omega
                      have z := hA.ka.get q (I ((aboveL s.ent NL j k).getD q 0)) (arrZ_getD _ _ _ (by rw [hA.ll]; exact hqN))
                      have f := hA.ka.free q
                      have hgl := H.out.lg
                      have hbl := H.out.lw
                      have FIN := Lib.hid (show ARel5 w a b bn j i s.ent NL (numsF s.ent j i) (I ((k : Int) + 1)) (w6.setCell ⟨a, q, none⟩ (I (p : Int))).drew from
                        ⟨k + 1, hlt, rfl, by
                          have e : aboveL s.ent NL j (k + 1) = (aboveL s.ent NL j k).set q (p : Int) := by
                            show (if k = 0 then _ else _) = _
                            rw [if_neg (by omega), hq, hp, hx]
                          rw [e]; exact (hA.setA q p).drew, hbn.setOther (Ne.symm hne) _ _, hne⟩)
                      have n1 : a ≠ bw := by have := hA.la; have := H.out.lw; omega
                      have n2 : a ≠ g := by have := hA.la; have := H.out.lg; omega
                      clear hA hbn hne hlt hk hx hxi hR hq hp hqN hgl hbl
                      as_aux_lemma =>
                      go_upto_region 28 with (fail)
                      go_region
                      go_wp2_with fail
                      exact ⟨FIN.out, by simp [intOf]; omega⟩
                    · obtain rfl : k = 0 := by omega
                      have FIN := Lib.hid (show ARel5 w a b bn j i s.ent NL (numsF s.ent j i) (I 1) w6 from
                        ⟨1, hlt, rfl, hA, hbn, hne⟩)
                      clear hA hbn hne hk hx hk0
                      as_aux_lemma =>
                      go_wp2_with fail
                      exact ⟨FIN.out, by simp [intOf]; omega⟩
                  · have d1 : decide (k < i) = false := by simpa using hlt
                    obtain rfl : k = i := by omega
                    have FIN := Lib.hid (show AbvT w j (aboveL s.ent (nearL G s) j k) w6 (.returned (.slice (some ⟨a, 0, none⟩) j j)) from
                      ⟨a, rfl, by rw [← HNL.out.1]; exact hA.ka, by rw [← HNL.out.1]; exact hA.ll, hA.la, hA.bel⟩)
                    clear hA hbn hne hlt hk
                    as_aux_lemma =>
                    go_wp2_with fail
                    go_ret
                    exact FIN.out
end Go.Proofs.Ytjlmkcamefaodaa
