/-
  The statement of the tokens written apart: its body says true at every text and every list of gaps.
-/
import Derived.Test.YtdglkfdacajalaaDoorPlacesWalk
import Derived.Test.YtdglkfdacajalaaDoorNumsWalk
import Derived.Test.YtdglkfdacajalaaDoorPlain5
import Derived.RegionTactic
import Derived.ChangeAlike
namespace Go.Proofs.YtdglkfdacajalaaDoor
open Go Go.RowKit Lx Go.Maps Go.WideMaps Go.WideShapes

def gapF (D : List UInt8) (i : Nat) : Nat := if h : i < D.length then (D[i]'h).toNat % 4 else 0

theorem scan_some {l : List UInt8} {ts : List Tok} (h : scan l = .ok ts) : 0 < ts.length := by
  unfold scan at h
  split at h
  · cases h
  · exact res_some _ _ _ _ (Nat.le_refl _) h

theorem key_at {a b : List Tok} (h : a.map keyT = b.map keyT) : a.length = b.length ∧ ∀ k (ha : k < a.length) (hb : k < b.length), (a[k]'ha).kind = (b[k]'hb).kind ∧ (a[k]'ha).text = (b[k]'hb).text ∧ (a[k]'ha).num = (b[k]'hb).num := by
  have hl : a.length = b.length := by simpa using congrArg List.length h
  refine ⟨hl, fun k ha hb => ?_⟩
  have h1 := congrArg (fun l : List (Nat × List UInt8 × Nat) => l[k]?) h
  simp only [List.getElem?_map, List.getElem?_eq_getElem ha, List.getElem?_eq_getElem hb, Option.map_some, Option.some.injEq, keyT, Prod.mk.injEq] at h1
  exact h1

set_option maxRecDepth 100000 in
set_option maxHeartbeats 4000000 in
theorem lexApart_any (s : ByteArray) (D : List UInt8) (hD : D.length ≤ 140737488351232) (v : Value) (w : World) (hv : SB w v D) (hT : Tabs w.heap.size w) : Calls Tryd.prog 5 #[.string s, v] w fun e w' => e = .returned (.bool true) ∧ Below w.heap.size w w' := by
  have HT := Lib.hid hT
  clear hT
  obtain ⟨ao, cap, rfl, hc⟩ := hv
  have HC := Lib.hid hc
  clear hc
  obtain ⟨N, X, hN1, hN2, hif, hXs, hcut⟩ := cut_is s 3000
  have hif' : min (s.size : Int) 3000 = (N : Int) := hif
  have HXS := Lib.hid hXs
  clear hif hXs
  go_enter Tryd.func5, Tryd.ntmps5
  go_wp2_with fail
  refine (awake_any w HT.out).mono ?_
  rintro e w1 ⟨rfl, hb1⟩
  have HB1 := Lib.hid hb1
  clear hb1
  go_wp2_with fail
  have hX3 : X.size ≤ 3000 := by have := HXS.out; omega
  clear hN1 hN2 hif' hcut HXS
  refine (scan_any X (by omega) w1 ((HT.out.below HB1.out).mono HB1.out.size)).mono ?_
  rintro e w2 ⟨hb2, hp2⟩
  have HB2 := Lib.hid (HB1.out.trans (hb2.mono HB1.out.size))
  clear hb2
  cases hsc : scan (Bs X) with
  | error pn =>
    obtain ⟨p, n⟩ := pn
    rw [hsc] at hp2
    obtain rfl := hp2
    have hn0 : ((n : Int) != 0) = true := by
      rw [bne_iff_ne]
      have := scan_err hsc
      omega
    clear hsc
    go_wp2_with fail
    go_ret
    exact ⟨rfl, HB2.out⟩
  | ok ts =>
    rw [hsc] at hp2
    obtain ⟨v, rfl, ho⟩ := hp2
    have HSC := Lib.hid hsc
    have hPL := scan_placed hsc
    have hlen0 := (resF_len _ _ _ _ (by
      have := hsc
      unfold scan at this
      rw [if_neg (by rw [bs_length]; omega)] at this
      exact this))
    rw [bs_length] at hlen0
    have hlen : ts.length ≤ 3001 := by omega
    clear hsc hlen0
    have hvf : ∃ g cap, v = .slice (some ⟨g, 0, none⟩) ts.length cap := by
      rcases ho.2 with ⟨_, h⟩ | ⟨g, cap, cur, h, _⟩
      · have : ts = [] := List.length_eq_zero_iff.1 h
        rw [this] at hPL
        exact hPL.elim
      · exact ⟨g, cap, h⟩
    obtain ⟨g, cap1, rfl⟩ := hvf
    have hshort : ∀ t ∈ ts, t.text.length ≤ 3000 := fun t ht => by
      have := placed_short _ ts 0 hPL t ht
      rw [bs_length] at this
      omega
    have HO := Lib.hid (And.intro ho hshort)
    clear ho hPL hshort
    go_wp2_with fail
    go_loopw [8, 36] (fun tv i wq => ∃ (k : Nat) (Y : ByteArray), k ≤ ts.length ∧ i = .int .i64 k ∧ tv = .string Y ∧ Bs Y = joinF (gapF D) 0 (ts.take k) ∧ Below w.heap.size w wq ∧ wq.ownsRow w1.heap.size 33 4 (.slice (some ⟨g, 0, none⟩) ts.length cap1) ts.length (toksCells ts)) (fun _ i _ => ts.length - (intOf i).toNat)
    case atStart => exact ⟨0, ⟨#[]⟩, Nat.zero_le _, rfl, rfl, rfl, HB2.out, HO.out.1⟩
    case round =>
      obtain ⟨k, Y, hk, rfl, rfl, hY, hb, ho⟩ := hrel
      have HR := Lib.hid (And.intro hY (And.intro hb ho))
      clear hY hb ho
      have hYs : Y.size ≤ 9039012 := by
        have h1 := joinF_len (gapF D) 3000 (ts.take k) 0 (fun t ht => HO.out.2 t (List.mem_of_mem_take ht))
        rw [← HR.out.1, bs_length, List.length_take] at h1
        have h2 : min k ts.length * (3000 + 12) ≤ 3001 * 3012 := Nat.mul_le_mul (by omega) (by omega)
        omega
      by_cases hlt : k < ts.length
      · have hd : decide ((k : Int) < (ts.length : Int)) = true := by simp; omega
        obtain ⟨p0, p1, p2, p3⟩ := tok_at HR.out.2.2 k hlt
        obtain ⟨t, ht⟩ : ∃ t, t = ts[k] := ⟨_, rfl⟩
        rw [← ht] at p0 p1 p2 p3
        obtain ⟨T, hTT⟩ : ∃ T : ByteArray, T = ⟨t.text.toArray⟩ := ⟨_, rfl⟩
        rw [← hTT] at p2
        have hTs : T.size ≤ 3000 := by
          have h1 := HO.out.2 t (by rw [ht]; exact List.getElem_mem hlt)
          rw [hTT]
          simpa [ByteArray.size] using h1
        have hBT : Bs T = t.text := by rw [hTT]
        obtain ⟨P, hPP⟩ : ∃ P : Int, P = (t.pos : Int) := ⟨_, rfl⟩
        obtain ⟨K, hKK⟩ : ∃ K : Int, K = (t.kind : Int) := ⟨_, rfl⟩
        obtain ⟨NN, hNN⟩ : ∃ NN : Int, NN = (t.num : Int) := ⟨_, rfl⟩
        rw [← hPP] at p1
        rw [← hKK] at p0
        rw [← hNN] at p3
        obtain ⟨W2, hW2⟩ : ∃ W2, W2 = wr.alloc (.cells #[.int .u8 K, .int .i64 P, .string T, .int .i64 NN] 33) := ⟨_, rfl⟩
        have n2 : W2.cell? ⟨wr.heap.size, 2, none⟩ = some (.string T) := by rw [hW2, cell_of_row _ _ _ _ _ _ (heap_alloc_new wr _)]; rfl
        have hbW : Below wr.heap.size wr W2 := by rw [hW2]; exact (Below.refl _ _).alloc (Nat.le_refl _) _
        have hzW : W2.heap.size = wr.heap.size + 1 := by rw [hW2]; simp
        have hnext : ∀ G : ByteArray, Bs G = gapL (gapF D k) → Hid (Bs (Y ++ (T ++ G)) = joinF (gapF D) 0 (ts.take (k + 1))) := by
          intro G hG
          show _ = _
          rw [List.take_succ_eq_append_getElem hlt, joinF_snoc, ← ht, bs_append, bs_append, HR.out.1, hBT, hG, List.length_take, Nat.min_eq_left hk, Nat.zero_add]
        have HNX := Lib.hid hnext
        have HW2 := Lib.hid (And.intro hW2 (And.intro hbW hzW))
        have HBW := Lib.hid (HR.out.2.1.trans (hbW.mono HR.out.2.1.size))
        have HOW : Hid (W2.ownsRow w1.heap.size 33 4 (.slice (some ⟨g, 0, none⟩) ts.length cap1) ts.length (toksCells ts)) := owns_below HR.out.2.2 hbW
        have hYT : (Y.size : Int) + ((T.size : Int) + 12) ≤ 9223372036854775807 := by omega
        have hnw : ¬ wr.heap.size = W2.heap.size := by omega
        have hnw2 : wr.heap.size < W2.heap.size := by omega
        clear hW2 hNN hbW hzW hTT hBT hPP hKK ht hnext hYs
        by_cases hkd : k < D.length
        · have hne : D ≠ [] := by intro e; subst e; simp at hkd
          obtain ⟨b0, off, rfl, hb0, hcells⟩ := HC.out.resolve_left hne
          have hcell : wr.cell? ⟨b0, off + k, none⟩ = some (B8 (D[k]'hkd)) := cell_below HR.out.2.1 hb0 (hcells k hkd)
          have hb0r : b0 < wr.heap.size := by have := HR.out.2.1.size; omega
          have hb0n : ¬ b0 = wr.heap.size := by omega
          have hgf : gapF D k = (D[k]'hkd).toNat % 4 := by unfold gapF; rw [dif_pos hkd]
          obtain ⟨d, hdd⟩ : ∃ d, d = D[k]'hkd := ⟨_, rfl⟩
          rw [← hdd] at hcell hgf
          have hd2 : decide (k < D.length) = true := by simp; omega
          obtain ⟨R, hR⟩ : ∃ R, R = d.toNat % 4 := ⟨_, rfl⟩
          have hmod : (d.toNat : Int) % 4 = (R : Int) := by omega
          have hmodT : ((d.toNat : Int)).tmod 4 = (R : Int) := by rw [Int.tmod_eq_emod_of_nonneg (by omega)]; exact hmod
          have hR4 : R < 4 := by omega
          rw [← hR] at hgf
          have HGF := Lib.hid hgf
          clear hgf hdd hcells hne hR
          have hR3 : R = 0 ∨ R = 1 ∨ R = 2 ∨ R = 3 := by omega
          clear hR4
          rcases hR3 with rfl | rfl | rfl | rfl
          · have HN := HNX.out ⟨#[32]⟩ (by rw [HGF.out]; rfl)
            go_wp2_with fail
            change Code.wp _ _ _ _ (wr.alloc (.cells #[.int .u8 K, .int .i64 P, .string T, .int .i64 NN] 33))
            rw [← HW2.out.1]
            go_region
            go_wp2_with fail
            go_roundw
            case rel => exact ⟨k + 1, _, by omega, by go_num, rfl, HN.out, (HBW.out.alloc HBW.out.size _).drew, (HOW.out.alloc _).drew⟩
            case measure => simp [intOf]; omega
          · have HN := HNX.out ⟨#[10]⟩ (by rw [HGF.out]; rfl)
            go_wp2_with fail
            change Code.wp _ _ _ _ (wr.alloc (.cells #[.int .u8 K, .int .i64 P, .string T, .int .i64 NN] 33))
            rw [← HW2.out.1]
            go_region
            go_wp2_with fail
            go_roundw
            case rel => exact ⟨k + 1, _, by omega, by go_num, rfl, HN.out, (HBW.out.alloc HBW.out.size _).drew, (HOW.out.alloc _).drew⟩
            case measure => simp [intOf]; omega
          · have HN := HNX.out ⟨#[9, 32, 13]⟩ (by rw [HGF.out]; rfl)
            go_wp2_with fail
            change Code.wp _ _ _ _ (wr.alloc (.cells #[.int .u8 K, .int .i64 P, .string T, .int .i64 NN] 33))
            rw [← HW2.out.1]
            go_region
            go_wp2_with fail
            go_roundw
            case rel => exact ⟨k + 1, _, by omega, by go_num, rfl, HN.out, (HBW.out.alloc HBW.out.size _).drew, (HOW.out.alloc _).drew⟩
            case measure => simp [intOf]; omega
          · have HN := HNX.out ⟨#[32, 35, 32, 97, 32, 98, 32, 48, 48, 32, 33, 10]⟩ (by rw [HGF.out]; rfl)
            go_wp2_with fail
            change Code.wp _ _ _ _ (wr.alloc (.cells #[.int .u8 K, .int .i64 P, .string T, .int .i64 NN] 33))
            rw [← HW2.out.1]
            go_region
            go_wp2_with fail
            go_roundw
            case rel => exact ⟨k + 1, _, by omega, by go_num, rfl, HN.out, (HBW.out.alloc HBW.out.size _).drew, (HOW.out.alloc _).drew⟩
            case measure => simp [intOf]; omega
        · have hgf : gapF D k = 0 := by unfold gapF; rw [dif_neg hkd]
          have hd2 : decide (k < D.length) = false := by simp; omega
          have HGF := Lib.hid hgf
          clear hgf
          have HN := HNX.out ⟨#[32]⟩ (by rw [HGF.out]; rfl)
          go_wp2_with fail
          change Code.wp _ _ _ _ (wr.alloc (.cells #[.int .u8 K, .int .i64 P, .string T, .int .i64 NN] 33))
          rw [← HW2.out.1]
          go_region
          go_wp2_with fail
          go_roundw
          case rel => exact ⟨k + 1, _, by omega, by go_num, rfl, HN.out, (HBW.out.alloc HBW.out.size _).drew, (HOW.out.alloc _).drew⟩
          case measure => simp [intOf]; omega
      · have hke : k = ts.length := by omega
        have hd : decide ((k : Int) < (ts.length : Int)) = false := by simp; omega
        have hYj : Bs Y = joinF (gapF D) 0 ts := by rw [HR.out.1, hke, List.take_length]
        by_cases hbig : 20000 < Y.size
        · have hd2 : decide ((20000 : Int) < (Y.size : Int)) = true := by simp; omega
          clear hYs hke hYj
          go_wp2_with fail
          go_ret
          exact ⟨rfl, HR.out.2.1⟩
        · have hd2 : decide ((20000 : Int) < (Y.size : Int)) = false := by simp; omega
          obtain ⟨ts', hsj, hmap⟩ := scan_join (gapF D) HSC.out (by rw [← hYj, bs_length]; omega)
          rw [← hYj] at hsj
          obtain ⟨hl', hkeys⟩ := key_at hmap
          obtain ⟨wo, rfl⟩ : ∃ wo : World, wo = wr := ⟨_, rfl⟩
          have HTA : Hid (Tabs wo.heap.size wo) := (HT.out.below HR.out.2.1).mono HR.out.2.1.size
          have HSC2 := Lib.hid (scan_any Y (by omega) wo HTA.out)
          have HK := Lib.hid (And.intro hsj (And.intro hl' hkeys))
          clear hYs hke hYj hsj hmap hl' hkeys
          go_wp2_with fail
          refine HSC2.out.mono ?_
          rintro e w4 ⟨hb4, hp4⟩
          rw [HK.out.1] at hp4
          obtain ⟨v5, rfl, ho5⟩ := hp4
          have hv5 : ∃ g5 cap5, v5 = .slice (some ⟨g5, 0, none⟩) ts.length cap5 := by
            rcases ho5.2 with ⟨_, h⟩ | ⟨g5, cap5, cur, h, _⟩
            · have h1 := (scan_some HSC.out)
              rw [HK.out.2.1] at h
              omega
            · exact ⟨g5, cap5, by rw [← HK.out.2.1]; exact h⟩
          obtain ⟨g5, cap5, rfl⟩ := hv5
          rw [HK.out.2.1] at ho5
          have HB4 := Lib.hid (HR.out.2.1.trans (hb4.mono HR.out.2.1.size))
          have HO4 := Lib.hid (And.intro (owns_below HR.out.2.2 hb4) ho5)
          clear hb4 ho5
          go_wp2_with fail
          go_loopw [80] (fun i wq => ∃ k : Nat, k ≤ ts.length ∧ i = .int .i64 k ∧ Below w.heap.size w wq ∧ wq.ownsRow w1.heap.size 33 4 (.slice (some ⟨g, 0, none⟩) ts.length cap1) ts.length (toksCells ts) ∧ wq.ownsRow wo.heap.size 33 4 (.slice (some ⟨g5, 0, none⟩) ts.length cap5) ts.length (toksCells ts')) (fun i _ => ts.length - (intOf i).toNat)
          case atStart => exact ⟨0, Nat.zero_le _, rfl, HB4.out, HO4.out.1, HO4.out.2⟩
          case round =>
            obtain ⟨k2, hk2, rfl, hb5, ho5, ho6⟩ := hrel
            by_cases hlt2 : k2 < ts.length
            · have hd5 : decide ((k2 : Int) < (ts.length : Int)) = true := by simp; omega
              have hlt3 : k2 < ts'.length := by rw [HK.out.2.1]; exact hlt2
              obtain ⟨p0, _, p2, p3⟩ := tok_at ho5 k2 hlt2
              rw [← HK.out.2.1] at ho6
              obtain ⟨q0, _, q2, q3⟩ := tok_at ho6 k2 hlt3
              rw [HK.out.2.1] at ho6
              obtain ⟨e1, e2, e3⟩ := HK.out.2.2 k2 hlt3 hlt2
              rw [e1] at q0
              rw [e2] at q2
              rw [e3] at q3
              obtain ⟨K, hKK⟩ : ∃ K : Int, K = ((ts[k2]).kind : Int) := ⟨_, rfl⟩
              obtain ⟨T, hTT⟩ : ∃ T : ByteArray, T = ⟨(ts[k2]).text.toArray⟩ := ⟨_, rfl⟩
              obtain ⟨NN, hNN⟩ : ∃ NN : Int, NN = ((ts[k2]).num : Int) := ⟨_, rfl⟩
              rw [← hKK] at p0 q0
              rw [← hTT] at p2 q2
              rw [← hNN] at p3 q3
              have c1 : (K != K) = false := by simp
              have c2 : (T.toList != T.toList) = false := by simp
              have c3 : (NN != NN) = false := by simp
              have c4 : (T.toList == T.toList) = true := by simp
              have HRR := Lib.hid (And.intro hb5 (And.intro ho5 ho6))
              clear hb5 ho5 ho6 e1 e2 e3 hKK hTT hNN
              go_wp2_with fail
              go_quiet (fail)
              have HB6 : Hid (Below w.heap.size w (wr.drewN nq)) := ⟨HRR.out.1.os, HRR.out.1.tape, HRR.out.1.output, HRR.out.1.size, HRR.out.1.block⟩
              go_wp2_with fail
              go_roundw
              case rel => exact ⟨k2 + 1, by omega, by go_num, HB6.out, HRR.out.2.1, HRR.out.2.2⟩
              case measure => simp [intOf]; omega
            · have hd5 : decide ((k2 : Int) < (ts.length : Int)) = false := by simp; omega
              go_wp2_with fail
              go_ret
              exact ⟨rfl, hb5⟩
end Go.Proofs.YtdglkfdacajalaaDoor
