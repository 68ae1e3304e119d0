/-
  The order of nodes: walked.
-/
import Derived.Test.YtgblpfahgpneoaaPtO
namespace Go.Proofs.Ytgblpfahgpneoaa
open Go Go.RowKit

namespace Po
theorem len_tot {R : Nat → List Nat} {f : Nat} : ∀ {n : Nat}, f < n → (R f).length ≤ tot R n
  | n + 1, h => by
    show _ ≤ tot R n + (R n).length
    by_cases e : f = n
    · subst e; omega
    · have := len_tot (R := R) (n := n) (f := f) (by omega); omega
theorem tot_nil : ∀ n, tot (fun _ => []) n = 0
  | 0 => rfl
  | n + 1 => by show tot _ n + 0 = 0; rw [tot_nil n]
theorem big {n : Nat} (h : n ≤ 60000) : n * (n + 3) + 2 * n ≤ 4000000000 := by
  have h1 : n * (n + 3) ≤ 60000 * 60003 := Nat.mul_le_mul h (by omega)
  omega
theorem mu_tot {n fw : Nat} {R : Nat → List Nat} {out : List Nat} : tot R n ≤ mu n R out fw := by unfold mu; omega
theorem mu_up {n fw : Nat} {R : Nat → List Nat} {out : List Nat} (h : fw < n) : mu n R out (fw + 1) < mu n R out fw := by unfold mu; omega
theorem mu_drop {n fw x : Nat} {R : Nat → List Nat} {out r : List Nat} (hf : fw < n) (he : R fw = r ++ [x]) : mu n (upd R fw r) out fw < mu n R out fw := by
  have hT := tot_upd (R := R) (r := r) hf
  rw [he, List.length_append, List.length_singleton] at hT
  unfold mu
  omega
theorem mu_go {n fw x L : Nat} {R R' : Nat → List Nat} {out : List Nat} (ho : out.length < n) (hf : fw < n) (hL : L < n) (h1 : 1 ≤ tot R n) (h2 : tot R' n ≤ tot R n - 1 + L) : mu n R' (out ++ [x]) (fw - 1) < mu n R out fw := by
  have h := mul_less (a := n - out.length) (K := n + 3) (by omega)
  unfold mu
  rw [List.length_append, List.length_singleton, ← h, show n - (out.length + 1) = n - out.length - 1 by omega]
  omega
end Po

set_option maxRecDepth 100000 in
set_option maxHeartbeats 3200000 in
theorem order_any {n : Nat} {nr : Nat → List Nat} {base : Nat} {nv : Value} (hn : n ≤ 60000) (hg : Po.Gr n nr) (w : World) (hbw : base ≤ w.heap.size) (h : Gz base nv n nr w) :
    Calls Try.prog 15 #[nv] w fun e w' => OrdR n w w' e := by
  obtain ⟨i0, p1, p2, p3, p4⟩ := info_parts infoI
  have HI := Lib.hid (And.intro p1 (And.intro p2 (And.intro p3 p4)))
  clear p1 p2 p3 p4
  obtain ⟨bn, hnv, hbn, hnr⟩ := h
  subst hnv
  have hnb : (n : Int) ≤ 60000 := by omega
  have hmi := mkIs n (by omega)
  have hmr := mkSn n (by omega)
  have HH := Lib.hid (And.intro hn (And.intro hg (And.intro hbw (And.intro hbn hnr))))
  clear hn hg hbw hbn hnr
  go_enter Try.func15, Try.ntmps15
  go_upto_region 3 with (fail)
  obtain ⟨W, hW⟩ : ∃ W, W = (w.alloc (.cells (Array.replicate n (I 0)) 3)).alloc (.cells (arrS (List.replicate n (.slice none 0 0))) 25) := ⟨_, rfl⟩
  obtain ⟨bl, hbl⟩ : ∃ b, b = w.heap.size := ⟨_, rfl⟩
  obtain ⟨bR, hbR⟩ : ∃ b, b = w.heap.size + 1 := ⟨_, rfl⟩
  have hb : Below w.heap.size w W := by rw [hW]; exact ((Below.refl _ _).alloc (Nat.le_refl _) _).alloc (by simp) _
  have HV0 : OrV w n bl bR (List.replicate n (.slice none 0 0)) (.slice none 0 0) (fun _ => 0) (fun _ => []) [] W := by
    refine ⟨?_, by simp, ?_, fun t ht => ?_, World.ownsRow_nil _ _ _ _, hb, ⟨by omega, by omega, by omega⟩, fun t ht => ?_, ⟨by simp [Value.ownBlock], by simp [Value.ownBlock]⟩, fun t u ht hu _ => ?_, fun t ht => ?_⟩
    · rw [hW, hbl, ← arrF_repl]; exact (Blk.new _ _ _).alloc _
    · rw [hW]; exact Blk.new' _ _ _ (by rw [hbR]; simp)
    · rw [List.getElem_replicate]; exact World.ownsRow_nil _ _ _ _
    · rw [List.getElem_replicate]; simp [Value.ownBlock]
    · left; rw [List.getElem_replicate]; rfl
    · left; rw [List.getElem_replicate]; rfl
  have HW := Lib.hid (And.intro hW (And.intro hbl hbR))
  change Code.wp _ _ _ _ ((w.alloc (.cells (Array.replicate n (I 0)) 3)).alloc (.cells (arrS (List.replicate n (.slice none 0 0))) 25))
  rw [← HW.out.1]
  try rw [← HW.out.2.2]
  try rw [← HW.out.2.1]
  have HS := Lib.hid (show Od1 w n nr bl bR (I 0) W from ⟨0, _, _, _, Nat.zero_le _, rfl, HV0, fun v hv => absurd hv (by omega), fun f hf x hx => absurd hx (by simp), by rw [Po.tot_nil]; exact Nat.le_refl _, fun f hf => Nat.le_refl _⟩)
  clear hW hbl hbR hb HV0 hmi hmr HW
  go_wp2_with fail
  go_loopw [21] (fun iv W => Od1 w n nr bl bR iv W) (fun iv _ => n - (intOf iv).toNat)
  case atStart => exact HS.out
  case round =>
    obtain ⟨i, vs, lf, R, hi, rfl, hV, hA, hE, hT, hT2⟩ := hrel
    by_cases hin : i < n
    · obtain ⟨u, cu, a, d, rfl, hrow⟩ := HH.out.2.2.2.2 i hin
      obtain ⟨L, hL⟩ : ∃ L, L = (nr i).length := ⟨_, rfl⟩
      rw [← hL] at cu
      have hLn : L < n := by rw [hL]; exact HH.out.2.1.len hin
      have c0 : wr.cell? ⟨bn, i, none⟩ = some (.slice a L d) := by
        have h1 := hV.b.block bn (by have := HH.out.2.2.1; have := HH.out.2.2.2.1; omega)
        unfold World.cell? at cu ⊢
        rw [h1]
        exact cu
      have z0 := hV.l.get i (I (lf i)) (arrF_get _ hin)
      have f0 := hV.l.free i
      have hLv : L < vs.length := by rw [hV.vl]; exact hLn
      obtain ⟨W1, hW1⟩ : ∃ W, W = wr.setCell ⟨bl, i, none⟩ (I (L : Int)) := ⟨_, rfl⟩
      have V1 := hV.setL i (L : Int)
      rw [← hW1] at V1
      obtain ⟨ra, rc, hvs⟩ := nums_row (V1.ro L hLv)
      obtain ⟨m, hm⟩ : ∃ m, m = (R L).length := ⟨_, rfl⟩
      rw [← hm] at hvs
      have hmb : m ≤ 60000 := by
        have h1 := hT2 L hLn
        have := HH.out.1
        omega
      have y0 : W1.cell? ⟨bR, L, none⟩ = some (.slice ra m rc) := by rw [← hvs]; exact V1.rb.get L _ (by simp [hLv])
      have hro : W1.ownsRow w.heap.size 3 1 (.slice ra m rc) m (ints (R L)) := by
        have h9 := V1.ro L hLv
        rw [hvs] at h9
        rw [hm]; rw [hm] at h9; exact h9
      have d0 : decide (i < n) = true := by simpa using hin
      have d1 : (0 : Int) ≤ (i : Int) := by omega
      have d2 : (i : Int) < (n : Int) := by omega
      have d3 : (0 : Int) ≤ (L : Int) := by omega
      have d4 : (L : Int) < (n : Int) := by omega
      have H1 := Lib.hid (And.intro V1 (And.intro hvs (And.intro hm (And.intro hro (And.intro hLv (And.intro hL (And.intro hA (And.intro hE (And.intro hT (And.intro hin (And.intro hLn hT2)))))))))))
      have HW1 := Lib.hid hW1
      clear hV hA hE hT hT2 hin hi hvs hm hro hL V1 hrow cu hW1 hLn
      go_upto_region 7 with (fail)
      change Code.wp _ _ _ _ (wr.setCell ⟨bl, i, none⟩ (I (L : Int)))
      rw [← HW1.out]
      clear z0 f0 c0
      go_wp2_with (first | (at_builtin; refine Hid.out ?_) | go_in)
      unfold Hid
      refine wpList_append_lies _ rfl (.tmp 38) (.tmp 40) 25 rfl w.heap.size 3 i0 (I 0) 1 8 Try.underlying25 HI.out.1 HI.out.2.1 HI.out.2.2.1 HI.out.2.2.2 rfl (by decide) (.slice ra m rc) m (ints (R L)) rfl (H1.out.2.2.2.1.alloc _) ⟨W1.heap.size, 0, none⟩ 1 1 [I (i : Int)] rfl rfl (World.news_of_block (heap_alloc_new W1 _)) (by simp [Value.oneCell']) (by decide) (by unfold maxLen; omega) (by omega) (by have h1 := H1.out.1.b.size; simp; omega) _ rfl ?_
      intro gg cg w9 hown9 hgr9 hat9 hlt9
      have V2 := H1.out.1.push (o := .cells #[I (i : Int)] 3) (u := .slice (some ⟨gg, 0, none⟩) (m + 1) cg) (x := i) H1.out.2.2.2.2.1 (by rw [H1.out.2.1]; exact hgr9) (by
        show World.ownsRow _ _ _ _ _ _ _
        rw [List.length_append, List.length_singleton, ← H1.out.2.2.1, show ints (R L ++ [i]) = ints (R L) ++ [I (i : Int)] by simp]
        exact hown9) (by
        rw [H1.out.2.1]
        rcases hat9 with e | e
        · left; rw [e]; rfl
        · right; rw [e]; rfl)
      have y1 : w9.cell? ⟨bR, L, none⟩ = some (.slice ra m rc) := by
        rw [← H1.out.2.1]
        exact ((H1.out.1.rb.alloc (.cells #[I (i : Int)] 3)).other hgr9 (by rw [← H1.out.2.1]; exact (H1.out.1.a2 L H1.out.2.2.2.2.1).2)).get L _ (by simp [H1.out.2.2.2.2.1])
      have f1 : w9.frozen? ⟨bR, L, none⟩ = false := ((H1.out.1.rb.alloc (.cells #[I (i : Int)] 3)).other hgr9 (by rw [← H1.out.2.1]; exact (H1.out.1.a2 L H1.out.2.2.2.2.1).2)).free L
      have HN := Lib.hid (show Od1 w n nr bl bR (I ((i : Int) + 1)) (w9.setCell ⟨bR, L, none⟩ (.slice (some ⟨gg, 0, none⟩) (m + 1) cg)) from ⟨i + 1, _, _, _, H1.out.2.2.2.2.2.2.2.2.2.1, rfl, V2, fun v hv => by
          have hL := H1.out.2.2.2.2.2.1
          by_cases e : v = i
          · subst e
            refine ⟨by rw [if_pos rfl, hL], ?_⟩
            unfold Po.upd
            rw [if_pos hL.symm]
            simp
          · obtain ⟨g1, g2⟩ := H1.out.2.2.2.2.2.2.1 v (by omega)
            refine ⟨by rw [if_neg e]; exact g1, ?_⟩
            unfold Po.upd
            split
            · next e2 => rw [← e2]; exact List.mem_append_left _ g2
            · exact g2, fun f hf x hx => by
          unfold Po.upd at hx
          split at hx
          · rcases List.mem_append.1 hx with g | g
            · exact H1.out.2.2.2.2.2.2.2.1 L H1.out.2.2.2.2.2.2.2.2.2.2.1 x g
            · rw [List.mem_singleton.1 g]; exact H1.out.2.2.2.2.2.2.2.2.2.1
          · exact H1.out.2.2.2.2.2.2.2.1 f hf x hx, by
          have hTT := Po.tot_upd (R := R) (r := R L ++ [i]) H1.out.2.2.2.2.2.2.2.2.2.2.1
          rw [List.length_append, List.length_singleton] at hTT
          have := H1.out.2.2.2.2.2.2.2.2.1
          omega, fun f hf => by
          unfold Po.upd
          split
          · rw [List.length_append, List.length_singleton]; have := H1.out.2.2.2.2.2.2.2.2.2.2.2 L H1.out.2.2.2.2.2.2.2.2.2.2.1; omega
          · have := H1.out.2.2.2.2.2.2.2.2.2.2.2 f hf; omega⟩)
      have HT := Lib.hid H1.out.2.2.2.2.2.2.2.2.2.1
      clear hown9 hgr9 hat9 hlt9 V2 y0
      go_wp2_with fail
      exact ⟨HN.out, by have := HT.out; simp [intOf]; omega⟩
    · have d0 : decide (i < n) = false := by simpa using hin
      obtain rfl : n = i := by omega
      have HS2 := Lib.hid (show Od2 w n nr bl bR (n * (n + 3) + 2 * n + 1) (.slice none 0 0) (I 0) wr from ⟨vs, lf, R, [], 0, rfl, hV, ⟨List.nodup_nil, fun v hv => absurd hv (by simp), fun v _ hv => absurd hv (by simp), fun v hv _ => by rw [Po.cnt_start]; exact (hA v hv).1, fun v hv _ => ⟨by rw [Po.cnt_start]; exact (hA v hv).2, Nat.zero_le _⟩, hE⟩, by
        unfold Po.mu
        rw [List.length_nil, Nat.sub_zero]
        omega, by
        unfold Po.mu
        rw [List.length_nil, Nat.sub_zero]
        omega⟩)
      clear hV hA hE hT hT2 hin hi
      go_wp2_with fail
      go_loopg [7, 8] (n * (n + 3) + 2 * n + 1) (fun gk ov fv W => Od2 w n nr bl bR gk ov fv W)
      case atStart => exact HS2.out
      case round =>
        obtain ⟨vs, lf, R, out, fw, rfl, hV, hI, hmu, hMu⟩ := hrel
        obtain ⟨qk, rfl⟩ : ∃ q, gk = q + 1 := ⟨gk - 1, by omega⟩
        have hbig := Po.big HH.out.1
        have htb : Po.tot R n ≤ 4000000000 := by have := Po.mu_tot (R := R) (n := n) (out := out) (fw := fw); omega
        have hol : out.length ≤ n := Po.nodup_len hI.nd hI.ol
        obtain ⟨oa, oc, hov⟩ := nums_row hV.o
        obtain ⟨o, ho⟩ : ∃ o, o = out.length := ⟨_, rfl⟩
        rw [← ho] at hov hol
        by_cases hlt : o < n
        · have hfw := hI.few HH.out.2.1 (by omega)
          have hfv : fw < vs.length := by rw [hV.vl]; exact hfw
          obtain ⟨ra, rc, hvs⟩ := nums_row (hV.ro fw hfv)
          have y0 : wr.cell? ⟨bR, fw, none⟩ = some vs[fw] := hV.rb.get fw _ (by simp [hfv])
          have d0 : decide (o < n) = true := by simpa using hlt
          have d1 : (0 : Int) ≤ (fw : Int) := by omega
          have d2 : (fw : Int) < (n : Int) := by omega
          rcases nil_or_app (R fw) with hR | ⟨r, x, hR⟩
          · rw [hvs, hR, List.length_nil] at y0
            have HN := Lib.hid (show Od2 w n nr bl bR qk u7 (I ((fw : Int) + 1)) wr from ⟨vs, lf, R, out, fw + 1, rfl, hV, hI.up hR, by have := Po.mu_up (R := R) (out := out) hfw; omega, by have := Po.mu_up (R := R) (out := out) hfw; omega⟩)
            clear hV hI hmu hMu hbig htb hol hlt hfw hvs hR ho
            subst hov
            go_wp2_with fail
            go_roundg qk
            case rel => exact HN.out
            case measure => omega
          · obtain ⟨m, hm⟩ : ∃ m, m = r.length := ⟨_, rfl⟩
            have hl1 : (R fw).length = m + 1 := by rw [hR, List.length_append, List.length_singleton, hm]
            rw [hl1] at hvs
            obtain ⟨g, rfl⟩ : ∃ g, ra = some ⟨g, 0, none⟩ := by
              rcases own_slice (hV.ro fw hfv) with ⟨_, e2⟩ | ⟨g, cap, e⟩
              · omega
              · rw [hvs, hl1] at e; cases e; exact ⟨g, rfl⟩
            rw [hvs] at y0
            have hro : wr.ownsRow w.heap.size 3 1 (.slice (some ⟨g, 0, none⟩) (m + 1) rc) (m + 1) (ints (R fw)) := by
              have h9 := hV.ro fw hfv
              unfold Nums at h9
              rw [hvs, hl1] at h9
              exact h9
            have c0 : wr.cell? ⟨g, m, none⟩ = some (I (x : Int)) := by
              rw [nums_get hro hl1 m (by omega), hR, List.getD_eq_getElem?_getD, List.getElem?_append_right (by omega), hm]
              simp
            have hcap : m + 1 ≤ rc := by
              rcases hro.2 with ⟨h, _⟩ | ⟨g', cap', cur, hv, _, _, h1, _⟩
              · cases h
              · cases hv; exact h1
            have hxn : x < n := hI.re fw hfw x (by rw [hR]; simp)
            have hmb : m ≤ 4000000000 := by have := Po.len_tot (R := R) hfw; omega
            have f0 := hV.rb.free fw
            have V1 := hV.pop hfv hvs hR hm.symm
            obtain ⟨W1, hW1⟩ : ∃ W, W = wr.setCell ⟨bR, fw, none⟩ (.slice (some ⟨g, 0, none⟩) m rc) := ⟨_, rfl⟩
            rw [← hW1] at V1
            obtain ⟨lx, hlx⟩ : ∃ z, z = lf x := ⟨_, rfl⟩
            have z1 := V1.l.get x (I lx) (by rw [arrF_get _ hxn, hlx])
            have f1 := V1.l.free x
            have hT1 : 1 ≤ Po.tot R n := by have := Po.len_tot (R := R) hfw; omega
            have H1 := Lib.hid (And.intro V1 (And.intro hI (And.intro hR (And.intro hlx (And.intro hxn (And.intro hfw (And.intro hT1 (And.intro hmu (And.intro hMu (And.intro hlt ho))))))))))
            have HW1 := Lib.hid hW1
            have e1 : (0 : Int) ≤ (m : Int) := by omega
            have e2 : (m : Int) ≤ 4000000000 := by omega
            have e3 : (m : Int) ≤ (rc : Int) := by omega
            have e5 : (0 : Int) ≤ (x : Int) := by omega
            have e6 : (x : Int) < (n : Int) := by omega
            clear hV hI hmu hMu hbig htb hlt hfw hvs hR ho hm hl1 hro hcap hxn hmb V1 hW1 hlx hT1
            have HOV := Lib.hid hov
            subst hov
            go_upto_region 17 with (fail)
            change Code.wp _ _ _ _ (wr.setCell ⟨bR, fw, none⟩ (.slice (some ⟨g, 0, none⟩) m rc))
            rw [← HW1.out]
            clear y0 c0 f0
            by_cases hst : lx = (fw : Int)
            · subst hst
              have V2 := H1.out.1.setL x (-1)
              have hxo : x ∉ out := fun hc => by
                have h1 := H1.out.2.1.go x H1.out.2.2.2.2.1 hc
                have := H1.out.2.2.2.1
                omega
              obtain ⟨W2, hW2⟩ : ∃ W, W = W1.setCell ⟨bl, x, none⟩ (I (-1)) := ⟨_, rfl⟩
              rw [← hW2] at V2
              have hoo : W2.ownsRow w.heap.size 3 1 (.slice oa o oc) o (ints out) := by
                have h9 := V2.o
                unfold Nums at h9
                rw [← H1.out.2.2.2.2.2.2.2.2.2.2] at h9
                exact h9
              have H2 := Lib.hid (And.intro V2 (And.intro hoo hxo))
              have HW2 := Lib.hid hW2
              clear V2 hoo hxo hW2
              go_upto_region 19 with (fail)
              change Code.wp _ _ _ _ (W1.setCell ⟨bl, x, none⟩ (I (-1)))
              rw [← HW2.out]
              clear z1 f1
              go_wp2_with (first | (at_builtin; refine Hid.out ?_) | go_in)
              unfold Hid
              refine wpList_append_lies _ rfl (.tmp 81) (.tmp 83) 25 rfl w.heap.size 3 i0 (I 0) 1 8 Try.underlying25 HI.out.1 HI.out.2.1 HI.out.2.2.1 HI.out.2.2.2 rfl (by decide) (.slice oa o oc) o (ints out) rfl (H2.out.2.1.alloc _) ⟨W2.heap.size, 0, none⟩ 1 1 [I (x : Int)] rfl rfl (World.news_of_block (heap_alloc_new W2 _)) (by simp [Value.oneCell']) (by decide) (by unfold maxLen; omega) (by omega) (by have h1 := H2.out.1.b.size; simp; omega) _ rfl ?_
              intro g3 c3 w3 ho3 hg3 hat3 hlt3
              have V3 := H2.out.1.put (o := .cells #[I (x : Int)] 3) (u := .slice (some ⟨g3, 0, none⟩) (o + 1) c3) (x := x) hg3 (by
                show World.ownsRow _ _ _ _ _ _ _
                rw [List.length_append, List.length_singleton, ← H1.out.2.2.2.2.2.2.2.2.2.2, show ints (out ++ [x]) = ints out ++ [I (x : Int)] by simp]
                exact ho3) (by
                rcases hat3 with e | e
                · left; rw [e]; rfl
                · right; rw [e]; rfl)
              obtain ⟨u, cu, a, d, rfl, hrow⟩ := HH.out.2.2.2.2 x H1.out.2.2.2.2.1
              obtain ⟨L, hL⟩ : ∃ L, L = (nr x).length := ⟨_, rfl⟩
              rw [← hL] at cu
              have hLn : L < n := by rw [hL]; exact HH.out.2.1.len H1.out.2.2.2.2.1
              have c0 : w3.cell? ⟨bn, x, none⟩ = some (.slice a L d) := by
                have h1 := V3.b.block bn (by have := HH.out.2.2.1; have := HH.out.2.2.2.1; omega)
                unfold World.cell? at cu ⊢
                rw [h1]
                exact cu
              have HS3 := Lib.hid (show Od3 w n nr bl bR (.slice (some ⟨g3, 0, none⟩) (o + 1) c3) lf out x (Po.tot R n - 1) (I 0) w3 from ⟨0, _, _, _, Nat.zero_le _, rfl, V3, H1.out.2.1.mid H1.out.2.2.2.2.2.1 H1.out.2.2.1⟩)
              have H3 := Lib.hid (And.intro hrow (And.intro hL hLn))
              have dL : (L : Int) < (n : Int) := by omega
              clear V3 hrow hL cu hLn ho3 hg3 hat3 hlt3
              go_wp2_with fail
              go_loopw [90] (fun jv W => Od3 w n nr bl bR (.slice (some ⟨g3, 0, none⟩) (o + 1) c3) lf out x (Po.tot R n - 1) jv W) (fun jv _ => L - (intOf jv).toNat)
              case atStart => exact HS3.out
              case round =>
                obtain ⟨j, vs2, lf2, R2, hj, rfl, hV, hM⟩ := hrel
                by_cases hjl : j < L
                · have hjr : j < (nr x).length := by rw [← H3.out.2.1]; exact hjl
                  obtain ⟨gx, rfl, hgx, cx⟩ := H3.out.1 j hjr
                  obtain ⟨y, hy⟩ : ∃ y, y = (nr x)[j] := ⟨_, rfl⟩
                  rw [← hy] at cx
                  have hyn : y < n := by rw [hy]; exact HH.out.2.1.lt x H1.out.2.2.2.2.1 _ (List.getElem_mem _)
                  have cy : wr.cell? ⟨gx, j, none⟩ = some (I (y : Int)) := by
                    have h1 := hV.b.block gx (by have := HH.out.2.2.1; omega)
                    unfold World.cell? at cx ⊢
                    rw [h1]
                    exact cx
                  obtain ⟨ly, hly⟩ : ∃ z, z = lf2 y := ⟨_, rfl⟩
                  have z2 := hV.l.get y (I ly) (by rw [arrF_get _ hyn, hly])
                  have f2 := hV.l.free y
                  have d3 : decide (j < L) = true := by simpa using hjl
                  have d4 : (0 : Int) ≤ (j : Int) := by omega
                  have d5 : (j : Int) < (L : Int) := by omega
                  have d6 : (0 : Int) ≤ (y : Int) := by omega
                  have d7 : (y : Int) < (n : Int) := by omega
                  have HT := Lib.hid hjl
                  by_cases hg1 : ly = -1
                  · subst hg1
                    have HN := Lib.hid (show Od3 w n nr bl bR (.slice (some ⟨g3, 0, none⟩) (o + 1) c3) lf out x (Po.tot R n - 1) (I ((j : Int) + 1)) wr from ⟨j + 1, vs2, lf2, R2, hjr, rfl, hV, hM.skip HH.out.2.1 H1.out.2.1 H1.out.2.2.2.2.1 hjr (by rw [← hy]; exact hly.symm)⟩)
                    clear hV hM hjl hj hy hyn cx hgx hly
                    go_wp2_with fail
                    exact ⟨HN.out, by have := HT.out; simp [intOf]; omega⟩
                  · have hat := hM.at HH.out.2.1 H1.out.2.1 H1.out.2.2.2.2.1 H2.out.2.2 hjr (by rw [← hy, ← hly]; exact hg1)
                    rw [← hy] at hat
                    obtain ⟨c, hc⟩ : ∃ c, Po.cnt nr out y = c + 1 := ⟨Po.cnt nr out y - 1, by omega⟩
                    have hlc : ly = (c : Int) + 1 := by rw [hly, hat.2.1, hc]; omega
                    have hcn : c < n := by omega
                    subst hlc
                    have g1 : (((c : Int) + 1) == (-1 : Int)) = false := by simp; omega
                    have hM2 := hM.step (c := c) HH.out.2.1 H1.out.2.1 H1.out.2.2.2.2.1 H2.out.2.2 hjr (by rw [← hy, ← hly]; omega) (by rw [← hy]; exact hly.symm)
                    rw [← hy] at hM2
                    have V4 := hV.setL y (c : Int)
                    obtain ⟨W4, hW4⟩ : ∃ W, W = wr.setCell ⟨bl, y, none⟩ (I (c : Int)) := ⟨_, rfl⟩
                    rw [← hW4] at V4
                    have hcv : c < vs2.length := by rw [hV.vl]; exact hcn
                    obtain ⟨ra, rk, hvs⟩ := nums_row (V4.ro c hcv)
                    obtain ⟨q, hq⟩ : ∃ q, q = (R2 c).length := ⟨_, rfl⟩
                    rw [← hq] at hvs
                    have hqb : q ≤ 4000060000 := by
                      have h1 := Po.len_tot (R := R2) hcn
                      have h2 := hM.tt
                      have h3 := Po.mu_tot (R := R) (n := n) (out := out) (fw := fw)
                      have h4 := H1.out.2.2.2.2.2.2.2.2.1
                      have h5 := Po.big HH.out.1
                      have h6 := HH.out.1
                      have h7 := H3.out.2.2
                      omega
                    have hro : W4.drew.ownsRow w.heap.size 3 1 (.slice ra q rk) q (ints (R2 c)) := by
                      have h9 := V4.drew.ro c hcv
                      unfold Nums at h9
                      rw [hvs, ← hq] at h9
                      exact h9
                    have y4 : W4.drew.cell? ⟨bR, c, none⟩ = some (.slice ra q rk) := by rw [← hvs]; exact V4.drew.rb.get c _ (by simp [hcv])
                    have y5 : W4.drew.cell? ⟨bl, y, none⟩ = some (I (c : Int)) := V4.drew.l.get y _ (by rw [arrF_get _ hyn, if_pos rfl])
                    have H4 := Lib.hid (And.intro V4.drew (And.intro hM2 (And.intro hvs (And.intro hq (And.intro hro (And.intro hcv (And.intro hjr hyn)))))))
                    have HW4 := Lib.hid hW4
                    have d8 : (0 : Int) ≤ (c : Int) := by omega
                    have d9 : (c : Int) < (n : Int) := by omega
                    clear hV hM hjl hj hy hyn cx hgx hly hat hc hcn hM2 V4 hW4 hvs hq hro hg1
                    go_upto_region 25 with (fail)
                    change Code.wp _ _ _ _ (wr.setCell ⟨bl, y, none⟩ (I (c : Int)))
                    rw [← HW4.out]
                    clear z2 f2 cy
                    have hS : (fun w' : World => w'.cell? ⟨bl, y, none⟩ = some (I (c : Int))) W4.drew := y5
                    refine wp_region_dep (S := fun w' : World => w'.cell? ⟨bl, y, none⟩ = some (I (c : Int))) (dep := []) (by kernel_rfl) ?_
                    change wpAnyD _ _ _ _ _ _ _ _ _ (World.drew _)
                    refine wpAnyD_take (i := 0) (v := ?_) rfl (by kernel_rfl) (by kernel_rfl) (by kernel_rfl) (by kernel_rfl) (by kernel_rfl) (fun _ _ _ h => h) hS (Or.inl ⟨by rfl, ?_⟩) ?_
                    rotate_left
                    · intro w hSw; go_simp
                      try with_reducible rfl
                    try simp only [Act.put, List.setIfInBounds_toArray]
                    refine wpAnyD_take (i := 1) (v := ?_) rfl (by kernel_rfl) (by kernel_rfl) (by kernel_rfl) (by kernel_rfl) (by kernel_rfl) (fun _ _ _ h => h) hS (Or.inl ⟨by rfl, ?_⟩) ?_
                    rotate_left
                    · intro w hSw; go_simp
                      try with_reducible rfl
                    try simp only [Act.put]
                    refine wpAnyD_take (i := 2) (v := ?_) rfl (by kernel_rfl) (by kernel_rfl) (by kernel_rfl) (by kernel_rfl) (by kernel_rfl) (fun _ _ _ h => h) hS (Or.inl ⟨by rfl, ?_⟩) ?_
                    rotate_left
                    · intro w hSw; go_simp
                      try with_reducible rfl
                    try simp only [Act.put]
                    refine wpAnyD_take (i := 3) (v := ?_) rfl (by kernel_rfl) (by kernel_rfl) (by kernel_rfl) (by kernel_rfl) (by kernel_rfl) (fun _ _ _ h => h) hS (Or.inl ⟨by rfl, ?_⟩) ?_
                    rotate_left
                    · intro w hSw; go_simp
                      try with_reducible rfl
                    try simp only [Act.put]
                    refine wpAnyD_take (i := 4) (v := ?_) rfl (by kernel_rfl) (by kernel_rfl) (by kernel_rfl) (by kernel_rfl) (by kernel_rfl) (fun _ _ _ h => h) hS (Or.inl ⟨by rfl, ?_⟩) ?_
                    rotate_left
                    · intro w hSw; go_simp
                      try with_reducible rfl
                    try simp only [Act.put]
                    refine wpAnyD_take (i := 5) (v := ?_) rfl (by kernel_rfl) (by kernel_rfl) (by kernel_rfl) (by kernel_rfl) (by kernel_rfl) (fun _ _ _ h => h) hS (Or.inl ⟨by rfl, ?_⟩) ?_
                    rotate_left
                    · intro w hSw; go_simp
                      try with_reducible rfl
                    try simp only [Act.put]
                    refine wpAnyD_take (i := 6) (v := ?_) rfl (by kernel_rfl) (by kernel_rfl) (by kernel_rfl) (by kernel_rfl) (by kernel_rfl) (fun _ _ _ h => h) hS (Or.inl ⟨by rfl, ?_⟩) ?_
                    rotate_left
                    · intro w hSw; go_simp
                      try with_reducible rfl
                    try simp only [Act.put]
                    refine wpAnyD_take (i := 7) (v := ?_) rfl (by kernel_rfl) (by kernel_rfl) (by kernel_rfl) (by kernel_rfl) (by kernel_rfl) (fun _ _ _ h => h) hS (Or.inl ⟨by rfl, ?_⟩) ?_
                    rotate_left
                    · intro w hSw; go_simp
                      try with_reducible rfl
                    try simp only [Act.put]
                    refine wpAnyD_take (i := 8) (v := ?_) rfl (by kernel_rfl) (by kernel_rfl) (by kernel_rfl) (by kernel_rfl) (by kernel_rfl) (fun _ _ _ h => h) hS (Or.inl ⟨by rfl, ?_⟩) ?_
                    rotate_left
                    · intro w hSw; go_simp
                      try with_reducible rfl
                    try simp only [Act.put]
                    refine wpAnyD_take (i := 9) (v := ?_) rfl (by kernel_rfl) (by kernel_rfl) (by kernel_rfl) (by kernel_rfl) (by kernel_rfl) (fun _ _ _ h => h) hS (Or.inl ⟨by rfl, ?_⟩) ?_
                    rotate_left
                    · intro w hSw; go_simp
                      try with_reducible rfl
                    try simp only [Act.put]
                    refine wpAnyD_take (i := 10) (v := ?_) rfl (by kernel_rfl) (by kernel_rfl) (by kernel_rfl) (by kernel_rfl) (by kernel_rfl) (fun _ _ _ h => h) hS (Or.inl ⟨by rfl, ?_⟩) ?_
                    rotate_left
                    · intro w hSw; go_simp
                      try with_reducible rfl
                    try simp only [Act.put]
                    refine wpAnyD_take (i := 12) (v := ?_) rfl (by kernel_rfl) (by kernel_rfl) (by kernel_rfl) (by kernel_rfl) (by kernel_rfl) (fun _ _ _ h => h) hS (Or.inl ⟨by rfl, ?_⟩) ?_
                    rotate_left
                    · intro w hSw; go_simp
                      try with_reducible rfl
                    try simp only [Act.put]
                    have hS13 : (fun w' : World => w'.cell? ⟨bl, y, none⟩ = some (I (c : Int))) (W4.drew.alloc (.cells #[I (y : Int)] 3)) := (H4.out.1.l.alloc _).get y _ (by rw [arrF_get _ H4.out.2.2.2.2.2.2.2, if_pos rfl])
                    have y8 : (W4.drew.alloc (.cells #[I (y : Int)] 3)).cell? ⟨bR, c, none⟩ = some (.slice ra q rk) := by rw [← H4.out.2.2.1]; exact (H4.out.1.rb.alloc _).get c _ (by simp [H4.out.2.2.2.2.2.1])
                    have y8a : (W4.alloc (.cells #[I (y : Int)] 3)).drew.cell? ⟨bR, c, none⟩ = some (.slice ra q rk) := y8
                    have y8b : (W4.alloc (.cells #[I (y : Int)] 3)).cell? ⟨bR, c, none⟩ = some (.slice ra q rk) := y8
                    have HSb := Lib.hid (And.intro hS (And.intro hS13 y8))
                    clear hS hS13
                    refine wpAnyD_two (i := 11) (j := 13) rfl rfl (by kernel_rfl) rfl rfl (fun K hK => ?_) (fun K hK => ?_)
                    · go_simp
                      refine hK _ _ (Or.inr HSb.out.1) ?_
                      clear hK K
                      try simp only [Act.put, List.setIfInBounds_toArray, List.set_cons_zero, List.set_cons_succ]
                      clear y4 y8 y8a y8b
                      refine wpAnyD_one (i := 13) rfl (by kernel_rfl) rfl (fun K hK => ?_)
                      go_simp
                      refine hK _ _ (Or.inr HSb.out.2.1) ?_
                      clear hK K
                      try simp only [Act.put, List.setIfInBounds_toArray, List.set_cons_zero, List.set_cons_succ]
                      refine wpAnyD_one (i := 14) rfl (by kernel_rfl) rfl (fun K hK => ?_)
                      refine wp_append_lies _ (.tmp 116) (.tmp 118) 25 rfl w.heap.size 3 i0 (I 0) 1 8 Try.underlying25 HI.out.1 HI.out.2.1 HI.out.2.2.1 HI.out.2.2.2 rfl (by decide) (.slice ra q rk) q (ints (R2 c)) rfl (H4.out.2.2.2.2.1.alloc _) ⟨W4.heap.size, 0, none⟩ 1 1 [I (y : Int)] rfl rfl (World.news_of_block (heap_alloc_new W4.drew _)) (by simp [Value.oneCell']) (by decide) (by unfold maxLen; omega) (by omega) (by have h1 : w.heap.size ≤ W4.heap.size := H4.out.1.b.size; simp; omega) _ rfl ?_
                      intro g4 c4 w4 ho4 hg4 hat4 hlt4
                      have V5 := H4.out.1.push (o := .cells #[I (y : Int)] 3) (u := .slice (some ⟨g4, 0, none⟩) (q + 1) c4) (x := y) H4.out.2.2.2.2.2.1 (by rw [H4.out.2.2.1]; exact hg4) (by
                        show World.ownsRow _ _ _ _ _ _ _
                        rw [List.length_append, List.length_singleton, ← H4.out.2.2.2.1, show ints (R2 c ++ [y]) = ints (R2 c) ++ [I (y : Int)] by simp]
                        exact ho4) (by
                        rw [H4.out.2.2.1]
                        rcases hat4 with e | e
                        · left; rw [e]; rfl
                        · right; rw [e]; rfl)
                      have B1 := (H4.out.1.rb.alloc (.cells #[I (y : Int)] 3)).other hg4 (by rw [← H4.out.2.2.1]; exact (H4.out.1.a2 c H4.out.2.2.2.2.2.1).2)
                      have B2 := (H4.out.1.l.alloc (.cells #[I (y : Int)] 3)).other hg4 (by rw [← H4.out.2.2.1]; exact (H4.out.1.a2 c H4.out.2.2.2.2.2.1).1)
                      have y6 : w4.cell? ⟨bR, c, none⟩ = some (.slice ra q rk) := by rw [← H4.out.2.2.1]; exact B1.get c _ (by simp [H4.out.2.2.2.2.2.1])
                      have y7 : w4.cell? ⟨bl, y, none⟩ = some (I (c : Int)) := B2.get y _ (by rw [arrF_get _ H4.out.2.2.2.2.2.2.2, if_pos rfl])
                      have y9 : (w4.setCell ⟨bR, c, none⟩ (.slice (some ⟨g4, 0, none⟩) (q + 1) c4)).cell? ⟨bl, y, none⟩ = some (I (c : Int)) := V5.l.get y _ (by rw [arrF_get _ H4.out.2.2.2.2.2.2.2, if_pos rfl])
                      have f6 := B1.free c
                      have HN := Lib.hid (show Od3 w n nr bl bR (.slice (some ⟨g3, 0, none⟩) (o + 1) c3) lf out x (Po.tot R n - 1) (I ((j : Int) + 1)) (w4.setCell ⟨bR, c, none⟩ (.slice (some ⟨g4, 0, none⟩) (q + 1) c4)) from ⟨j + 1, _, _, _, H4.out.2.2.2.2.2.2.1, rfl, V5, H4.out.2.1⟩)
                      clear B1 B2 V5 ho4 hg4 hat4 hlt4
                      refine hK _ _ (Or.inr y7) ?_
                      clear hK K
                      try simp only [Act.put, List.setIfInBounds_toArray]
                      refine wpAnyD_one (i := 15) rfl (by kernel_rfl) rfl (fun K hK => ?_)
                      go_simp
                      refine hK _ _ (Or.inr y7) ?_
                      clear hK K
                      try simp only [Act.put, List.setIfInBounds_toArray, List.set_cons_zero, List.set_cons_succ]
                      have HY := Lib.hid y9
                      clear y9
                      refine wpAnyD_one (i := 16) rfl (by kernel_rfl) rfl (fun K hK => ?_)
                      go_simp
                      refine hK _ _ (Or.inr HY.out) ?_
                      clear hK K
                      try simp only [Act.put, List.setIfInBounds_toArray, List.set_cons_zero, List.set_cons_succ]
                      refine wpAnyD_done (by kernel_rfl) ?_ _
                      clear y6 y7 f6
                      go_wp2_with fail
                      exact ⟨HN.out, by have := HT.out; simp [intOf]; omega⟩
                    · go_simp
                      refine hK _ _ (Or.inr HSb.out.2.1) ?_
                      clear hK K
                      try simp only [Act.put, List.setIfInBounds_toArray, List.set_cons_zero, List.set_cons_succ]
                      refine wpAnyD_one (i := 11) rfl (by kernel_rfl) rfl (fun K hK => ?_)
                      go_simp
                      refine hK _ _ (Or.inr HSb.out.2.1) ?_
                      clear hK K y4 y8 y8a y8b
                      try simp only [Act.put, List.setIfInBounds_toArray, List.set_cons_zero, List.set_cons_succ]
                      refine wpAnyD_one (i := 14) rfl (by kernel_rfl) rfl (fun K hK => ?_)
                      refine wp_append_lies _ (.tmp 116) (.tmp 118) 25 rfl w.heap.size 3 i0 (I 0) 1 8 Try.underlying25 HI.out.1 HI.out.2.1 HI.out.2.2.1 HI.out.2.2.2 rfl (by decide) (.slice ra q rk) q (ints (R2 c)) rfl (H4.out.2.2.2.2.1.alloc _) ⟨W4.heap.size, 0, none⟩ 1 1 [I (y : Int)] rfl rfl (World.news_of_block (heap_alloc_new W4.drew _)) (by simp [Value.oneCell']) (by decide) (by unfold maxLen; omega) (by omega) (by have h1 : w.heap.size ≤ W4.heap.size := H4.out.1.b.size; simp; omega) _ rfl ?_
                      intro g4 c4 w4 ho4 hg4 hat4 hlt4
                      have V5 := H4.out.1.push (o := .cells #[I (y : Int)] 3) (u := .slice (some ⟨g4, 0, none⟩) (q + 1) c4) (x := y) H4.out.2.2.2.2.2.1 (by rw [H4.out.2.2.1]; exact hg4) (by
                        show World.ownsRow _ _ _ _ _ _ _
                        rw [List.length_append, List.length_singleton, ← H4.out.2.2.2.1, show ints (R2 c ++ [y]) = ints (R2 c) ++ [I (y : Int)] by simp]
                        exact ho4) (by
                        rw [H4.out.2.2.1]
                        rcases hat4 with e | e
                        · left; rw [e]; rfl
                        · right; rw [e]; rfl)
                      have B1 := (H4.out.1.rb.alloc (.cells #[I (y : Int)] 3)).other hg4 (by rw [← H4.out.2.2.1]; exact (H4.out.1.a2 c H4.out.2.2.2.2.2.1).2)
                      have B2 := (H4.out.1.l.alloc (.cells #[I (y : Int)] 3)).other hg4 (by rw [← H4.out.2.2.1]; exact (H4.out.1.a2 c H4.out.2.2.2.2.2.1).1)
                      have y6 : w4.cell? ⟨bR, c, none⟩ = some (.slice ra q rk) := by rw [← H4.out.2.2.1]; exact B1.get c _ (by simp [H4.out.2.2.2.2.2.1])
                      have y7 : w4.cell? ⟨bl, y, none⟩ = some (I (c : Int)) := B2.get y _ (by rw [arrF_get _ H4.out.2.2.2.2.2.2.2, if_pos rfl])
                      have y9 : (w4.setCell ⟨bR, c, none⟩ (.slice (some ⟨g4, 0, none⟩) (q + 1) c4)).cell? ⟨bl, y, none⟩ = some (I (c : Int)) := V5.l.get y _ (by rw [arrF_get _ H4.out.2.2.2.2.2.2.2, if_pos rfl])
                      have f6 := B1.free c
                      have HN := Lib.hid (show Od3 w n nr bl bR (.slice (some ⟨g3, 0, none⟩) (o + 1) c3) lf out x (Po.tot R n - 1) (I ((j : Int) + 1)) (w4.setCell ⟨bR, c, none⟩ (.slice (some ⟨g4, 0, none⟩) (q + 1) c4)) from ⟨j + 1, _, _, _, H4.out.2.2.2.2.2.2.1, rfl, V5, H4.out.2.1⟩)
                      clear B1 B2 V5 ho4 hg4 hat4 hlt4
                      refine hK _ _ (Or.inr y7) ?_
                      clear hK K
                      try simp only [Act.put, List.setIfInBounds_toArray]
                      refine wpAnyD_one (i := 15) rfl (by kernel_rfl) rfl (fun K hK => ?_)
                      go_simp
                      refine hK _ _ (Or.inr y7) ?_
                      clear hK K
                      try simp only [Act.put, List.setIfInBounds_toArray, List.set_cons_zero, List.set_cons_succ]
                      have HY := Lib.hid y9
                      clear y9
                      refine wpAnyD_one (i := 16) rfl (by kernel_rfl) rfl (fun K hK => ?_)
                      go_simp
                      refine hK _ _ (Or.inr HY.out) ?_
                      clear hK K
                      try simp only [Act.put, List.setIfInBounds_toArray, List.set_cons_zero, List.set_cons_succ]
                      refine wpAnyD_done (by kernel_rfl) ?_ _
                      clear y6 y7 f6
                      go_wp2_with fail
                      exact ⟨HN.out, by have := HT.out; simp [intOf]; omega⟩
                · obtain rfl : (nr x).length = j := by have := H3.out.2.1; omega
                  have d3 : decide ((nr x).length < L) = false := by simpa using hjl
                  have hI2 := hM.done HH.out.2.1 H1.out.2.1 H1.out.2.2.2.2.1 H2.out.2.2
                  have hT2 := hM.tt
                  have hol : out.length < n := by have := H1.out.2.2.2.2.2.2.2.2.2.1; have := H1.out.2.2.2.2.2.2.2.2.2.2; omega
                  have hgo := Po.mu_go (R := R) (R' := R2) (out := out) (x := x) (fw := fw) (L := (nr x).length) hol H1.out.2.2.2.2.2.1 (by have := H3.out.2; omega) H1.out.2.2.2.2.2.2.1 hT2
                  have HN := Lib.hid (show Od2 w n nr bl bR qk (.slice (some ⟨g3, 0, none⟩) (o + 1) c3) (I ((fw - 1 : Nat) : Int)) wr from ⟨vs2, lf2, R2, out ++ [x], fw - 1, rfl, hV, hI2, by have := H1.out.2.2.2.2.2.2.2.1; omega, by have := H1.out.2.2.2.2.2.2.2.2.1; omega⟩)
                  clear hV hM hjl hj hI2 hT2 hol hgo
                  obtain rfl | ⟨f, rfl⟩ : fw = 0 ∨ ∃ f, fw = f + 1 := by
                    rcases fw with _ | f
                    · exact Or.inl rfl
                    · exact Or.inr ⟨f, rfl⟩
                  · go_wp2_with fail
                    go_roundg qk
                    case rel => exact HN.out
                    case measure => omega
                  · go_wp2_with fail
                    all_goals
                      go_roundg qk
                      case rel => first
                        | exact HN.out
                        | exact (show (f : Int) = 0 by omega) ▸ HN.out
                      case measure => omega
            · have HN := Lib.hid (show Od2 w n nr bl bR qk (.slice oa o oc) (I (fw : Int)) W1 from ⟨_, lf, _, out, fw, rfl, HOV.out ▸ H1.out.1, H1.out.2.1.drop H1.out.2.2.2.2.2.1 H1.out.2.2.1 (by rw [← H1.out.2.2.2.1]; exact hst), by
                  have := Po.mu_drop (out := out) H1.out.2.2.2.2.2.1 H1.out.2.2.1
                  have := H1.out.2.2.2.2.2.2.2.1
                  omega, by
                  have := Po.mu_drop (out := out) H1.out.2.2.2.2.2.1 H1.out.2.2.1
                  have := H1.out.2.2.2.2.2.2.2.2.1
                  omega⟩)
              have g1 : (lx != (fw : Int)) = true := by simpa using hst
              clear hst
              go_wp2_with fail
              go_roundg qk
              case rel => exact HN.out
              case measure => omega
        · have d0 : decide (o < n) = false := by simpa using hlt
          have hall := Po.out_all hI.nd hI.ol (by omega)
          have HO := Lib.hid (And.intro hV.o (And.intro hV.b (And.intro hI.nd (And.intro hI.ol hall))))
          rcases own_slice hV.o with ⟨e1, e2⟩ | ⟨g, cap, e1⟩
          · subst e1
            obtain ⟨rfl, rfl⟩ : oa = none ∧ oc = 0 := by
              obtain ⟨h1, h2⟩ : oa = none ∧ oc = 0 := by cases hov; exact ⟨rfl, rfl⟩
              exact ⟨h1, h2⟩
            rw [← ho] at e2
            subst e2
            have HF := Lib.hid (show OrdR n w wr (.returned (.slice none 0 0)) from ⟨_, out, rfl, HO.out.1, HO.out.2.2.1, fun x => ⟨HO.out.2.2.2.1 x, HO.out.2.2.2.2 x⟩, HO.out.2.1⟩)
            clear hV hI hmu hMu hbig htb hol hov ho hlt hall HO
            have HC := Lib.hid (reverse_nil wr)
            go_wp2_with fail
            refine HC.out.mono ?_
            rintro e w' ⟨rfl, rfl⟩
            go_wp2_with fail
            go_ret
            exact HF.out
          · rw [← ho] at e1
            subst e1
            obtain ⟨rfl, rfl⟩ : oa = some ⟨g, 0, none⟩ ∧ oc = cap := by cases hov; exact ⟨rfl, rfl⟩
            have hro : wr.ownsRow w.heap.size 3 1 (.slice (some ⟨g, 0, none⟩) o oc) o (ints out) := by
              have h9 := hV.o
              unfold Nums at h9
              rw [← ho] at h9
              exact h9
            have hg := (hV.o.lt g rfl).1
            have HC := Lib.hid (reverse_any w.heap.size g oc out o ho (by have := HH.out.1; omega) wr hro)
            have HG := Lib.hid (And.intro hg ho)
            clear hV hI hmu hMu hbig htb hol hov ho hlt hall hro hg
            go_wp2_with fail
            refine HC.out.mono ?_
            rintro e w' ⟨rfl, ho2, hg2⟩
            have HF := Lib.hid (show OrdR n w w' (.returned (.slice (some ⟨g, 0, none⟩) o oc)) from ⟨_, out.reverse, rfl, by
                show World.ownsRow _ _ _ _ _ _ _
                rw [List.length_reverse, ← HG.out.2]
                exact ho2, (List.reverse_perm out).nodup_iff.2 HO.out.2.2.1, fun x => by rw [List.mem_reverse]; exact ⟨HO.out.2.2.2.1 x, HO.out.2.2.2.2 x⟩, HO.out.2.1.grown hg2 HO.out.2.1.size (fun k hk => by cases hk; exact HG.out.1)⟩)
            clear ho2 hg2
            go_wp2_with fail
            go_ret
            exact HF.out
end Go.Proofs.Ytgblpfahgpneoaa
