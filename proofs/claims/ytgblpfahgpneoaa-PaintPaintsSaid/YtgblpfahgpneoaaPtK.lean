/-
  Each node's neighbours: walked.
-/
import Derived.Test.YtgblpfahgpneoaaPtG
import Derived.Test.YtgblpfahgpneoaaDrawn
namespace Go.Proofs.Ytgblpfahgpneoaa
open Go Go.RowKit

theorem delete_any {n bL b10 b11 node base : Nat} {lf : Nat → Int} (L : List Nat) (v : Value) (hmb : L.length ≤ 4000) (hL : ∀ x ∈ L, x < n) (hn : node ≤ 60000) (hlf : ∀ x, lf x ≠ (node : Int) + 1) (w : World) (hg : ∀ g, v.ownBlock = some g → g ≠ bL ∧ g ≠ b10 ∧ g ≠ b11) (ho : Nums w base v L) (h : Ndl n bL b10 b11 node lf w) :
    Calls Try.prog 18 #[v, Fv b10 b11] w fun e w' => DlT n bL b10 b11 node base lf L v w w' e := by
  rcases own_slice ho with ⟨rfl, h0⟩ | ⟨g, c, rfl⟩
  · obtain rfl : L = [] := List.length_eq_zero_iff.1 h0
    refine (delete_nil (Fv b10 b11) w).mono ?_
    rintro e w' ⟨rfl, rfl⟩
    exact ⟨_, rfl, ho, rfl, h.turn (fun x => mk_nil _ _ _), FrS.refl _ _⟩
  · exact delete_some L rfl hmb hL hn hlf w (hg g rfl) ho h

set_option maxRecDepth 100000 in
set_option maxHeartbeats 3200000 in
theorem neighbours_any (n : Nat) (hn : n ≤ 60000) (a : Option Addr) (m c : Nat) (l : List P2) (hm : m = l.length) (hl : m ≤ 4000) (hc : m ≤ c) (hA : AreN n l) (w : World) (h : PairZ w (.slice a m c) l) :
    Calls Try.prog 14 #[I (n : Int), .slice a m c] w fun e w' => NbE w n l w' e := by
  obtain ⟨i0, p1, p2, p3, p4⟩ := info_parts infoI
  have HI := Lib.hid (And.intro p1 (And.intro p2 (And.intro p3 p4)))
  clear p1 p2 p3 p4
  have hmb : (m : Int) ≤ 4000 := by omega
  have hmc : (m : Int) ≤ (c : Int) := by omega
  have hnb : (n : Int) ≤ 60000 := by omega
  have hmi := mkIs n (by omega)
  have hmr := mkSn n (by omega)
  have hmf : ∀ (fn : Fn) (first cap : Array Value) (w : World), (Instr.makeFunc fn first cap).run Try.prog w = .ok (.func fn first cap) w := fun _ _ _ _ => rfl
  have HH := Lib.hid (And.intro h (And.intro hm (And.intro hl (And.intro hA hn))))
  clear h hm hl hc hA hn
  go_enter Try.func14, Try.ntmps14
  go_upto_region 2 with (fail)
  obtain ⟨W, hW⟩ : ∃ W, W = w.alloc (.cells (arrS (List.replicate n (.slice none 0 0))) 25) := ⟨_, rfl⟩
  obtain ⟨bl, hbl⟩ : ∃ b, b = w.heap.size := ⟨_, rfl⟩
  have HS := Lib.hid (show Nb1 w n bl l (I 0) W from ⟨0, Nat.zero_le _, rfl, by rw [hW, hbl]; exact (intoW_new w n).ext fun t _ => by simp [nbs], by rw [hW]; exact (Below.refl _ _).alloc (Nat.le_refl _) _⟩)
  have HW := Lib.hid (And.intro hW hbl)
  change Code.wp _ _ _ _ (w.alloc (.cells (arrS (List.replicate n (.slice none 0 0))) 25))
  rw [← HW.out.1]
  try rw [← HW.out.2]
  clear hW hbl
  go_wp2_with fail
  go_loopw [16] (fun iv W => Nb1 w n bl l iv W) (fun iv _ => m - (intOf iv).toNat)
  case atStart => exact HS.out
  case round =>
    obtain ⟨i, hi, rfl, hI, hbe⟩ := hrel
    by_cases hin : i < m
    · have hil : i < l.length := by rw [← HH.out.2.1]; exact hin
      obtain ⟨b, _, rfl, hbb, c0, e0⟩ := (HH.out.1.below pairV_stays hbe).at i hil
      obtain rfl := e0
      have hnd : NodeP n (pr l i) := by rw [← getD_pr hil]; exact HH.out.2.2.2.1 _ (List.getElem_mem hil)
      rw [getD_pr hil] at c0
      obtain ⟨p, q, hx⟩ : ∃ a b, pr l i = (a, b) := ⟨_, _, rfl⟩
      rw [hx] at c0 hnd
      obtain ⟨q1, q2, q3, q4⟩ : 0 ≤ p ∧ p < (n : Int) ∧ 0 ≤ q ∧ q < (n : Int) := hnd
      obtain ⟨xa, rfl⟩ : ∃ a : Nat, p = (a : Int) := ⟨p.toNat, by omega⟩
      obtain ⟨xb, rfl⟩ : ∃ a : Nat, q = (a : Int) := ⟨q.toNat, by omega⟩
      have x0 : wr.cell? (b.add (i * 2)) = some (I (xa : Int)) := c0.f0
      have x1 : wr.cell? ⟨(b.add (i * 2)).block, (b.add (i * 2)).off + 1, none⟩ = some (I (xb : Int)) := c0.f1
      have d0 : decide (i < m) = true := by simpa using hin
      have d1 : (0 : Int) ≤ (i : Int) := by omega
      have d2 : (i : Int) < (m : Int) := by omega
      have d3 : (i : Int) ≤ (c : Int) := by omega
      obtain ⟨W1, hW1⟩ : ∃ W, W = wr.alloc (.cells #[I (xa : Int), I (xb : Int)] 29) := ⟨_, rfl⟩
      obtain ⟨bx, hbx⟩ : ∃ b, b = wr.heap.size := ⟨_, rfl⟩
      have kx : Blk bx #[I (xa : Int), I (xb : Int)] 29 W1 := by rw [hW1, hbx]; exact Blk.new _ _ _
      have y0 := kx.get 0 _ rfl
      have y1 := kx.get 1 _ rfl
      have hI1 : IntoW w.heap.size bl n (fun t => nbs (l.take i) t) W1 := by rw [hW1]; exact hI.alloc _
      have hB1 : Below w.heap.size w W1 := by rw [hW1]; exact hbe.alloc hbe.size _
      have htk := take_pr hil
      rw [hx] at htk
      have H1 := Lib.hid (And.intro hI1 (And.intro hB1 (And.intro hin (And.intro hil htk))))
      have HW1 := Lib.hid (And.intro hW1 hbx)
      clear hI1 hB1 hin hil htk hW1 hbx kx hI hbe c0 hx hi hbb
      go_upto_region 5 with (fail)
      change Code.wp _ _ _ _ (wr.alloc (.cells #[I (xa : Int), I (xb : Int)] 29))
      rw [← HW1.out.1, ← HW1.out.2]
      clear x0 x1
      go_quiet (fail)
      generalize hW2 : W1.drewN _ = W2
      have hI2 : IntoW w.heap.size bl n (fun t => nbs (l.take i) t) W2 := by rw [← hW2]; exact H1.out.1.heap rfl
      have hB2 : Below w.heap.size w W2 := by rw [← hW2]; exact below_drewN H1.out.2.1 _
      clear y0 y1 hW2
      by_cases hab : xa = xb
      · subst hab
        have HN := Lib.hid (show Nb1 w n bl l (I ((i : Int) + 1)) W2 from ⟨i + 1, H1.out.2.2.2.1, rfl, hI2.ext fun t _ => by rw [H1.out.2.2.2.2, nbs_app]; unfold nb; rw [if_pos rfl, List.append_nil], hB2⟩)
        clear hI2 hB2
        go_wp2_with fail
        exact ⟨HN.out, by have := H1.out.2.2.1; simp [intOf]; omega⟩
      · have g1 : ((xa : Int) != (xb : Int)) = true := by rw [bne_iff_ne]; omega
        obtain ⟨h0, vs, h1, h2, h3, h4, h5⟩ := hI2
        have hav : xa < vs.length := by omega
        obtain ⟨ra, ka, hva⟩ := nums_row (h3 xa hav)
        obtain ⟨ma, hma⟩ : ∃ z, z = (nbs (l.take i) xa).length := ⟨_, rfl⟩
        have hmal : ma ≤ 4000 := by
          have h9 := nbs_len xa (l.take i)
          have := HH.out.2.2.1
          have := H1.out.2.2.1
          rw [List.length_take] at h9
          omega
        have hoa := h3 xa hav
        unfold Nums at hoa
        rw [hva] at hoa
        rw [← hma] at hva hoa
        have y0 : W2.cell? ⟨bl, xa, none⟩ = some (.slice ra ma ka) := by rw [← hva]; exact h2.get xa _ (by simp [hav])
        have HA := Lib.hid (And.intro h0 (And.intro h1 (And.intro h2 (And.intro h3 (And.intro h4 (And.intro h5 (And.intro hav (And.intro hva (And.intro hoa (And.intro hab (And.intro hB2 hma)))))))))))
        clear h0 h1 h2 h3 h4 h5 hva hoa hab hB2 hma
        go_wp2_with (first | (at_builtin; refine Hid.out ?_) | go_in)
        unfold Hid
        refine wpList_append_lies _ rfl (.tmp 32) (.tmp 34) 25 rfl w.heap.size 3 i0 (I 0) 1 8 Try.underlying25 HI.out.1 HI.out.2.1 HI.out.2.2.1 HI.out.2.2.2 rfl (by decide) (.slice ra ma ka) ma (ints (nbs (l.take i) xa)) rfl (HA.out.2.2.2.2.2.2.2.2.1.alloc _) ⟨W2.heap.size, 0, none⟩ 1 1 [I (xb : Int)] rfl rfl (World.news_of_block (heap_alloc_new W2 _)) (by simp [Value.oneCell']) (by decide) (by unfold maxLen; omega) (by omega) (by have h1 := HA.out.2.2.2.2.2.2.2.2.2.2.1.size; simp; omega) _ rfl ?_
        intro g3 c3 w3 ho3 hg3 hat3 hlt3
        obtain ⟨h0, h1, h2, h3, h4, h5, _, hva, hoa, hab, hB2, hma⟩ := HA.out
        obtain ⟨W3, hW3⟩ : ∃ W, W = w3.setCell ⟨bl, xa, none⟩ (.slice (some ⟨g3, 0, none⟩) (ma + 1) c3) := ⟨_, rfl⟩
        have hI3 := IntoW.app (o := .cells #[I (xb : Int)] 3) (u := .slice (some ⟨g3, 0, none⟩) (ma + 1) c3) (p := xb) h0 h1 h2 h3 h4 h5 hav (by rw [hva]; exact hg3) (by
          show World.ownsRow _ _ _ _ _ _ _
          rw [List.length_append, List.length_singleton, ← hma, show ints (nbs (l.take i) xa ++ [xb]) = ints (nbs (l.take i) xa) ++ [I (xb : Int)] by simp]
          exact ho3) (by
          rw [hva]
          rcases hat3 with e | e
          · left; rw [e]; rfl
          · right; rw [e]; rfl)
        rw [← hW3] at hI3
        have hB3 : Below w.heap.size w W3 := by
          rw [hW3]
          exact ((hB2.alloc hB2.size (.cells #[I (xb : Int)] 3)).grown hg3 (by have := hB2.size; simp; omega) (fun k hk => ((h3 xa hav).lt k (by rw [hva]; exact hk)).1)).setCell (p := ⟨bl, xa, none⟩) h0 _
        have B3 := (h2.alloc (.cells #[I (xb : Int)] 3)).other hg3 (by rw [← hva]; exact h4 xa hav)
        have y4 : w3.cell? ⟨bl, xa, none⟩ = some (.slice ra ma ka) := by rw [← hva]; exact B3.get xa _ (by simp [hav])
        have f4 := B3.free xa
        have HW3 := Lib.hid hW3
        have HI3 := Lib.hid (And.intro hI3 (And.intro hB3 hab))
        clear h0 h1 h2 h3 h4 h5 hva hoa hab hB2 hma hI3 hB3 B3 hW3 ho3 hg3 hat3 hlt3 y0
        go_upto_region 8 with (fail)
        change Code.wp _ _ _ _ (w3.setCell ⟨bl, xa, none⟩ (.slice (some ⟨g3, 0, none⟩) (ma + 1) c3))
        rw [← HW3.out]
        clear y4 f4
        obtain ⟨⟨h0, us, h1, h2, h3, h4, h5⟩, hB3, hab⟩ := HI3.out
        have hbv : xb < us.length := by omega
        have h3b : Nums W3 w.heap.size us[xb] (nbs (l.take i) xb) := by
          have h9 := h3 xb hbv
          dsimp only at h9
          rw [if_neg (fun e => hab e.symm)] at h9
          exact h9
        obtain ⟨rb, kb, hvb⟩ := nums_row h3b
        obtain ⟨mb, hmb2⟩ : ∃ z, z = (nbs (l.take i) xb).length := ⟨_, rfl⟩
        have hmbl : mb ≤ 4000 := by
          have h9 := nbs_len xb (l.take i)
          have := HH.out.2.2.1
          have := H1.out.2.2.1
          rw [List.length_take] at h9
          omega
        have hob := h3b
        unfold Nums at hob
        rw [hvb] at hob
        rw [← hmb2] at hvb hob
        have y0 : W3.cell? ⟨bl, xb, none⟩ = some (.slice rb mb kb) := by rw [← hvb]; exact h2.get xb _ (by simp [hbv])
        have HB := Lib.hid (And.intro h0 (And.intro h1 (And.intro h2 (And.intro h3 (And.intro h4 (And.intro h5 (And.intro h3b (And.intro hvb (And.intro hob (And.intro hab (And.intro hB3 hmb2)))))))))))
        clear h0 h1 h2 h3 h4 h5 hvb hob hab hB3 hmb2 h3b
        go_wp2_with (first | (at_builtin; refine Hid.out ?_) | go_in)
        unfold Hid
        refine wpList_append_lies _ rfl (.tmp 42) (.tmp 44) 25 rfl w.heap.size 3 i0 (I 0) 1 8 Try.underlying25 HI.out.1 HI.out.2.1 HI.out.2.2.1 HI.out.2.2.2 rfl (by decide) (.slice rb mb kb) mb (ints (nbs (l.take i) xb)) rfl (HB.out.2.2.2.2.2.2.2.2.1.alloc _) ⟨W3.heap.size, 0, none⟩ 1 1 [I (xa : Int)] rfl rfl (World.news_of_block (heap_alloc_new W3 _)) (by simp [Value.oneCell']) (by decide) (by unfold maxLen; omega) (by omega) (by have h1 := HB.out.2.2.2.2.2.2.2.2.2.2.1.size; simp; omega) _ rfl ?_
        intro g4 c4 w4 ho4 hg4 hat4 hlt4
        obtain ⟨h0, h1, h2, h3, h4, h5, h3b, hvb, hob, hab, hB3, hmb2⟩ := HB.out
        have hI4 := IntoW.app (o := .cells #[I (xa : Int)] 3) (u := .slice (some ⟨g4, 0, none⟩) (mb + 1) c4) (p := xa) h0 h1 h2 h3 h4 h5 hbv (by rw [hvb]; exact hg4) (by
          show World.ownsRow _ _ _ _ _ _ _
          try dsimp only
          rw [if_neg (fun e => hab e.symm), List.length_append, List.length_singleton, ← hmb2, show ints (nbs (l.take i) xb ++ [xa]) = ints (nbs (l.take i) xb) ++ [I (xa : Int)] by simp]
          exact ho4) (by
          rw [hvb]
          rcases hat4 with e | e
          · left; rw [e]; rfl
          · right; rw [e]; rfl)
        have hB4 : Below w.heap.size w (w4.setCell ⟨bl, xb, none⟩ (.slice (some ⟨g4, 0, none⟩) (mb + 1) c4)) :=
          ((hB3.alloc hB3.size (.cells #[I (xa : Int)] 3)).grown hg4 (by have := hB3.size; simp; omega) (fun k hk => ((h3 xb hbv).lt k (by rw [hvb]; exact hk)).1)).setCell (p := ⟨bl, xb, none⟩) h0 _
        have B4 := (h2.alloc (.cells #[I (xa : Int)] 3)).other hg4 (by rw [← hvb]; exact h4 xb hbv)
        have y4 : w4.cell? ⟨bl, xb, none⟩ = some (.slice rb mb kb) := by rw [← hvb]; exact B4.get xb _ (by simp [hbv])
        have f4 := B4.free xb
        have HN := Lib.hid (show Nb1 w n bl l (I ((i : Int) + 1)) (w4.setCell ⟨bl, xb, none⟩ (.slice (some ⟨g4, 0, none⟩) (mb + 1) c4)) from ⟨i + 1, H1.out.2.2.2.1, rfl, hI4.ext fun t _ => by
          rw [H1.out.2.2.2.2, nbs_app]
          unfold nb
          show _ = if t = xb then (if t = xa then _ else _) ++ [xa] else if t = xa then _ else _
          rw [if_neg (show ¬ ((xa : Int) = (xb : Int)) by omega)]
          by_cases e1 : t = xa
          · subst e1
            rw [if_pos rfl, if_neg hab, if_pos rfl, Int.toNat_natCast]
          · rw [if_neg (show ¬ ((xa : Int) = (t : Int)) by omega), if_neg e1]
            by_cases e2 : t = xb
            · subst e2
              simp []
            · rw [if_neg (show ¬ ((xb : Int) = (t : Int)) by omega), if_neg e2, List.append_nil], hB4⟩)
        clear h0 h1 h2 h3 h4 h5 h3b hvb hob hab hB3 hmb2 hI4 hB4 B4 ho4 hg4 hat4 hlt4 y0
        go_wp2_with fail
        exact ⟨HN.out, by have := H1.out.2.2.1; simp [intOf]; omega⟩
    · have d0 : decide (i < m) = false := by simpa using hin
      have hil : i = l.length := by have := HH.out.2.1; omega
      rw [hil, List.take_length] at hI
      obtain ⟨vs0, hV0⟩ := nbV_start hI hbe
      obtain ⟨W5, hW5⟩ : ∃ W, W = (wr.alloc (.cells (Array.replicate n (I 0)) 3)).alloc (.cells #[.slice (some ⟨wr.heap.size, 0, none⟩) n n] 25) := ⟨_, rfl⟩
      obtain ⟨bL, hbL⟩ : ∃ b, b = wr.heap.size := ⟨_, rfl⟩
      obtain ⟨b10, hb10⟩ : ∃ b, b = wr.heap.size + 1 := ⟨_, rfl⟩
      rw [← hW5, ← hb10, ← hbL] at hV0
      have HS2 := Lib.hid (show Nb2 w n bl bL b10 bL l (I 0) W5 from ⟨0, vs0, _, Nat.zero_le _, rfl, hV0.turn fun t _ => by rw [if_neg (by omega)], fun x => by omega⟩)
      have HW5 := Lib.hid (And.intro hW5 (And.intro hbL hb10))
      clear hV0 hW5 hbL hb10 hI hbe hin hi hil
      go_upto_region 11 with (fail)
      change Code.wp _ _ _ _ ((wr.alloc (.cells (Array.replicate n (I 0)) 3)).alloc (.cells #[.slice (some ⟨wr.heap.size, 0, none⟩) n n] 25))
      rw [← HW5.out.1, ← HW5.out.2.2]
      go_wp2_with fail
      go_loopw [52] (fun iv W => Nb2 w n bl bL b10 bL l iv W) (fun iv _ => n - (intOf iv).toNat)
      case atStart => exact HS2.out
      case round =>
        obtain ⟨i2, vs, lf, hi, rfl, hV, hlf⟩ := hrel
        by_cases hin : i2 < n
        · have hiv : i2 < vs.length := by rw [hV.vl]; exact hin
          obtain ⟨W1, hW1⟩ : ∃ W, W = wr.alloc (.cells #[I (i2 : Int)] 3) := ⟨_, rfl⟩
          obtain ⟨b11, hb11⟩ : ∃ b, b = wr.heap.size := ⟨_, rfl⟩
          have k11 : Blk b11 #[I (i2 : Int)] 3 W1 := by rw [hW1, hb11]; exact Blk.new _ _ _
          have hV1 : NbV w n bl bL b10 bL vs (fun t => if t < i2 then dd (nbs l t) else nbs l t) lf W1 := by rw [hW1]; exact hV.alloc _
          have hlt : bL < b11 ∧ b10 < b11 ∧ bl < b11 := by rw [hb11]; exact ⟨hV.kl.lt, hV.k0.lt, hV.rb.lt⟩
          obtain ⟨rv, hrv⟩ : ∃ v, v = vs[i2] := ⟨_, rfl⟩
          have hnr : Nums W1.drew w.heap.size rv (nbs l i2) := by
            have h9 := hV1.drew.ro i2 hiv
            try dsimp only at h9
            rw [if_neg (by omega), ← hrv] at h9
            exact h9
          have hol : ∀ g, rv.ownBlock = some g → g < bL ∧ g ≠ bl := fun g hg => hV.ol i2 hiv g (by rw [← hrv]; exact hg)
          have hlen : (nbs l i2).length ≤ 4000 := by
            have h9 := nbs_len i2 l
            have := HH.out.2.1
            have := HH.out.2.2.1
            omega
          have hNd : Ndl n bL b10 b11 i2 lf W1.drew := ⟨hV1.drew.k0, hV1.drew.kl, k11, hV1.lo.2.2.2.2, by omega⟩
          have HC := Lib.hid (delete_any (node := i2) (nbs l i2) rv hlen (fun x hx => ((mem_nbs HH.out.2.2.2.1).1 hx).lt HH.out.2.2.2.1) (by have := HH.out.2.2.2.2; omega) (fun x => by have := hlf x; omega) W1.drew (fun g hg => by have := hol g hg; have := hV1.lo; omega) hnr hNd)
          have c0 := k11.get 0 _ rfl
          have c1 : W1.cell? ⟨bl, i2, none⟩ = some rv := by rw [hrv]; exact hV1.rb.get i2 _ (by simp [hiv])
          have d0 : decide (i2 < n) = true := by simpa using hin
          have d1 : (0 : Int) ≤ (i2 : Int) := by omega
          have d2 : (i2 : Int) < (n : Int) := by omega
          have H1 := Lib.hid (And.intro hV1.drew (And.intro k11 (And.intro hlt (And.intro hrv (And.intro hol (And.intro hlf hin))))))
          have HW1 := Lib.hid (And.intro hW1 hb11)
          clear hV hV1 k11 hlt hrv hol hlf hin hlen hNd hnr hW1 hb11 hi
          go_upto_region 14 with (fail)
          change Code.wp _ _ _ _ (wr.alloc (.cells #[I (i2 : Int)] 3))
          rw [← HW1.out.1, ← HW1.out.2]
          have hS : (fun w' : World => w'.cell? ⟨b11, 0, none⟩ = some (I (i2 : Int)) ∧ w'.cell? ⟨bl, i2, none⟩ = some rv) W1.drew := ⟨c0, c1⟩
          refine wp_region_dep (S := fun w' : World => w'.cell? ⟨b11, 0, none⟩ = some (I (i2 : Int)) ∧ w'.cell? ⟨bl, i2, none⟩ = some rv) (dep := [9]) (by kernel_rfl) ?_
          change wpAnyD _ _ _ _ _ _ _ _ _ (World.drew _)
          refine wpAnyD_take (i := 0) (v := ?_) rfl (by kernel_rfl) (by kernel_rfl) (by kernel_rfl) (by kernel_rfl) (by kernel_rfl) (fun _ _ _ h => h) hS (Or.inl ⟨by rfl, ?_⟩) ?_
          rotate_left
          · intro w hSw; obtain ⟨hSw, hSw2⟩ := hSw; go_simp
            try with_reducible rfl
          try simp only [Act.put, List.setIfInBounds_toArray]
          refine wpAnyD_take (i := 1) (v := ?_) rfl (by kernel_rfl) (by kernel_rfl) (by kernel_rfl) (by kernel_rfl) (by kernel_rfl) (fun _ _ _ h => h) hS (Or.inl ⟨by rfl, ?_⟩) ?_
          rotate_left
          · intro w hSw; obtain ⟨hSw, hSw2⟩ := hSw; go_simp
            try with_reducible rfl
          try simp only [Act.put]
          refine wpAnyD_take (i := 2) (v := ?_) rfl (by kernel_rfl) (by kernel_rfl) (by kernel_rfl) (by kernel_rfl) (by kernel_rfl) (fun _ _ _ h => h) hS (Or.inl ⟨by rfl, ?_⟩) ?_
          rotate_left
          · intro w hSw; obtain ⟨hSw, hSw2⟩ := hSw; go_simp
            try with_reducible rfl
          try simp only [Act.put]
          refine wpAnyD_take (i := 3) (v := ?_) rfl (by kernel_rfl) (by kernel_rfl) (by kernel_rfl) (by kernel_rfl) (by kernel_rfl) (fun _ _ _ h => h) hS (Or.inl ⟨by rfl, ?_⟩) ?_
          rotate_left
          · intro w hSw; obtain ⟨hSw, hSw2⟩ := hSw; go_simp
            try with_reducible rfl
          try simp only [Act.put]
          refine wpAnyD_take (i := 4) (v := ?_) rfl (by kernel_rfl) (by kernel_rfl) (by kernel_rfl) (by kernel_rfl) (by kernel_rfl) (fun _ _ _ h => h) hS (Or.inl ⟨by rfl, ?_⟩) ?_
          rotate_left
          · intro w hSw; obtain ⟨hSw, hSw2⟩ := hSw; go_simp
            try with_reducible rfl
          try simp only [Act.put]
          refine wpAnyD_take (i := 5) (v := ?_) rfl (by kernel_rfl) (by kernel_rfl) (by kernel_rfl) (by kernel_rfl) (by kernel_rfl) (fun _ _ _ h => h) hS (Or.inl ⟨by rfl, ?_⟩) ?_
          rotate_left
          · intro w hSw; obtain ⟨hSw, hSw2⟩ := hSw; go_simp
            try with_reducible rfl
          try simp only [Act.put]
          refine wpAnyD_take (i := 6) (v := ?_) rfl (by kernel_rfl) (by kernel_rfl) (by kernel_rfl) (by kernel_rfl) (by kernel_rfl) (fun _ _ _ h => h) hS (Or.inl ⟨by rfl, ?_⟩) ?_
          rotate_left
          · intro w hSw; obtain ⟨hSw, hSw2⟩ := hSw; go_simp
            try with_reducible rfl
          try simp only [Act.put]
          clear hS c0 c1
          refine wpAnyD_one (i := 7) rfl (by kernel_rfl) rfl (fun K hK => ?_)
          go_simp
          refine HC.out.mono ?_
          rintro e w7 ⟨v', rfl, ho7, hu7, hN7, hF7⟩
          obtain ⟨ra, rk, hv'⟩ := nums_row ho7
          generalize (dd (nbs l i2)).length = dl at hv'
          subst hv'
          have hbl7 : ¬ (bl = bL ∨ some bl = rv.ownBlock) := by
            rintro (e | e)
            · have := H1.out.1.lo; omega
            · exact (H1.out.2.2.2.2.1 _ e.symm).2 rfl
          have hb11 : ¬ (b11 = bL ∨ some b11 = rv.ownBlock) := by
            rintro (e | e)
            · have := H1.out.2.2.1; omega
            · have := (H1.out.2.2.2.2.1 _ e.symm).1; have := H1.out.2.2.1; omega
          have hiv : i2 < vs.length := by rw [H1.out.1.vl]; exact H1.out.2.2.2.2.2.2
          have B7 := H1.out.1.rb.frs hF7 hbl7
          have k7 : Blk b11 #[I (i2 : Int)] 3 w7 := Blk.frs (w := W1.drew) H1.out.2.1 hF7 hb11
          have x7 : w7.cell? ⟨bl, i2, none⟩ = some rv := by rw [H1.out.2.2.2.1]; exact B7.get i2 _ (by simp [hiv])
          have f7 := B7.free i2
          have V7 := H1.out.1.cut hiv (by rw [← H1.out.2.2.2.1]; exact hF7) ho7 (by rw [← H1.out.2.2.2.1]; exact hu7) hN7.kl
          have HS7 := Lib.hid (And.intro (k7.get 0 _ rfl) x7)
          have HN := Lib.hid (show Nb2 w n bl bL b10 bL l (I ((i2 : Int) + 1)) (w7.setCell ⟨bl, i2, none⟩ (.slice ra dl rk)) from ⟨i2 + 1, _, _, by have := H1.out.2.2.2.2.2.2; omega, rfl, V7.turn fun t _ => by
            by_cases e : t = i2
            · rw [if_pos e, if_pos (by omega), e]
            · rw [if_neg e]
              by_cases e2 : t < i2
              · rw [if_pos e2, if_pos (by omega)]
              · rw [if_neg e2, if_neg (by omega)], fun x => by
            unfold mk
            have := H1.out.2.2.2.2.2.1 x
            split <;> omega⟩)
          clear ho7 hu7 hN7 hF7 hbl7 hb11 hiv B7 k7 V7
          refine hK _ _ (Or.inr ⟨HS7.out.1, HS7.out.2⟩) ?_
          clear hK K
          try simp only [Act.put, List.setIfInBounds_toArray, List.set_cons_zero, List.set_cons_succ]
          refine wpAnyD_one (i := 8) rfl (by kernel_rfl) rfl (fun K hK => ?_)
          go_simp
          refine hK _ _ (Or.inr ⟨HS7.out.1, HS7.out.2⟩) ?_
          clear hK K
          try simp only [Act.put, List.setIfInBounds_toArray, List.set_cons_zero, List.set_cons_succ]
          refine wpAnyD_last (i := 9) rfl (by kernel_rfl) rfl rfl (fun K hK => ?_)
          go_simp
          refine hK _ _ ?_
          clear hK K
          try simp only [Act.put, List.setIfInBounds_toArray, List.set_cons_zero, List.set_cons_succ]
          refine wpAnyD_done (by kernel_rfl) ?_ _
          clear x7 f7
          go_wp2_with fail
          exact ⟨HN.out, by have := H1.out.2.2.2.2.2.2; simp [intOf]; omega⟩
        · have d0 : decide (i2 < n) = false := by simpa using hin
          obtain rfl : n = i2 := by omega
          have FIN := Lib.hid (show NbE w n l wr (.returned (.slice (some ⟨bl, 0, none⟩) n n)) from ⟨_, rfl, (hV.iw.ext fun t ht => by rw [if_pos ht]).gz, hV.be⟩)
          clear hV hlf hin hi
          go_wp2_with fail
          go_ret
          exact FIN.out
end Go.Proofs.Ytgblpfahgpneoaa
