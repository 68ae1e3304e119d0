/-
  The document's own Decode, walked: the instruction with whose bytes a list begins, or none.
-/
import Derived.Test.YtlblmnneikdpgaaDoorIbUn
import Derived.Test.YtlblmnneikdpgaaDoorIbDp
namespace Go.Proofs.YtlblmnneikdpgaaDoor
open Go Go.RowKit Ib

theorem cand_none {q : List Nat} {y : Wd} (h : ∀ x, PreW q x → PreW q y) (hn : ¬ PreW q y) : ∀ x, ¬ PreW q x := fun x hx => hn (h x hx)
theorem not_pre_len {op n : Nat} {rs q : List Nat} (h : names op = some (n, true)) (hr : rs.length = n) {k : Nat} (hk : 8 < k ∨ q.length < k) (x : Wd) : ¬ PreW (op :: (rs ++ k :: q)) x :=
  pre_nonum h hr (by
    rintro ⟨l, q', h1, h2⟩
    injection h1 with h3 h4
    rcases hk with h5 | h5
    · omega
    · have := congrArg List.length h4
      simp at this
      omega) x
theorem not_pre_nil {op n : Nat} {rs : List Nat} (h : names op = some (n, true)) (hr : rs.length = n) (x : Wd) : ¬ PreW (op :: (rs ++ [])) x :=
  pre_nonum h hr (by
    rintro ⟨l, q', h1, h2⟩
    cases h1) x
theorem wrap_two (z : Int) : RowKit.wrap64 z = Ib.wrap64 z := by unfold RowKit.wrap64 Ib.wrap64; rfl
theorem shl_pow {i : Nat} (hi : i < 8) : IntKind.u64.wrap ((255 : Int) * 2 ^ (8 * i)) = ((255 * 256 ^ i : Nat) : Int) := by
  have h : (2 : Int) ^ (8 * i) = ((256 ^ i : Nat) : Int) := by rw [pow256']; simp
  rw [h, show (255 : Int) * ((256 ^ i : Nat) : Int) = ((255 * 256 ^ i : Nat) : Int) by simp]
  have h2 := Nat.pow_le_pow_right (show 0 < 256 by decide) (show i ≤ 7 by omega)
  have h3 : 256 ^ 7 = 72057594037927936 := by decide
  exact u64_wrap_id _ (by omega) (by omega)

set_option maxRecDepth 100000 in
set_option maxHeartbeats 6400000 in
theorem refDecode_any (a : Option Addr) (n c : Nat) (q : List Nat) (w : World) (hq : Byt q) (hl : q.length ≤ 140737488355327) (hp : ByteZ w (.slice a n c) q) :
    Calls Tryd.prog 21 #[.slice a n c] w fun e w' => RDecT q w w' e := by
  have hcap := hp.cap
  obtain rfl := ByteZ.len hp
  obtain ⟨W0, hW0⟩ : ∃ W, W = w.alloc (.cells zR 23) := ⟨_, rfl⟩
  obtain ⟨b0, hb0⟩ : ∃ b, b = w.heap.size := ⟨_, rfl⟩
  have hB0 : Below w.heap.size w W0 := by rw [hW0]; exact (Below.refl _ _).alloc (Nat.le_refl _) _
  have k0 : Blk b0 zR 23 W0 := by rw [hW0, hb0]; exact Blk.new _ _ _
  have hp0 := hp.below byteV_stays hB0
  have HPP := Lib.hid hp
  have HBK0 := Lib.hid (And.intro hB0 k0)
  have HW0 := Lib.hid (And.intro hW0 hb0)
  clear hW0 hb0 hB0 k0 hp
  cases q with
  | nil =>
    have HNO := Lib.hid pre_nil
    clear hp0 hq hl hcap HPP
    go_enter Tryd.func21, Tryd.ntmps21
    go_upto_region 1 with (fail)
    rw [← HW0.out.2]
    change Code.wp _ _ _ _ (w.alloc (.cells zR 23))
    rw [← HW0.out.1]
    have v0 := HBK0.out.2.free 0
    have v1 := HBK0.out.2.free 1
    have v2 := HBK0.out.2.free 2
    have v3 := HBK0.out.2.free 3
    have v4 := HBK0.out.2.free 4
    have y0 := HBK0.out.2.get 0 (.int .u8 0) rfl
    have y1 := HBK0.out.2.get 1 (.int .u8 0) rfl
    have y2 := HBK0.out.2.get 2 (.int .u8 0) rfl
    have y3 := HBK0.out.2.get 3 (.int .u8 0) rfl
    have y4 := HBK0.out.2.get 4 (.int .i64 0) rfl
    go_wp2_with fail
    have hk5 : Blk b0 zR 23 _ := ((((HBK0.out.2.set 0 (.int .u8 0)).set 1 (.int .u8 0)).set 2 (.int .u8 0)).set 3 (.int .u8 0)).set 4 (.int .i64 0)
    refine bodyPost_ret (results_row2 rfl _ _ b0 23 zR (0, 0) _ rfl hk5 Tryd.underlying23 rfl info23) rfl ?_
    exact ⟨HBK0.out.1.trans (below5 (by have := HW0.out.2; omega) _ _ _ _ _), Or.inr ⟨HNO.out, rfl⟩⟩
  | cons op q1 =>
    cases a with
    | none => exact absurd (ByteZ.none hp0) (by simp)
    | some b =>
      have ho : op < 256 := hq op (by simp)
      have hq1 : Byt q1 := fun z hz => hq z (List.mem_cons_of_mem _ hz)
      obtain ⟨b', e1, hbl, c0⟩ := ByteZ.cell hp0 0 (by simp)
      cases e1
      simp only [List.getElem_cons_zero, add0] at c0
      obtain ⟨N, hN⟩ : ∃ N, N = q1.length + 1 := ⟨_, rfl⟩
      have hNl : (op :: q1).length = N := by rw [hN]; rfl
      rw [hNl] at hp0 hl hcap HPP ⊢
      have HC := Lib.hid (names_any op ho W0)
      have HP := Lib.hid (And.intro hp0 (And.intro hN (And.intro hq1 (And.intro ho (And.intro hl hcap)))))
      have g0 : ((N : Int) == 0) = false := by simp; omega
      have g1 : (0 : Int) < (N : Int) := by omega
      clear hp0 hq1 ho hq hl hN hNl hbl hcap
      go_enter Tryd.func21, Tryd.ntmps21
      go_upto_region 1 with (fail)
      rw [← HW0.out.2]
      change Code.wp _ _ _ _ (w.alloc (.cells zR 23))
      rw [← HW0.out.1]
      go_wp2_with fail
      refine HC.out.mono ?_
      rintro e w1 ⟨hsh, hb1⟩
      have HBK1 := Lib.hid (And.intro (below_tr HBK0.out.1 hb1) (HBK0.out.2.below hb1 HBK0.out.2.lt))
      have hp1 := HP.out.1.below byteV_stays hb1
      have HP1 := Lib.hid hp1
      rcases hsh with ⟨hno, rfl⟩ | ⟨n', im, hnm, rfl⟩
      · have HNO := Lib.hid (fun x => pre_none (q := q1) hno x)
        clear hno hb1 hp1 c0 HC
        have v0 := HBK1.out.2.free 0
        have v1 := HBK1.out.2.free 1
        have v2 := HBK1.out.2.free 2
        have v3 := HBK1.out.2.free 3
        have v4 := HBK1.out.2.free 4
        have y0 := HBK1.out.2.get 0 (.int .u8 0) rfl
        have y1 := HBK1.out.2.get 1 (.int .u8 0) rfl
        have y2 := HBK1.out.2.get 2 (.int .u8 0) rfl
        have y3 := HBK1.out.2.get 3 (.int .u8 0) rfl
        have y4 := HBK1.out.2.get 4 (.int .i64 0) rfl
        go_wp2_with fail
        have hk5 : Blk b0 zR 23 _ := ((((HBK1.out.2.set 0 (.int .u8 0)).set 1 (.int .u8 0)).set 2 (.int .u8 0)).set 3 (.int .u8 0)).set 4 (.int .i64 0)
        refine bodyPost_ret (results_row2 rfl _ _ b0 23 zR (0, 0) _ rfl hk5 Tryd.underlying23 rfl info23) rfl ?_
        exact ⟨HBK1.out.1.trans (below5 (by have := HW0.out.2; omega) _ _ _ _ _), Or.inr ⟨HNO.out, rfl⟩⟩
      · have hn3 := (names_le hnm).1
        have d0 : decide ((n' : Int) < 0) = false := by simp
        have en : (n' : Int) ≤ 3 := by omega
        have e0 : (0 : Int) ≤ (n' : Int) := by omega
        by_cases hsht : q1.length < n'
        · have d1 : decide (N < 1 + n') = true := by have := HP.out.2.1; simp; omega
          have d1' : decide ((N : Int) < 1 + (n' : Int)) = true := by have := HP.out.2.1; simp; omega
          have HNO := Lib.hid (fun x => pre_short hnm hsht x)
          clear hnm hsht hb1 hp1 c0 HC
          have v0 := HBK1.out.2.free 0
          have v1 := HBK1.out.2.free 1
          have v2 := HBK1.out.2.free 2
          have v3 := HBK1.out.2.free 3
          have v4 := HBK1.out.2.free 4
          have y0 := HBK1.out.2.get 0 (.int .u8 0) rfl
          have y1 := HBK1.out.2.get 1 (.int .u8 0) rfl
          have y2 := HBK1.out.2.get 2 (.int .u8 0) rfl
          have y3 := HBK1.out.2.get 3 (.int .u8 0) rfl
          have y4 := HBK1.out.2.get 4 (.int .i64 0) rfl
          go_wp2_with fail
          have hk5 : Blk b0 zR 23 _ := ((((HBK1.out.2.set 0 (.int .u8 0)).set 1 (.int .u8 0)).set 2 (.int .u8 0)).set 3 (.int .u8 0)).set 4 (.int .i64 0)
          refine bodyPost_ret (results_row2 rfl _ _ b0 23 zR (0, 0) _ rfl hk5 Tryd.underlying23 rfl info23) rfl ?_
          exact ⟨HBK1.out.1.trans (below5 (by have := HW0.out.2; omega) _ _ _ _ _), Or.inr ⟨HNO.out, rfl⟩⟩
        · have d1 : decide ((N : Int) < 1 + (n' : Int)) = false := by have := HP.out.2.1; simp; omega
          obtain ⟨rs, hrs⟩ : ∃ rs, rs = q1.take n' := ⟨_, rfl⟩
          obtain ⟨q2, hq2⟩ : ∃ q2, q2 = q1.drop n' := ⟨_, rfl⟩
          have hqq : q1 = rs ++ q2 := by rw [hrs, hq2, List.take_append_drop]
          have hrl : rs.length = n' := by rw [hrs, List.length_take]; omega
          have hbs := byt_app (show Byt (rs ++ q2) from by rw [← hqq]; exact HP.out.2.2.1)
          have hNq : N = 1 + n' + q2.length := by rw [HP.out.2.1, hqq, List.length_append, hrl]; omega
          have hN0 := hNq
          have hcp := HP.out.2.2.2.2.2
          obtain ⟨b', e1, hbl, c1⟩ := ByteZ.cell hp1 0 (by simp)
          cases e1
          simp only [List.getElem_cons_zero, add0] at c1
          obtain ⟨W2, hW2⟩ : ∃ W, W = w1.alloc (.cells #[B8 op, .int .u8 0, .int .u8 0, .int .u8 0, .int .i64 0] 23) := ⟨_, rfl⟩
          obtain ⟨bw, hbw⟩ : ∃ b, b = w1.heap.size := ⟨_, rfl⟩
          have hB2 : Below w1.heap.size w1 W2 := by rw [hW2]; exact (Below.refl _ _).alloc (Nat.le_refl _) _
          have kw : Blk bw #[B8 op, .int .u8 0, .int .u8 0, .int .u8 0, .int .i64 0] 23 W2 := by rw [hW2, hbw]; exact Blk.new _ _ _
          have hBw := HBK1.out.1.trans (show Below w.heap.size w1 W2 from ⟨hB2.os, hB2.tape, hB2.output, hB2.size, fun k hk => hB2.block k (by have := HBK1.out.1.size; omega)⟩)
          have HBK2 := Lib.hid (show Below w.heap.size w W2 ∧ Blk b0 zR 23 W2 from ⟨below_tr HBK1.out.1 hB2, HBK1.out.2.below hB2 HBK1.out.2.lt⟩)
          have hp2 := hp1.below byteV_stays hB2
          have H2 := Lib.hid (show Blk bw #[B8 op, .int .u8 0, .int .u8 0, .int .u8 0, .int .i64 0] 23 W2 ∧ w.heap.size ≤ bw ∧ b0 < bw ∧ ByteZ W2 (.slice (some b) N c) (op :: q1) from ⟨kw, by rw [hbw]; exact HBK1.out.1.size, by rw [hbw]; exact HBK1.out.2.lt, hp2⟩)
          have HQ := Lib.hid (show names op = some (n', im) ∧ q1 = rs ++ q2 ∧ rs.length = n' ∧ Byt rs ∧ Byt q2 ∧ N = 1 + n' + q2.length ∧ n' ≤ 3 ∧ N ≤ c ∧ N ≤ 140737488355327 from ⟨hnm, hqq, hrl, hbs.1, hbs.2, hNq, hn3, hcp, HP.out.2.2.2.2.1⟩)
          have HW2 := Lib.hid (And.intro hW2 hbw)
          have e1 : (1 : Int) + (n' : Int) ≤ (N : Int) := by omega
          have e2 : (N : Int) ≤ (c : Int) := by omega
          have e3 : (1 : Int) ≤ 1 + (n' : Int) := by omega
          clear hrs hq2 hqq hrl hbs hNq hN0 hcp hbl hW2 hbw hB2 kw hBw hp2 hp1 hb1 hn3 hnm hsht c0 HC
          go_upto_region 7 with (fail)
          rw [← HW2.out.2]
          change Code.wp _ _ _ _ (w1.alloc (.cells #[B8 op, .int .u8 0, .int .u8 0, .int .u8 0, .int .i64 0] 23))
          rw [← HW2.out.1]
          clear c1 d0 d1
          go_cut [7] from 39 to 46 (fun u W => (∃ g cg, u = .slice (some ⟨g, 0, none⟩) (n' + 3) cg ∧ n' + 3 ≤ cg ∧ bw < g) ∧ ByteZ W u (rs ++ [0, 0, 0]) ∧ Below w.heap.size w W ∧ Blk b0 zR 23 W ∧ Blk bw #[B8 op, .int .u8 0, .int .u8 0, .int .u8 0, .int .i64 0] 23 W)
          case first =>
            by_cases hc1 : c = 1
            · have hn0 : n' = 0 := by have := HQ.out.2.2.2.2.2.1; omega
              have hr0 : rs = [] := List.length_eq_zero_iff.1 (by rw [HQ.out.2.2.1, hn0])
              have HR0 := Lib.hid hr0
              subst hn0 hc1
              clear hr0
              go_wp2_with (at_builtin; refine Hid.out ?_)
              unfold Hid
              have hbA : Below W2.heap.size W2 (W2.alloc (.cells #[] 5)) := (Below.refl _ _).alloc (Nat.le_refl _) _
              have hpl' : SlS (LtW W2) 1 ByteV W2 (.slice (some b) 0 0) rs := by rw [HR0.out]; exact SlS.nil _ 0
              have hpl := HR0.out
              have hlr : rs.length ≤ 3 := by rw [HR0.out]; simp
              refine wpList_append_b rfl (.tmp 39) (.tmp 43) rfl w.heap.size (.slice (some ⟨W2.heap.size, 0, none⟩) 0 0) (.slice (some b) 0 0) 0 [] rfl ((Blk.new W2 #[] 5).owns HBK2.out.1.size (by decide) (by simp)) rfl rs _ (hpl'.below byteV_stays hbA) (Or.inl (by simp [Value.ownBlock])) (by omega) (by simp; have := HBK2.out.1.size; omega) ?_
              intro v1 w3 hown1 hgr1 hat1
              have hb3 : Below W2.heap.size W2 w3 := hbA.grown hgr1 hbA.size (fun k hk => by cases hk; exact Nat.le_refl _)
              have hbW : Below w.heap.size w w3 := below_tr HBK2.out.1 hb3
              have HA := Lib.hid (And.intro hown1 (And.intro hb3 (And.intro hbW (And.intro hlr (show ∀ k, v1.ownBlock = some k → W2.heap.size ≤ k from fun k hk => by
                rcases hat1 with h | h
                · rw [h] at hk; cases hk; exact Nat.le_refl _
                · rw [h] at hk; cases hk; simp)))))
              clear hown1 hgr1 hat1 hb3 hbW hpl hpl' hbA hlr
              go_wp2_with (at_builtin; refine Hid.out ?_)
              unfold Hid
              refine wpList_append_b rfl (.tmp 44) (.tmp 45) rfl w.heap.size v1 (.slice (some ⟨w3.heap.size, 0, none⟩) 3 3) (0 + rs.length) ([] ++ bys rs) rfl (HA.out.1.alloc _) rfl [0, 0, 0] _ (own_bytes (base := w.heap.size) (n := 3) ((Blk.new w3 #[B8 0, B8 0, B8 0] 5).owns HA.out.2.2.1.size (by decide) (by simp))) (Or.inr (by simp)) (by have := HA.out.2.2.2.1; simp; omega) (by simp; have := HA.out.2.2.1.size; omega) ?_
              intro v2 w4 hown2 hgr2 hat2
              have hb4 : Below W2.heap.size W2 w4 := (HA.out.2.1.alloc HA.out.2.1.size _).grown hgr2 (HA.out.2.1.alloc HA.out.2.1.size _).size (fun k hk => HA.out.2.2.2.2 k hk)
              have hown3 : w4.ownsRow w.heap.size 5 1 v2 (0 + 3) (bys (rs ++ [0, 0, 0])) := by
                rw [show bys (rs ++ [0, 0, 0]) = [] ++ bys rs ++ bys [0, 0, 0] from by simp, show 0 + 3 = 0 + rs.length + [0, 0, 0].length from by rw [HQ.out.2.2.1]; simp]
                exact hown2
              have hz := own_bytes hown3
              obtain ⟨g, cg, rfl⟩ : ∃ g cg, v2 = .slice (some ⟨g, 0, none⟩) (0 + 3) cg := by
                rcases own_slice hown3 with ⟨_, e2⟩ | h
                · omega
                · exact h
              have hg : bw < g := by
                have h1 := H2.out.1.lt
                rcases hat2 with h | h
                · have h2 := HA.out.2.2.2.2 g (by rw [← h]; rfl)
                  omega
                · have h2 : g = (w3.alloc (.cells #[B8 0, B8 0, B8 0] 5)).heap.size := by cases h; rfl
                  have h3 := HA.out.2.1.size
                  simp at h2
                  omega
              have FIN := Lib.hid (And.intro hz.cap (And.intro hg (And.intro hz (And.intro (below_tr HBK2.out.1 hb4) (And.intro (HBK2.out.2.below hb4 HBK2.out.2.lt) (H2.out.1.below hb4 H2.out.1.lt))))))
              clear hown2 hgr2 hat2 hb4 hown3 hz hg
              go_wp2_with fail
              go_meet
              case rel => exact ⟨⟨g, cg, rfl, FIN.out.1, FIN.out.2.1⟩, FIN.out.2.2⟩
            · go_wp2_with (at_builtin; refine Hid.out ?_)
              unfold Hid
              have hbA : Below W2.heap.size W2 (W2.alloc (.cells #[] 5)) := (Below.refl _ _).alloc (Nat.le_refl _) _
              have hpl := ByteZ.take (ByteZ.drop H2.out.2.2.2 1 (by simp)) n' (by rw [List.drop_one]; have := HQ.out.2.2.2.2.2.1; have := HP.out.2.1; simp; omega)
              rw [List.drop_one, List.tail_cons, HQ.out.2.1, List.take_left' HQ.out.2.2.1] at hpl
              have hpl' : SlS (LtW W2) 1 ByteV W2 (.slice (some (b.add 1)) (1 + n' - 1) (c - 1)) rs := by rw [show 1 + n' - 1 = n' by omega]; exact hpl
              have hlr : rs.length ≤ 3 := by have := HQ.out.2.2.1; have := HQ.out.2.2.2.2.2.2.1; omega
              refine wpList_append_b rfl (.tmp 39) (.tmp 43) rfl w.heap.size (.slice (some ⟨W2.heap.size, 0, none⟩) 0 0) (.slice (some (b.add 1)) (1 + n' - 1) (c - 1)) 0 [] rfl ((Blk.new W2 #[] 5).owns HBK2.out.1.size (by decide) (by simp)) rfl rs _ (hpl'.below byteV_stays hbA) (Or.inl (by simp [Value.ownBlock])) (by omega) (by simp; have := HBK2.out.1.size; omega) ?_
              intro v1 w3 hown1 hgr1 hat1
              have hb3 : Below W2.heap.size W2 w3 := hbA.grown hgr1 hbA.size (fun k hk => by cases hk; exact Nat.le_refl _)
              have hbW : Below w.heap.size w w3 := below_tr HBK2.out.1 hb3
              have HA := Lib.hid (And.intro hown1 (And.intro hb3 (And.intro hbW (And.intro hlr (show ∀ k, v1.ownBlock = some k → W2.heap.size ≤ k from fun k hk => by
                rcases hat1 with h | h
                · rw [h] at hk; cases hk; exact Nat.le_refl _
                · rw [h] at hk; cases hk; simp)))))
              clear hown1 hgr1 hat1 hb3 hbW hpl hpl' hbA hlr
              go_wp2_with (at_builtin; refine Hid.out ?_)
              unfold Hid
              refine wpList_append_b rfl (.tmp 44) (.tmp 45) rfl w.heap.size v1 (.slice (some ⟨w3.heap.size, 0, none⟩) 3 3) (0 + rs.length) ([] ++ bys rs) rfl (HA.out.1.alloc _) rfl [0, 0, 0] _ (own_bytes (base := w.heap.size) (n := 3) ((Blk.new w3 #[B8 0, B8 0, B8 0] 5).owns HA.out.2.2.1.size (by decide) (by simp))) (Or.inr (by simp)) (by have := HA.out.2.2.2.1; simp; omega) (by simp; have := HA.out.2.2.1.size; omega) ?_
              intro v2 w4 hown2 hgr2 hat2
              have hb4 : Below W2.heap.size W2 w4 := (HA.out.2.1.alloc HA.out.2.1.size _).grown hgr2 (HA.out.2.1.alloc HA.out.2.1.size _).size (fun k hk => HA.out.2.2.2.2 k hk)
              have hown3 : w4.ownsRow w.heap.size 5 1 v2 (n' + 3) (bys (rs ++ [0, 0, 0])) := by
                rw [show bys (rs ++ [0, 0, 0]) = [] ++ bys rs ++ bys [0, 0, 0] from by simp, show n' + 3 = 0 + rs.length + [0, 0, 0].length from by rw [HQ.out.2.2.1]; simp]
                exact hown2
              have hz := own_bytes hown3
              obtain ⟨g, cg, rfl⟩ : ∃ g cg, v2 = .slice (some ⟨g, 0, none⟩) (n' + 3) cg := by
                rcases own_slice hown3 with ⟨_, e2⟩ | h
                · omega
                · exact h
              have hg : bw < g := by
                have h1 := H2.out.1.lt
                rcases hat2 with h | h
                · have h2 := HA.out.2.2.2.2 g (by rw [← h]; rfl)
                  omega
                · have h2 : g = (w3.alloc (.cells #[B8 0, B8 0, B8 0] 5)).heap.size := by cases h; rfl
                  have h3 := HA.out.2.1.size
                  simp at h2
                  omega
              have FIN := Lib.hid (And.intro hz.cap (And.intro hg (And.intro hz (And.intro (below_tr HBK2.out.1 hb4) (And.intro (HBK2.out.2.below hb4 HBK2.out.2.lt) (H2.out.1.below hb4 H2.out.1.lt))))))
              clear hown2 hgr2 hat2 hb4 hown3 hz hg
              go_wp2_with fail
              go_meet
              case rel => exact ⟨⟨g, cg, rfl, FIN.out.1, FIN.out.2.1⟩, FIN.out.2.2⟩
          case rest =>
            obtain ⟨⟨g, cg, rfl, hcg, hg⟩, hz, hbW, hk0, hkw⟩ := hcut
            have hrl := HQ.out.2.2.1
            have hr3 := HQ.out.2.2.2.2.2.2.1
            have hget : ∀ i, i < 3 → wc.cell? ⟨g, i, none⟩ = some (B8 (rs.getD i 0)) := fun i hi => by
              obtain ⟨b', e9, _, h9⟩ := ByteZ.cell hz i (by simp; omega)
              cases e9
              have h8 : (⟨g, 0, none⟩ : Addr).add i = ⟨g, i, none⟩ := by simp [Addr.add]; try omega
              rw [h8] at h9
              rw [h9]
              congr 2
              rw [List.getD_eq_getElem?_getD]
              by_cases h7 : i < rs.length
              · rw [List.getElem_append_left h7, List.getElem?_eq_getElem h7]; rfl
              · rw [List.getElem_append_right (by omega), List.getElem?_eq_none (by omega)]
                have : i - rs.length = 0 ∨ i - rs.length = 1 ∨ i - rs.length = 2 := by omega
                rcases this with h6 | h6 | h6 <;> simp [h6]
            have c0 := hget 0 (by omega)
            have c1 := hget 1 (by omega)
            have c2 := hget 2 (by omega)
            obtain ⟨r0, hr0⟩ : ∃ r, r = rs.getD 0 0 := ⟨_, rfl⟩
            obtain ⟨r1, hr1⟩ : ∃ r, r = rs.getD 1 0 := ⟨_, rfl⟩
            obtain ⟨r2, hr2⟩ : ∃ r, r = rs.getD 2 0 := ⟨_, rfl⟩
            rw [← hr0] at c0
            rw [← hr1] at c1
            rw [← hr2] at c2
            obtain ⟨L, hL⟩ : ∃ L, L = n' + 3 := ⟨_, rfl⟩
            rw [← hL]
            have HR := Lib.hid (And.intro hr0 (And.intro hr1 hr2))
            have l0 : (2 : Int) < (L : Int) := by omega
            have l1 : (1 : Int) < (L : Int) := by omega
            have l2 : (0 : Int) < (L : Int) := by omega
            have y1 := hkw.get 1 (.int .u8 0) rfl
            have y2 := hkw.get 2 (.int .u8 0) rfl
            have y3 := hkw.get 3 (.int .u8 0) rfl
            have v1 := hkw.free 1
            have v2 := hkw.free 2
            have v3 := hkw.free 3
            have n1 : ¬ g = bw := by omega
            have n2 : ¬ bw = g := by omega
            have HG := Lib.hid (And.intro hbW (And.intro hk0 hkw))
            clear hz hbW hk0 hkw hget hr0 hr1 hr2 hL hcg hg hrl hr3
            go_upto_region 8 with (fail)
            go_cut [7] from 47 to 58 (fun u W => u = .slice (some ⟨g, 0, none⟩) L cg ∧ Below w.heap.size w W ∧ Blk b0 zR 23 W ∧ Blk bw (wB (cand op rs 0)) 23 W)
            case first =>
              go_region
              all_goals
                go_wp2_with fail
                go_meet
                case rel =>
                  have k3 := ((HG.out.2.2.set 1 (B8 r0)).set 2 (B8 r1)).set 3 (B8 r2)
                  refine ⟨rfl, below_drewN (below1 H2.out.2.1 (below1 H2.out.2.1 (below1 H2.out.2.1 HG.out.1 _) _) _) 1, ?_, ?_⟩
                  · have h9 : b0 ≠ bw := by have := H2.out.2.2.1; omega
                    exact (((HG.out.2.1.setOther h9 _ _).setOther h9 _ _).setOther h9 _ _).drewN 1
                  · have e9 : wB (cand op rs 0) = #[B8 op, B8 r0, B8 r1, B8 r2, I 0] := by unfold cand; rw [HR.out.1, HR.out.2.1, HR.out.2.2]
                    rw [e9]
                    exact k3.drewN 1
            case rest =>
              obtain ⟨rfl, hbW, hk0, hkw⟩ := hcut
              have HG2 := Lib.hid (And.intro hbW (And.intro hk0 hkw))
              clear HG hbW hk0 hkw c0 c1 c2 y1 y2 y3 v1 v2 v3 n1 n2 HBK1 HBK0 HP1
              go_upto_if 59 with (fail)
              go_cut [5] (fun u W => u = .bool im ∧ ∃ m, In64 m ∧ (∀ x, PreW (op :: q1) x → PreW (op :: q1) (cand op rs m)) ∧ Below w.heap.size w W ∧ Blk b0 zR 23 W ∧ Blk bw (wB (cand op rs m)) 23 W)
              case first =>
                cases im with
                | false =>
                  have FIN := Lib.hid (show ∃ m, In64 m ∧ (∀ x, PreW (op :: q1) x → PreW (op :: q1) (cand op rs m)) ∧ Below w.heap.size w wc ∧ Blk b0 zR 23 wc ∧ Blk bw (wB (cand op rs m)) 23 wc from
                    ⟨0, by unfold In64; omega, fun x hx => by rw [HQ.out.2.1] at hx ⊢; exact cand_plain HQ.out.1 HQ.out.2.2.1 x hx, HG2.out.1, HG2.out.2.1, HG2.out.2.2⟩)
                  go_wp2_with fail
                  go_meet
                  case rel => exact ⟨rfl, FIN.out⟩
                | true =>
                  have hpp := HPP.out.below byteV_stays HG2.out.1
                  cases q2 with
                  | nil =>
                    have HN1 := Lib.hid (show N = 1 + n' by have := HQ.out.2.2.2.2.2.1; simpa using this)
                    have HNO := Lib.hid (fun x hx => by
                      rw [HQ.out.2.1] at hx
                      exact not_pre_nil HQ.out.1 HQ.out.2.2.1 x hx : ∀ x, ¬ PreW (op :: q1) x)
                    have HGN := Lib.hid (And.intro HG2.out.1 HG2.out.2.1)
                    clear hpp
                    by_cases hcn : c = 1 + n'
                    · go_upto_region 11 with (fail)
                      rw [show N - (1 + n') = 0 from by have := HN1.out; omega]
                      have v0 := HGN.out.2.free 0
                      have v1 := HGN.out.2.free 1
                      have v2 := HGN.out.2.free 2
                      have v3 := HGN.out.2.free 3
                      have v4 := HGN.out.2.free 4
                      have y0 := HGN.out.2.get 0 (.int .u8 0) rfl
                      have y1 := HGN.out.2.get 1 (.int .u8 0) rfl
                      have y2 := HGN.out.2.get 2 (.int .u8 0) rfl
                      have y3 := HGN.out.2.get 3 (.int .u8 0) rfl
                      have y4 := HGN.out.2.get 4 (.int .i64 0) rfl
                      go_wp2_with fail
                      have hk5 : Blk b0 zR 23 _ := ((((HGN.out.2.set 0 (.int .u8 0)).set 1 (.int .u8 0)).set 2 (.int .u8 0)).set 3 (.int .u8 0)).set 4 (.int .i64 0)
                      refine bodyPost_ret (results_row2 rfl _ _ b0 23 zR (0, 0) _ rfl hk5 Tryd.underlying23 rfl info23) rfl ?_
                      exact ⟨HGN.out.1.trans (below5 (by have := HW0.out.2; omega) _ _ _ _ _), Or.inr ⟨HNO.out, rfl⟩⟩
                    · go_upto_region 11 with (fail)
                      rw [show N - (1 + n') = 0 from by have := HN1.out; omega]
                      have v0 := HGN.out.2.free 0
                      have v1 := HGN.out.2.free 1
                      have v2 := HGN.out.2.free 2
                      have v3 := HGN.out.2.free 3
                      have v4 := HGN.out.2.free 4
                      have y0 := HGN.out.2.get 0 (.int .u8 0) rfl
                      have y1 := HGN.out.2.get 1 (.int .u8 0) rfl
                      have y2 := HGN.out.2.get 2 (.int .u8 0) rfl
                      have y3 := HGN.out.2.get 3 (.int .u8 0) rfl
                      have y4 := HGN.out.2.get 4 (.int .i64 0) rfl
                      go_wp2_with fail
                      have hk5 : Blk b0 zR 23 _ := ((((HGN.out.2.set 0 (.int .u8 0)).set 1 (.int .u8 0)).set 2 (.int .u8 0)).set 3 (.int .u8 0)).set 4 (.int .i64 0)
                      refine bodyPost_ret (results_row2 rfl _ _ b0 23 zR (0, 0) _ rfl hk5 Tryd.underlying23 rfl info23) rfl ?_
                      exact ⟨HGN.out.1.trans (below5 (by have := HW0.out.2; omega) _ _ _ _ _), Or.inr ⟨HNO.out, rfl⟩⟩
                  | cons k q3 =>
                    obtain ⟨M2, hM2⟩ : ∃ M, M = N - (1 + n') := ⟨_, rfl⟩
                    obtain ⟨b2, hb2⟩ : ∃ x, x = b.add (1 + n') := ⟨_, rfl⟩
                    have hM3 : M2 = q3.length + 1 := by have := HQ.out.2.2.2.2.2.1; simp at this; omega
                    have hcn : ¬ c = 1 + n' := by have := HQ.out.2.2.2.2.2.1; have h5 := HQ.out.2.2.2.2.2.2.2.1; rw [List.length_cons] at this; omega
                    have hdr := ByteZ.drop hpp (1 + n') (by have := HP.out.2.1; simp; omega)
                    rw [← hM2, ← hb2, show (op :: q1).drop (1 + n') = k :: q3 from by rw [Nat.add_comm, List.drop_succ_cons, HQ.out.2.1, List.drop_left' HQ.out.2.2.1]] at hdr
                    obtain ⟨b', e7, _, c0⟩ := ByteZ.cell hdr 0 (by simp)
                    cases e7
                    simp only [List.getElem_cons_zero, add0] at c0
                    have HD := Lib.hid (And.intro hdr hM3)
                    have HGN := Lib.hid (And.intro HG2.out.1 HG2.out.2.1)
                    have dz : ((M2 : Int) == 0) = false := by simp; omega
                    have dz1 : (0 : Int) < (M2 : Int) := by omega
                    have dz2 : (M2 : Int) ≤ 140737488355327 := by have := HQ.out.2.2.2.2.2.2.2.2; omega
                    have hk8' : k < 256 := HQ.out.2.2.2.2.1 k (by simp)
                    have dk0 : (0 : Int) ≤ (k : Int) := by omega
                    have dk1 : (k : Int) < 256 := by omega
                    clear hpp hM3 hdr hk8'
                    go_upto_region 11 with (fail)
                    rw [← hM2]
                    change Code.wp _ _ _ { tmps := _, defers := _ } _
                    rw [← hb2]
                    clear hM2 hb2
                    by_cases h8 : 8 < k
                    · have d8 : decide ((8 : Int) < (k : Int)) = true := by simp; omega
                      have HNO := Lib.hid (fun x hx => by
                        rw [HQ.out.2.1] at hx
                        exact not_pre_len HQ.out.1 HQ.out.2.2.1 (Or.inl h8) x hx : ∀ x, ¬ PreW (op :: q1) x)
                      clear h8
                      have v0 := HGN.out.2.free 0
                      have v1 := HGN.out.2.free 1
                      have v2 := HGN.out.2.free 2
                      have v3 := HGN.out.2.free 3
                      have v4 := HGN.out.2.free 4
                      have y0 := HGN.out.2.get 0 (.int .u8 0) rfl
                      have y1 := HGN.out.2.get 1 (.int .u8 0) rfl
                      have y2 := HGN.out.2.get 2 (.int .u8 0) rfl
                      have y3 := HGN.out.2.get 3 (.int .u8 0) rfl
                      have y4 := HGN.out.2.get 4 (.int .i64 0) rfl
                      go_wp2_with fail
                      have hk5 : Blk b0 zR 23 _ := ((((HGN.out.2.set 0 (.int .u8 0)).set 1 (.int .u8 0)).set 2 (.int .u8 0)).set 3 (.int .u8 0)).set 4 (.int .i64 0)
                      refine bodyPost_ret (results_row2 rfl _ _ b0 23 zR (0, 0) _ rfl hk5 Tryd.underlying23 rfl info23) rfl ?_
                      exact ⟨HGN.out.1.trans (below5 (by have := HW0.out.2; omega) _ _ _ _ _), Or.inr ⟨HNO.out, rfl⟩⟩
                    · have d8 : decide ((8 : Int) < (k : Int)) = false := by simp; omega
                      by_cases hlk : q3.length < k
                      · have d9 : decide ((M2 : Int) < 1 + (k : Int)) = true := by have := HD.out.2; simp; omega
                        have HNO := Lib.hid (fun x hx => by
                          rw [HQ.out.2.1] at hx
                          exact not_pre_len HQ.out.1 HQ.out.2.2.1 (Or.inr hlk) x hx : ∀ x, ¬ PreW (op :: q1) x)
                        clear h8 hlk
                        have v0 := HGN.out.2.free 0
                        have v1 := HGN.out.2.free 1
                        have v2 := HGN.out.2.free 2
                        have v3 := HGN.out.2.free 3
                        have v4 := HGN.out.2.free 4
                        have y0 := HGN.out.2.get 0 (.int .u8 0) rfl
                        have y1 := HGN.out.2.get 1 (.int .u8 0) rfl
                        have y2 := HGN.out.2.get 2 (.int .u8 0) rfl
                        have y3 := HGN.out.2.get 3 (.int .u8 0) rfl
                        have y4 := HGN.out.2.get 4 (.int .i64 0) rfl
                        go_wp2_with fail
                        have hk5 : Blk b0 zR 23 _ := ((((HGN.out.2.set 0 (.int .u8 0)).set 1 (.int .u8 0)).set 2 (.int .u8 0)).set 3 (.int .u8 0)).set 4 (.int .i64 0)
                        refine bodyPost_ret (results_row2 rfl _ _ b0 23 zR (0, 0) _ rfl hk5 Tryd.underlying23 rfl info23) rfl ?_
                        exact ⟨HGN.out.1.trans (below5 (by have := HW0.out.2; omega) _ _ _ _ _), Or.inr ⟨HNO.out, rfl⟩⟩
                      · have d9 : decide ((M2 : Int) < 1 + (k : Int)) = false := by have := HD.out.2; simp; omega
                        obtain ⟨l, hl⟩ : ∃ l, l = q3.take k := ⟨_, rfl⟩
                        have hlg : ∀ j, j < k → l[j]? = q3[j]? := fun j hj => by rw [hl, List.getElem?_take, if_pos hj]
                        have hll : l.length = k := by rw [hl, List.length_take]; omega
                        have hlb : Byt l := fun z hz => HQ.out.2.2.2.2.1 z (by rw [hl] at hz; exact List.mem_cons_of_mem _ (List.mem_of_mem_take hz))
                        have hspl : SplN (k :: q3) l (q3.drop k) := ⟨by rw [hll, hl, List.take_append_drop], by omega⟩
                        have hcell : ∀ i, 1 ≤ i → i ≤ k → wc.cell? (b2.add i) = some (B8 (l.getD (i - 1) 0)) := fun i h1 h2 => by
                          obtain ⟨b', e6, _, h6⟩ := ByteZ.cell HD.out.1 i (by simp; omega)
                          cases e6
                          rw [h6]
                          congr 2
                          obtain ⟨j, rfl⟩ : ∃ j, i = j + 1 := ⟨i - 1, by omega⟩
                          rw [List.getD_eq_getElem?_getD, Nat.add_sub_cancel, hlg j (by omega), List.getElem?_eq_getElem (show j < q3.length by omega)]
                          rfl
                        have HL := Lib.hid (And.intro hll (And.intro hlb (And.intro hspl (And.intro hcell (show k ≤ 8 by omega)))))
                        have dk8 : (k : Int) ≤ 8 := by omega
                        have dkM : (k : Int) < (M2 : Int) := by have := HD.out.2; omega
                        clear hl hll hlb hspl hcell hlg h8 hlk
                        go_wp2_with fail
                        go_loopw [10, 11] (fun vv iv W => ∃ i : Nat, i ≤ k ∧ iv = I (i : Int) ∧ vv = .int .u64 (val (l.drop i) : Int) ∧ W = wc) (fun _ iv _ => (intOf iv).toNat)
                        case atStart => exact ⟨k, Nat.le_refl _, rfl, by rw [show l.drop k = [] from by rw [← HL.out.1, List.drop_length]]; rfl, rfl⟩
                        case round =>
                          obtain ⟨i, hik, rfl, rfl, rfl⟩ := hrel
                          by_cases hi : 1 ≤ i
                          · have d0 : decide ((1 : Int) ≤ (i : Int)) = true := by simp; omega
                            have c5 := HL.out.2.2.2.1 i hi hik
                            have hxb : l.getD (i - 1) 0 < 256 := getD_byt HL.out.2.1 _
                            have hV0 := val_drop_lt HL.out.2.1 i
                            have hV1 := Nat.pow_le_pow_right (show 0 < 256 by decide) (show l.length - i ≤ 7 by have := HL.out.1; have := HL.out.2.2.2.2; omega)
                            rw [show (256 : Nat) ^ 7 = 72057594037927936 by decide] at hV1
                            have hvd := val_drop (l := l) (i := i - 1) (by have := HL.out.1; omega)
                            rw [show i - 1 + 1 = i by omega] at hvd
                            obtain ⟨x, hx⟩ : ∃ x, x = l.getD (i - 1) 0 := ⟨_, rfl⟩
                            obtain ⟨V, hV⟩ : ∃ V, V = val (l.drop i) := ⟨_, rfl⟩
                            rw [← hx] at c5 hxb hvd
                            rw [← hV] at hV0 hvd ⊢
                            have di0 : (1 : Int) ≤ (i : Int) := by omega
                            have di1 : (i : Int) < (M2 : Int) := by omega
                            have di2 : (i : Int) ≤ 8 := by omega
                            have dx0 : (0 : Int) ≤ (x : Int) := by omega
                            have dx1 : (x : Int) < 256 := by omega
                            have dV0 : (0 : Int) ≤ (V : Int) := by omega
                            have dV1 : (V : Int) < 72057594037927936 := by omega
                            have HI := Lib.hid (And.intro hi (And.intro hik hvd))
                            clear hi hik hvd hV0 hV1 hxb hx hV
                            go_wp2_with fail
                            refine ⟨⟨i - 1, by have := HI.out.2.1; omega, by rw [show ((i - 1 : Nat) : Int) = (i : Int) - 1 from by have := HI.out.1; omega], by rw [HI.out.2.2, Int.add_comm]; simp, trivial⟩, by have := HI.out.1; simp [intOf]; omega⟩
                          · have d0 : decide ((1 : Int) ≤ (i : Int)) = false := by simp; omega
                            obtain rfl : i = 0 := by omega
                            rw [List.drop_zero]
                            have hvl := val_lt l HL.out.2.1
                            have hvp := pow_le8 (show l.length ≤ 8 by have := HL.out.1; have := HL.out.2.2.2.2; omega)
                            obtain ⟨V, hV⟩ : ∃ V, V = val l := ⟨_, rfl⟩
                            rw [← hV] at hvl ⊢
                            have dV0 : (0 : Int) ≤ (V : Int) := by omega
                            have HV := Lib.hid hV
                            have x0 := HG2.out.2.2.get 0 (B8 op) rfl
                            have x4 := HG2.out.2.2.get 4 (I 0) rfl
                            have v4 := HG2.out.2.2.free 4
                            have FR := Lib.hid (show ∀ (z v : Int), Ib.wrap64 z = Ib.wrap64 (numD (op == 30) l) → v = RowKit.wrap64 z → ∃ m, In64 m ∧ (∀ x, PreW (op :: q1) x → PreW (op :: q1) (cand op rs m)) ∧ Below w.heap.size w (wr.setCell ⟨bw, 4, none⟩ (I v)) ∧ Blk b0 zR 23 (wr.setCell ⟨bw, 4, none⟩ (I v)) ∧ Blk bw (wB (cand op rs m)) 23 (wr.setCell ⟨bw, 4, none⟩ (I v)) from fun z v hz hv => by
                              have hv2 : v = Ib.wrap64 (numD (op == 30) l) := by rw [hv, ← hz, wrap_two]
                              refine ⟨v, by rw [hv2]; exact wrap64_in _, fun x hx => ?_, below1 H2.out.2.1 HG2.out.1 _, HG2.out.2.1.setOther (by have := H2.out.2.2.1; omega) _ _, HG2.out.2.2.set 4 (I v)⟩
                              rw [HQ.out.2.1] at hx ⊢
                              exact cand_num HQ.out.1 HQ.out.2.2.1 HL.out.2.2.1 HL.out.2.1 hv2 x hx)
                            have dop0 : (0 : Int) ≤ (op : Int) := by omega
                            clear hvl hvp hV hi hik dz2 dk1 dk8 d8 d9 dz dz1 d0
                            by_cases a1 : op = 30
                            · subst a1
                              by_cases a2 : 0 < k
                              · have b2 : decide (0 < k) = true := by simp; omega
                                by_cases a3 : k < 8
                                · have b3 : decide ((k : Int) < 8) = true := by simp; omega
                                  have c5 := HL.out.2.2.2.1 k (by omega) (Nat.le_refl _)
                                  obtain ⟨x, hx⟩ : ∃ x, x = l.getD (k - 1) 0 := ⟨_, rfl⟩
                                  rw [← hx] at c5
                                  have hxl : l.getLastD 0 = x := by rw [last_getD (by have := HL.out.1; omega), HL.out.1, hx]
                                  by_cases a4 : 127 < x
                                  · have b4 : decide ((127 : Int) < (x : Int)) = true := by simp; omega
                                    have hext : Ib.wrap64 (ext l 8 : Nat) = Ib.wrap64 (numD ((30 : Nat) == 30) l) := by
                                      rw [show ((30 : Nat) == 30) = true from rfl]
                                      exact wrap_ext (by have := HL.out.1; omega) (fun e => by have := HL.out.1; rw [e] at this; simp at this; omega) (by rw [hxl]; omega)
                                    have HM := Lib.hid (And.intro hext a3)
                                    clear hx hxl a2 a3 a4 hext
                                    go_wp2_with fail
                                    go_loopw [10, 12] (fun vv iv W => ∃ i : Nat, k ≤ i ∧ i ≤ 8 ∧ iv = I (i : Int) ∧ vv = .int .u64 ((ext l i : Nat) : Int) ∧ W = wr) (fun _ iv _ => 8 - (intOf iv).toNat)
                                    case atStart => exact ⟨k, Nat.le_refl _, by have := HM.out.2; omega, rfl, by rw [HV.out, ← HL.out.1, ext_self], rfl⟩
                                    case round =>
                                      obtain ⟨i, hki, hi8, rfl, rfl, rfl⟩ := hrel
                                      by_cases hi : i < 8
                                      · have d5 : decide ((i : Int) < 8) = true := by simp; omega
                                        have hs1 := ext_succ (l := l) (i := i) (by rw [HL.out.1]; exact hki)
                                        have hlt := ext_lt HL.out.2.1 (i := i + 1) (by rw [HL.out.1]; omega) (by omega)
                                        have hsh := shl_pow hi
                                        obtain ⟨V2, hV2⟩ : ∃ V, V = ext l i := ⟨_, rfl⟩
                                        rw [← hV2] at hs1 ⊢
                                        have HI := Lib.hid (And.intro hs1 (And.intro hlt (And.intro hsh (And.intro hi hki))))
                                        have di0 : (0 : Int) ≤ (i : Int) := by omega
                                        have di1 : (i : Int) < 8 := by omega
                                        clear hs1 hlt hsh hi hki hV2 hi8
                                        go_wp2_with fail
                                        refine ⟨⟨i + 1, by have := HI.out.2.2.2.2; omega, by have := HI.out.2.2.2.1; omega, rfl, ?_, trivial⟩, by have := HI.out.2.2.2.1; simp [intOf]; omega⟩
                                        rw [HI.out.2.2.1, HI.out.1]
                                        have h7 := HI.out.2.1
                                        rw [HI.out.1] at h7
                                        rw [show (V2 : Int) + ((255 * 256 ^ i : Nat) : Int) = ((V2 + 255 * 256 ^ i : Nat) : Int) from by simp]
                                        rw [u64_wrap_id _ (by omega) (by omega)]
                                      · have d5 : decide ((i : Int) < 8) = false := by simp; omega
                                        obtain rfl : i = 8 := by omega
                                        obtain ⟨V2, hV2⟩ : ∃ V, V = ext l 8 := ⟨_, rfl⟩
                                        rw [← hV2] at HM ⊢
                                        clear hki hi8 hi hV2
                                        go_wp2_with fail
                                        go_meet
                                        case rel =>
                                          exact ⟨rfl, FR.out (V2 : Int) _ HM.out.1 rfl⟩
                                  · have b4 : decide ((127 : Int) < (x : Int)) = false := by simp; omega
                                    have hno : ¬ ((30 : Nat) = 30 ∧ 0 < l.length ∧ l.length < 8 ∧ 127 < l.getLastD 0) := by rw [hxl]; omega
                                    clear hx hxl a2 a3 a4
                                    have hmm : Ib.wrap64 (val l : Nat) = Ib.wrap64 (numD ((30 : Nat) == 30) l) := wrap_val (by have := HL.out.1; have := HL.out.2.2.2.2; omega) hno
                                    have HM := Lib.hid hmm
                                    clear hmm hno
                                    go_wp2_with fail
                                    go_meet
                                    case rel =>
                                      exact ⟨rfl, FR.out (V : Int) _ (by have h := HM.out; rw [← HV.out] at h; exact h) rfl⟩
                                · have b3 : decide ((k : Int) < 8) = false := by simp; omega
                                  have hno : ¬ ((30 : Nat) = 30 ∧ 0 < l.length ∧ l.length < 8 ∧ 127 < l.getLastD 0) := by rw [HL.out.1]; omega
                                  clear a2 a3
                                  have hmm : Ib.wrap64 (val l : Nat) = Ib.wrap64 (numD ((30 : Nat) == 30) l) := wrap_val (by have := HL.out.1; have := HL.out.2.2.2.2; omega) hno
                                  have HM := Lib.hid hmm
                                  clear hmm hno
                                  go_wp2_with fail
                                  go_meet
                                  case rel =>
                                    exact ⟨rfl, FR.out (V : Int) _ (by have h := HM.out; rw [← HV.out] at h; exact h) rfl⟩
                              · have b2 : decide (0 < k) = false := by simp; omega
                                have hno : ¬ ((30 : Nat) = 30 ∧ 0 < l.length ∧ l.length < 8 ∧ 127 < l.getLastD 0) := by rw [HL.out.1]; omega
                                clear a2
                                have hmm : Ib.wrap64 (val l : Nat) = Ib.wrap64 (numD ((30 : Nat) == 30) l) := wrap_val (by have := HL.out.1; have := HL.out.2.2.2.2; omega) hno
                                have HM := Lib.hid hmm
                                clear hmm hno
                                go_wp2_with fail
                                go_meet
                                case rel =>
                                  exact ⟨rfl, FR.out (V : Int) _ (by have h := HM.out; rw [← HV.out] at h; exact h) rfl⟩
                            · have b1 : ((op : Int) == 30) = false := by simp; omega
                              have hno : ¬ (op = 30 ∧ 0 < l.length ∧ l.length < 8 ∧ 127 < l.getLastD 0) := by rw [HL.out.1]; omega
                              clear a1
                              have hmm : Ib.wrap64 (val l : Nat) = Ib.wrap64 (numD (op == 30) l) := wrap_val (by have := HL.out.1; have := HL.out.2.2.2.2; omega) hno
                              have HM := Lib.hid hmm
                              clear hmm hno
                              go_wp2_with fail
                              go_meet
                              case rel =>
                                exact ⟨rfl, FR.out (V : Int) _ (by have h := HM.out; rw [← HV.out] at h; exact h) rfl⟩
              case rest =>
                obtain ⟨rfl, m, hin, hall, hbW, hk0, hkw⟩ := hcut
                have hwf := cand_wf HP.out.2.2.2.1 HQ.out.2.2.2.1 hin
                obtain ⟨y, hy⟩ : ∃ y, y = cand op rs m := ⟨_, rfl⟩
                rw [← hy] at hall hkw hwf
                obtain ⟨yo, ya, yb, yc, yi⟩ := y
                obtain ⟨x0, x1, x2, x3, x4⟩ := fv_of hkw
                have HF := Lib.hid (refForm_any ⟨yo, ya, yb, yc, yi⟩ hwf wc)
                have HY := Lib.hid (And.intro hall (And.intro hwf (And.intro hbW (And.intro hk0 hkw))))
                clear hall hwf hbW hk0 hkw hin hy HG2 HR HBK2
                go_wp2_with fail
                refine HF.out.mono ?_
                rintro e w2 ⟨fb, rfl, hfb, hb2⟩
                have k2 := HY.out.2.2.2.2.below hb2 HY.out.2.2.2.2.lt
                clear x0 x1 x2 x3 x4 HF
                obtain ⟨x0, x1, x2, x3, x4⟩ := fv_of k2
                have HY2 := Lib.hid (show Below w.heap.size w w2 ∧ Blk b0 zR 23 w2 from ⟨below_tr HY.out.2.2.1 hb2, HY.out.2.2.2.1.below hb2 HY.out.2.2.2.1.lt⟩)
                have K2 := Lib.hid k2
                clear k2 hb2
                cases fb with
                | false =>
                  have HNO := Lib.hid (fun x hx => absurd (hfb.2 (HY.out.1 x hx).1) (by simp) : ∀ x, ¬ PreW (op :: q1) x)
                  clear hfb
                  have v0 := HY2.out.2.free 0
                  have v1 := HY2.out.2.free 1
                  have v2 := HY2.out.2.free 2
                  have v3 := HY2.out.2.free 3
                  have v4 := HY2.out.2.free 4
                  have y0 := HY2.out.2.get 0 (.int .u8 0) rfl
                  have y1 := HY2.out.2.get 1 (.int .u8 0) rfl
                  have y2 := HY2.out.2.get 2 (.int .u8 0) rfl
                  have y3 := HY2.out.2.get 3 (.int .u8 0) rfl
                  have y4 := HY2.out.2.get 4 (.int .i64 0) rfl
                  go_wp2_with fail
                  have hk5 : Blk b0 zR 23 _ := ((((HY2.out.2.set 0 (.int .u8 0)).set 1 (.int .u8 0)).set 2 (.int .u8 0)).set 3 (.int .u8 0)).set 4 (.int .i64 0)
                  refine bodyPost_ret (results_row2 rfl _ _ b0 23 zR (0, 0) _ rfl hk5 Tryd.underlying23 rfl info23) rfl ?_
                  exact ⟨HY2.out.1.trans (below5 (by have := HW0.out.2; omega) _ _ _ _ _), Or.inr ⟨HNO.out, rfl⟩⟩
                | true =>
                  have hF := hfb.1 rfl
                  have HE := Lib.hid (refEncode_any ⟨yo, ya, yb, yc, yi⟩ HY.out.2.1 hF w2)
                  have HFF := Lib.hid hF
                  clear hfb hF
                  go_wp2_with fail
                  refine HE.out.mono ?_
                  rintro e w3 ⟨v3, rfl, hown3, hb3⟩
                  have hz3 := own_bytes hown3
                  have hbE := encW_byt HY.out.2.1
                  obtain ⟨E, hE⟩ : ∃ E, E = encW ⟨yo, ya, yb, yc, yi⟩ := ⟨_, rfl⟩
                  have hE20 : E.length ≤ 20 := by rw [hE]; exact encW_len HY.out.2.1
                  rw [← hE] at hz3 hbE
                  obtain ⟨va, vc, rfl⟩ := hz3.size
                  obtain ⟨M, hM⟩ : ∃ M, M = E.length := ⟨_, rfl⟩
                  have k3 := K2.out.below hb3 K2.out.lt
                  have HY3 := Lib.hid (show Below w.heap.size w w3 ∧ Blk b0 zR 23 w3 from ⟨below_tr HY2.out.1 hb3, HY2.out.2.below hb3 HY2.out.2.lt⟩)
                  have K3 := Lib.hid k3
                  rw [← hM] at hz3 hE20 ⊢
                  have hpp3 := HPP.out.below byteV_stays HY3.out.1
                  have HE3 := Lib.hid (And.intro hE (And.intro hM (And.intro hbE hz3)))
                  have m0 : (0 : Int) ≤ (M : Int) := by omega
                  have m1 : (M : Int) ≤ 20 := by omega
                  clear x0 x1 x2 x3 x4 hown3 hb3 hE HE
                  by_cases hle : N < M
                  · have d1 : decide (N < M) = true := by simpa using hle
                    have HNO := Lib.hid (fun x hx => by
                      have h1 := (HY.out.1 x hx).2.length_le
                      rw [← HE3.out.1, ← HE3.out.2.1, List.length_cons, ← HP.out.2.1] at h1
                      omega : ∀ x, ¬ PreW (op :: q1) x)
                    clear hle hz3 hpp3 hbE hM k3
                    go_upto_region 28 with (fail)
                    go_quiet (fail)
                    obtain ⟨W4, hW4⟩ : ∃ W, W = w3.drewN nq := ⟨_, rfl⟩
                    change Exit.then _ _ _ _ (w3.drewN nq)
                    rw [← hW4]
                    have HY4 := Lib.hid (show Below w.heap.size w W4 ∧ Blk b0 zR 23 W4 from by rw [hW4]; exact ⟨below_drewN HY3.out.1 _, HY3.out.2.drewN _⟩)
                    clear hW4
                    have v0 := HY4.out.2.free 0
                    have v1 := HY4.out.2.free 1
                    have v2 := HY4.out.2.free 2
                    have v3 := HY4.out.2.free 3
                    have v4 := HY4.out.2.free 4
                    have y0 := HY4.out.2.get 0 (.int .u8 0) rfl
                    have y1 := HY4.out.2.get 1 (.int .u8 0) rfl
                    have y2 := HY4.out.2.get 2 (.int .u8 0) rfl
                    have y3 := HY4.out.2.get 3 (.int .u8 0) rfl
                    have y4 := HY4.out.2.get 4 (.int .i64 0) rfl
                    go_wp2_with fail
                    have hk5 : Blk b0 zR 23 _ := ((((HY4.out.2.set 0 (.int .u8 0)).set 1 (.int .u8 0)).set 2 (.int .u8 0)).set 3 (.int .u8 0)).set 4 (.int .i64 0)
                    refine bodyPost_ret (results_row2 rfl _ _ b0 23 zR (0, 0) _ rfl hk5 Tryd.underlying23 rfl info23) rfl ?_
                    exact ⟨HY4.out.1.trans (below5 (by have := HW0.out.2; omega) _ _ _ _ _), Or.inr ⟨HNO.out, rfl⟩⟩
                  · have d1 : decide (N < M) = false := by simpa using hle
                    have hcapN := HQ.out.2.2.2.2.2.2.2.1
                    have m2 : (M : Int) ≤ (N : Int) := by omega
                    have m3 : (M : Int) ≤ (c : Int) := by omega
                    have hpt := ByteZ.take hpp3 M (by have := HP.out.2.1; simp; omega)
                    obtain ⟨S1, hS1⟩ : ∃ S, S = strOfNums (numsB ((op :: q1).take M)) := ⟨_, rfl⟩
                    obtain ⟨S2, hS2⟩ : ∃ S, S = strOfNums (numsB E) := ⟨_, rfl⟩
                    have t0 : ∀ k, (convert 24 9 (.slice (some b) M c)).run Tryd.prog (w3.drewN k) = .ok (.string S1) (w3.drewN k) := fun k => by
                      rw [hS1]; exact conv_bytes (hpt.below byteV_stays (below_drewN (Below.refl _ _) k))
                    have t1 : ∀ k, (convert 24 9 (.slice va M vc)).run Tryd.prog (w3.drewN k) = .ok (.string S2) (w3.drewN k) := fun k => by
                      rw [hS2]; exact conv_bytes (hz3.below byteV_stays (below_drewN (Below.refl _ _) k))
                    have hiff : (S1.toList == S2.toList) = decide ((op :: q1).take M = E) := by
                      rw [hS1, hS2, Lib.strOfNums_toList, Lib.strOfNums_toList, Bool.eq_iff_iff]
                      simp only [beq_iff_eq, decide_eq_true_eq]
                      exact ⟨nums_inj (fun z hz => by
                        have h1 := List.mem_of_mem_take hz
                        rcases List.mem_cons.1 h1 with h | h
                        · rw [h]; exact HP.out.2.2.2.1
                        · exact HP.out.2.2.1 z h) hbE, fun e => by rw [e]⟩
                    by_cases hpe : (op :: q1).take M = E
                    · rw [decide_eq_true hpe] at hiff
                      have HPR := Lib.hid (show PreW (op :: q1) ⟨yo, ya, yb, yc, yi⟩ from ⟨HFF.out, by rw [← HE3.out.1, ← hpe]; exact List.take_prefix _ _⟩)
                      clear hle hz3 hpp3 hbE hM k3 hpt hS1 hS2 hpe hcapN
                      go_upto_region 28 with (fail)
                      go_quiet (fail)
                      obtain ⟨W4, hW4⟩ : ∃ W, W = w3.drewN nq := ⟨_, rfl⟩
                      change Exit.then _ _ _ _ (w3.drewN nq)
                      rw [← hW4]
                      have HY4 := Lib.hid (show Below w.heap.size w W4 ∧ Blk b0 zR 23 W4 ∧ Blk bw (wB ⟨yo, ya, yb, yc, yi⟩) 23 W4 from by rw [hW4]; exact ⟨below_drewN HY3.out.1 _, HY3.out.2.drewN _, K3.out.drewN _⟩)
                      clear hW4 t0 t1
                      obtain ⟨x0, x1, x2, x3, x4⟩ := fv_of HY4.out.2.2
                      have v0 := HY4.out.2.1.free 0
                      have v1 := HY4.out.2.1.free 1
                      have v2 := HY4.out.2.1.free 2
                      have v3 := HY4.out.2.1.free 3
                      have v4 := HY4.out.2.1.free 4
                      have y0 := HY4.out.2.1.get 0 (.int .u8 0) rfl
                      have y1 := HY4.out.2.1.get 1 (.int .u8 0) rfl
                      have y2 := HY4.out.2.1.get 2 (.int .u8 0) rfl
                      have y3 := HY4.out.2.1.get 3 (.int .u8 0) rfl
                      have y4 := HY4.out.2.1.get 4 (.int .i64 0) rfl
                      go_wp2_with fail
                      have hk5 : Blk b0 (wB ⟨yo, ya, yb, yc, yi⟩) 23 _ := ((((HY4.out.2.1.set 0 (B8 yo)).set 1 (B8 ya)).set 2 (B8 yb)).set 3 (B8 yc)).set 4 (I yi)
                      refine bodyPost_ret (results_row2 rfl _ _ b0 23 (wB ⟨yo, ya, yb, yc, yi⟩) (0, 0) _ rfl hk5 Tryd.underlying23 rfl info23) rfl ?_
                      exact ⟨HY4.out.1.trans (below5 (by have := HW0.out.2; omega) _ _ _ _ _), Or.inl ⟨⟨yo, ya, yb, yc, yi⟩, HPR.out, by rw [← HE3.out.1, ← HE3.out.2.1]; rfl⟩⟩
                    · rw [decide_eq_false hpe] at hiff
                      have HNO := Lib.hid (fun x hx => by
                        have h1 := (HY.out.1 x hx).2
                        rw [← HE3.out.1] at h1
                        have h2 := List.prefix_iff_eq_take.1 h1
                        rw [← HE3.out.2.1] at h2
                        exact hpe h2.symm : ∀ x, ¬ PreW (op :: q1) x)
                      clear hle hz3 hpp3 hbE hM k3 hpt hS1 hS2 hpe hcapN
                      go_upto_region 28 with (fail)
                      go_quiet (fail)
                      obtain ⟨W4, hW4⟩ : ∃ W, W = w3.drewN nq := ⟨_, rfl⟩
                      change Exit.then _ _ _ _ (w3.drewN nq)
                      rw [← hW4]
                      have HY4 := Lib.hid (show Below w.heap.size w W4 ∧ Blk b0 zR 23 W4 from by rw [hW4]; exact ⟨below_drewN HY3.out.1 _, HY3.out.2.drewN _⟩)
                      clear hW4 t0 t1
                      have v0 := HY4.out.2.free 0
                      have v1 := HY4.out.2.free 1
                      have v2 := HY4.out.2.free 2
                      have v3 := HY4.out.2.free 3
                      have v4 := HY4.out.2.free 4
                      have y0 := HY4.out.2.get 0 (.int .u8 0) rfl
                      have y1 := HY4.out.2.get 1 (.int .u8 0) rfl
                      have y2 := HY4.out.2.get 2 (.int .u8 0) rfl
                      have y3 := HY4.out.2.get 3 (.int .u8 0) rfl
                      have y4 := HY4.out.2.get 4 (.int .i64 0) rfl
                      go_wp2_with fail
                      have hk5 : Blk b0 zR 23 _ := ((((HY4.out.2.set 0 (.int .u8 0)).set 1 (.int .u8 0)).set 2 (.int .u8 0)).set 3 (.int .u8 0)).set 4 (.int .i64 0)
                      refine bodyPost_ret (results_row2 rfl _ _ b0 23 zR (0, 0) _ rfl hk5 Tryd.underlying23 rfl info23) rfl ?_
                      exact ⟨HY4.out.1.trans (below5 (by have := HW0.out.2; omega) _ _ _ _ _), Or.inr ⟨HNO.out, rfl⟩⟩
end Go.Proofs.YtlblmnneikdpgaaDoor
