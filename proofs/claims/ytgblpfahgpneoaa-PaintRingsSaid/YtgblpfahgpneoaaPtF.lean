/-
  Each once: slices.DeleteFunc: walked.
-/
import Derived.Test.YtgblpfahgpneoaaPtE
namespace Go.Proofs.Ytgblpfahgpneoaa
open Go Go.RowKit

theorem dd_self {l : List Nat} (h : l.Nodup) : dd l = l := by
  induction l using rev_ind with
  | h0 => rfl
  | h1 l y ih =>
    have h1 := List.nodup_append.1 h
    rw [dd_app, ih h1.1, if_neg (fun e => h1.2.2 y e y (by simp) rfl)]
def DlT (n bL b10 b11 node base : Nat) (lf : Nat → Int) (L : List Nat) (v : Value) (w W : World) (e : Ending) : Prop := ∃ v', e = .returned v' ∧ Nums W base v' (dd L) ∧ v'.ownBlock = v.ownBlock ∧ Ndl n bL b10 b11 node (mk lf L ((node : Int) + 1)) W ∧ FrS (fun k => k = bL ∨ some k = v.ownBlock) w W
def DlR (n bL b10 b11 node base g m c : Nat) (lf : Nat → Int) (L : List Nat) (w : World) (iv jv : Value) (W : World) : Prop := ∃ (i j : Nat) (R : List Nat), i < j ∧ j ≤ m ∧ iv = I (i : Int) ∧ jv = I (j : Int) ∧ R.length = m ∧ W.ownsRow base 3 1 (.slice (some ⟨g, 0, none⟩) m c) m (ints R) ∧
  R.take i = dd (L.take j) ∧ (∀ q, j ≤ q → q < m → R.getD q 0 = L.getD q 0) ∧ Ndl n bL b10 b11 node (mk lf (L.take j) ((node : Int) + 1)) W ∧ FrS (fun k => k = bL ∨ some k = some g) w W

set_option maxRecDepth 100000 in
set_option maxHeartbeats 1600000 in
theorem index_nil (f : Value) (w : World) : Calls Try.prog 22 #[.slice none 0 0, f] w fun e w' => e = .returned (I (-1)) ∧ w' = w := by
  go_enter Try.func22, Try.ntmps22
  go_wp2_with fail
  go_loopw [8] (fun iv W => iv = I 0 ∧ W = w) (fun iv _ => 0)
  case atStart => exact ⟨rfl, rfl⟩
  case round =>
    obtain ⟨rfl, rfl⟩ := hrel
    go_wp2_with fail
    go_ret
    exact ⟨rfl, rfl⟩
set_option maxRecDepth 100000 in
set_option maxHeartbeats 1600000 in
theorem delete_nil (f : Value) (w : World) : Calls Try.prog 18 #[.slice none 0 0, f] w fun e w' => e = .returned (.slice none 0 0) ∧ w' = w := by
  have HI := Lib.hid (index_nil f w)
  go_enter Try.func18, Try.ntmps18
  go_wp2_with fail
  refine HI.out.mono ?_
  rintro e w1 ⟨rfl, rfl⟩
  go_wp2_with fail
  go_ret
  exact ⟨rfl, rfl⟩

theorem zeroI (w : World) : (zeroValue 3).run Try.prog w = .ok (I 0) w := by kernel_rfl
theorem ints_getD {l : List Nat} {w : World} {base g c m : Nat} (h : w.ownsRow base 3 1 (.slice (some ⟨g, 0, none⟩) m c) m (ints l)) (hl : l.length = m) (j : Nat) (hj : j < m) : w.cell? ⟨g, j, none⟩ = some (I ((l.getD j 0 : Nat) : Int)) := nums_get h hl j hj
theorem row_free {w : World} {base g c m : Nat} {xs : List Value} (h : w.ownsRow base 3 1 (.slice (some ⟨g, 0, none⟩) m c) m xs) (j : Nat) : w.frozen? ⟨g, j, none⟩ = false ∧ m ≤ c := by
  rcases h.2 with ⟨e, _⟩ | ⟨g', cap, cur, e, hb, hg, hn, _⟩
  · cases e
  · cases e
    exact ⟨Blk.free hg j, hn⟩

set_option maxRecDepth 100000 in
set_option maxHeartbeats 1600000 in
theorem delete_some {n bL b10 b11 node base g m c : Nat} {lf : Nat → Int} (L : List Nat) (hm : m = L.length) (hmb : m ≤ 4000) (hL : ∀ x ∈ L, x < n) (hn : node ≤ 60000) (hlf : ∀ x, lf x ≠ (node : Int) + 1) (w : World) (hg : g ≠ bL ∧ g ≠ b10 ∧ g ≠ b11) (ho : w.ownsRow base 3 1 (.slice (some ⟨g, 0, none⟩) m c) m (ints L)) (h : Ndl n bL b10 b11 node lf w) :
    Calls Try.prog 18 #[.slice (some ⟨g, 0, none⟩) m c, Fv b10 b11] w fun e w' => DlT n bL b10 b11 node base lf L (.slice (some ⟨g, 0, none⟩) m c) w w' e := by
  have hmi : (m : Int) ≤ 4000 := by omega
  have hgl : g < w.heap.size := (World.ownsRow.lt ho g rfl).2
  have hmc : (m : Int) ≤ (c : Int) := by have := (row_free ho 0).2; omega
  have HIx := Lib.hid (index_any (c := c) L hm hmb hL hn hlf w hg.1 (fun j hj => nums_get ho hm.symm j hj) hgl h)
  have HH := Lib.hid (And.intro hm (And.intro hL (And.intro hn (And.intro hlf (And.intro hg (And.intro ho hgl))))))
  clear hm hmb hL hn hlf hg ho hgl h
  go_enter Try.func18, Try.ntmps18
  go_wp2_with fail
  refine HIx.out.mono ?_
  rintro e w1 ⟨hF1, h1⟩
  rcases h1 with ⟨rfl, hnd, hN1⟩ | ⟨i0, hi0, rfl, hnd, hme, hN1⟩
  · have FIN := Lib.hid (show DlT n bL b10 b11 node base lf L (.slice (some ⟨g, 0, none⟩) m c) w w1 (.returned (.slice (some ⟨g, 0, none⟩) m c)) from ⟨_, rfl, by
      rw [dd_self hnd]
      show World.ownsRow _ _ _ _ _ _ _
      rw [← HH.out.1]
      exact own_frs HH.out.2.2.2.2.2.1 hF1 (fun k hk e => HH.out.2.2.2.2.1.1 (by cases hk; exact e)), rfl, hN1, hF1.mono (fun k hk => Or.inl hk)⟩)
    clear hF1 hnd hN1
    go_wp2_with fail
    go_ret
    exact FIN.out
  · have hd1 : dd (L.take (i0 + 1)) = L.take i0 := by
      rw [dd_take hi0, dd_self hnd, if_pos hme]
    have HS := Lib.hid (show DlR n bL b10 b11 node base g m c lf L w (I (i0 : Int)) (I ((i0 : Int) + 1)) w1 from ⟨i0, i0 + 1, L, by omega, by have := HH.out.1; omega, rfl, rfl, HH.out.1.symm,
      own_frs HH.out.2.2.2.2.2.1 hF1 (fun k hk e => HH.out.2.2.2.2.1.1 (by cases hk; exact e)), hd1.symm, fun q _ _ => rfl, hN1, hF1.mono (fun k hk => Or.inl hk)⟩)
    have g0 : ((i0 : Int) == (-1 : Int)) = false := by simp
    have g1 : (i0 : Int) ≤ 4000 := by have := HH.out.1; omega
    have g2 : (0 : Int) ≤ (i0 : Int) := by omega
    clear hF1 hnd hme hN1 hd1 hi0
    unfold Fv
    go_wp2_with fail
    go_loopw [5, 6] (fun iv jv W => DlR n bL b10 b11 node base g m c lf L w iv jv W) (fun _ jv _ => m - (intOf jv).toNat)
    case atStart => exact HS.out
    case round =>
      obtain ⟨i, j, R, hij, hj, rfl, rfl, hRl, ho, hRt, hRq, hN, hF⟩ := hrel
      by_cases hjm : j < m
      · have hjl : j < L.length := by rw [← HH.out.1]; exact hjm
        obtain ⟨x, hx⟩ : ∃ x, x = L.getD j 0 := ⟨_, rfl⟩
        have hxm : x ∈ L := by rw [hx, getD_of _ _ _ hjl]; exact List.getElem_mem hjl
        have hxn : x < n := HH.out.2.1 x hxm
        have cx : wr.cell? ⟨g, j, none⟩ = some (I (x : Int)) := by rw [hx, ← hRq j (Nat.le_refl _) hjm]; exact nums_get ho hRl j hjm
        have HC := Lib.hid (clo_any x hxn HH.out.2.2.1 wr hN)
        have d0 : decide (j < m) = true := by simpa using hjm
        have d1 : (0 : Int) ≤ (j : Int) := by omega
        have d2 : (j : Int) < (m : Int) := by omega
        have d3 : (0 : Int) ≤ (i : Int) := by omega
        have d4 : (i : Int) < (m : Int) := by omega
        have htk : L.take (j + 1) = L.take j ++ [x] := by rw [List.take_succ_eq_append_getElem hjl, hx, getD_of _ _ _ hjl]
        have hdd := dd_take hjl
        rw [← hx] at hdd
        have hit : (mk lf (L.take j) ((node : Int) + 1) x == (node : Int) + 1) = decide (x ∈ L.take j) := by
          unfold mk
          by_cases e : x ∈ L.take j
          · rw [if_pos e]; simp [e]
          · rw [if_neg e]; simp [e, HH.out.2.2.2.1 x]
        have H1 := Lib.hid (And.intro hij (And.intro hRl (And.intro ho (And.intro hRt (And.intro hRq (And.intro hF (And.intro htk (And.intro hdd hjm))))))))
        have HT := Lib.hid hit
        clear hij hRl ho hRt hRq hF htk hdd hjm hjl hj hx hN hxm hxn hit
        go_wp2_with fail
        refine HC.out.mono ?_
        rintro e w2 ⟨rfl, hN1, hF1⟩
        rw [HT.out]
        have hN2 : Ndl n bL b10 b11 node (mk lf (L.take (j + 1)) ((node : Int) + 1)) w2 := hN1.turn (fun y => by rw [H1.out.2.2.2.2.2.2.1]; exact mk_app _ _ _ _ _)
        have ho2 := own_frs H1.out.2.2.1 hF1 (fun k hk e => HH.out.2.2.2.2.1.1 (by cases hk; exact e))
        have hF2 := H1.out.2.2.2.2.2.1.trans (hF1.mono (S' := fun k => k = bL ∨ some k = some g) (fun k hk => Or.inl hk))
        by_cases hme : x ∈ L.take j
        · have HN := Lib.hid (show DlR n bL b10 b11 node base g m c lf L w (I (i : Int)) (I ((j : Int) + 1)) w2 from ⟨i, j + 1, R, by have := H1.out.1; omega, by have := H1.out.2.2.2.2.2.2.2.2; omega, rfl, rfl, H1.out.2.1, ho2,
            by rw [H1.out.2.2.2.2.2.2.2.1, if_pos (mem_dd.2 hme)]; exact H1.out.2.2.2.1, fun q h1 h2 => H1.out.2.2.2.2.1 q (by omega) h2, hN2, hF2⟩)
          rw [decide_eq_true hme]
          clear hN1 hF1 hN2 hme ho2 hF2
          go_wp2_with fail
          exact ⟨HN.out, by have := H1.out.2.2.2.2.2.2.2.2; simp [intOf]; omega⟩
        · have f1 := (row_free ho2 i).1
          have c1 := nums_get ho2 H1.out.2.1 i (by have := H1.out.1; have := H1.out.2.2.2.2.2.2.2.2; omega)
          have HN := Lib.hid (show DlR n bL b10 b11 node base g m c lf L w (I ((i : Int) + 1)) (I ((j : Int) + 1)) (w2.setCell ⟨g, i, none⟩ (I (x : Int))) from ⟨i + 1, j + 1, R.set i x, by have := H1.out.1; omega, by have := H1.out.2.2.2.2.2.2.2.2; omega, rfl, rfl, by rw [List.length_set]; exact H1.out.2.1, by
              rw [show ints (R.set i x) = (ints R).set i (I (x : Int)) by simp [List.map_set]]
              exact own_setAt ho2 i _ (by have := H1.out.1; have := H1.out.2.2.2.2.2.2.2.2; omega), by
              have hiR : i < R.length := by have := H1.out.1; have := H1.out.2.1; have := H1.out.2.2.2.2.2.2.2.2; omega
              rw [H1.out.2.2.2.2.2.2.2.1, if_neg (fun e => hme (mem_dd.1 e)), List.take_succ_eq_append_getElem (by rw [List.length_set]; exact hiR), List.take_set_of_le (Nat.le_refl _), List.getElem_set_self, H1.out.2.2.2.1], fun q h1 h2 => by
              have h3 := H1.out.1
              rw [Fl.getD_set _ _ _ _ (by have := H1.out.2.1; have := H1.out.2.2.2.2.2.2.2.2; omega), if_neg (by omega)]
              exact H1.out.2.2.2.2.1 q (by omega) h2, hN2.frs ((FrS.refl (fun k => k = g) w2).set g i _ rfl) (fun e => HH.out.2.2.2.2.1.2.1 e.symm) (fun e => HH.out.2.2.2.2.1.1 e.symm) (fun e => HH.out.2.2.2.2.1.2.2 e.symm), hF2.set g i _ (Or.inr rfl)⟩)
          rw [decide_eq_false hme]
          clear hN1 hF1 hN2 hme ho2 hF2
          go_wp2_with fail
          exact ⟨HN.out, by have := H1.out.2.2.2.2.2.2.2.2; simp [intOf]; omega⟩
      · have d0 : decide (j < m) = false := by simpa using hjm
        obtain rfl : j = m := by omega
        have hjl : L.take j = L := by rw [HH.out.1, List.take_length]
        rw [hjl] at hRt hN
        have hcl : ∀ ty, (Builtin.clear_ #[25] ty #[.slice (some ⟨g, i, none⟩) (j - i) (c - i)]).run Try.prog wr = .ok (.tuple #[]) (wr.setCells g i (List.replicate (j - i) (I 0))) :=
          fun ty => Lib.run_clear_slice wr _ _ ty _ Try.underlying25 zeroI rfl rfl g i _ _ (by omega) (fun q hq => by rw [nums_get ho hRl (i + q) (by omega)]; rfl) (fun q hq => (row_free ho _).1)
        obtain ⟨xs', ho3, hx3⟩ := own_cells (List.replicate (j - i) (I 0)) i wr _ ho (by rw [List.length_replicate]; omega)
        have FIN := Lib.hid (show DlT n bL b10 b11 node base lf L (.slice (some ⟨g, 0, none⟩) j c) w (wr.setCells g i (List.replicate (j - i) (I 0))) (.returned (.slice (some ⟨g, 0, none⟩) i c)) from ⟨_, rfl, by
            have h1 := own_cut ho3 (m := i) (by omega)
            rw [hx3, ← List.map_take, hRt] at h1
            have h2 : (dd L).length = i := by rw [← hRt, List.length_take]; omega
            show World.ownsRow _ _ _ _ _ _ _
            rw [h2]
            exact h1, rfl, hN.frs (FrS.cells (S := fun k => k = g) g rfl _ i _ (FrS.refl _ _)) (fun e => HH.out.2.2.2.2.1.2.1 e.symm) (fun e => HH.out.2.2.2.2.1.1 e.symm) (fun e => HH.out.2.2.2.2.1.2.2 e.symm), FrS.cells g (Or.inr rfl) _ i _ hF⟩)
        have e1 : (0 : Int) ≤ (i : Int) := by omega
        have e2 : (i : Int) ≤ (j : Int) := by omega
        have e3 : (i : Int) ≤ (c : Int) := by omega
        have e4 : ¬ c = i := by omega
        have e5 : ¬ i = c := by omega
        clear hij hRl ho hRt hRq hF hjm hj hN ho3 hx3 hjl
        go_wp2_with (simp only [hcl])
        go_ret
        exact FIN.out
end Go.Proofs.Ytgblpfahgpneoaa
