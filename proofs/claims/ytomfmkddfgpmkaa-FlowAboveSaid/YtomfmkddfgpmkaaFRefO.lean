/-
  The document's own order: the walk.
-/
import Derived.Test.YtomfmkddfgpmkaaFWkR
import Derived.Test.YtomfmkddfgpmkaaFEx
namespace Go.Proofs.Ytomfmkddfgpmkaa
open Go Go.RowKit Fl

theorem drop_rev {l : List Nat} {q : Nat} (h : q < l.length) : (l.drop q).reverse = (l.drop (q + 1)).reverse ++ [l.getD q 0] := by
  rw [List.drop_eq_getElem_cons h, List.reverse_cons, getD_of l q 0 h]
def ROR (w : World) (rb : Nat) (l : List Nat) (ov kv : Value) (W : World) : Prop := ∃ k : Nat, k ≤ l.length ∧ kv = I ((k : Int) - 1) ∧ Nums W rb ov (l.drop k).reverse ∧ Below rb w W

set_option maxRecDepth 100000 in
set_option maxHeartbeats 1600000 in
theorem refOrder_any (v : Value) (Z : List (List Int)) (base0 : Nat) (ht : TameZ Z) (he : errF Z = 0) (w : World) (h : OwnG base0 Z v w) :
    Calls Try.prog 16 #[v] w fun e w' => ∃ u, e = .returned u ∧ Nums w' w.heap.size u (orderL (natG Z)) ∧ Below w.heap.size w w' := by
  obtain ⟨i0, hi, hz0, hz1, hz2⟩ := info_parts info_int'
  have HI := Lib.hid (And.intro hi (And.intro hz0 (And.intro hz1 hz2)))
  clear hi hz0 hz1 hz2
  by_cases hz : Z = []
  · obtain ⟨vs, _, h2, _⟩ := h
    obtain ⟨sa, sc, rfl⟩ : ∃ a c, v = .slice a 0 c := by
      rcases own_slice h2 with ⟨e, _⟩ | ⟨g, c, e⟩
      · exact ⟨_, _, e⟩
      · exact ⟨_, _, by rw [e, hz]; rfl⟩
    have HZ := Lib.hid (show orderL (natG Z) = [] by unfold orderL; rw [if_pos (by rw [natG_len, hz]; rfl)])
    clear h2 he ht hz
    go_enter Try.func16, Try.ntmps16
    go_wp2_with fail
    go_ret
    exact ⟨_, rfl, by rw [HZ.out]; exact World.ownsRow_nil _ _ _ _, Below.refl _ _⟩
  · obtain ⟨bg, cap, rfl, hgr⟩ := grB_own h he hz
    obtain ⟨hw, ⟨P, hP⟩, hok, hc⟩ := wlk_inv (natG_ok he) (natG_ne hz)
    obtain ⟨b', hrec⟩ := walk_rec (natG_ok he) (natG_ne hz) hw
    obtain ⟨G, hGd⟩ : ∃ G, G = natG Z := ⟨_, rfl⟩
    obtain ⟨n, hn⟩ : ∃ n, n = Z.length := ⟨_, rfl⟩
    have hGl : G.length = n := by rw [hGd, natG_len, hn]
    have hn24 : n ≤ 24 := by rw [hn]; exact ht.1
    have hn0 : n ≠ 0 := by intro e; exact hz (List.length_eq_zero_iff.1 (by omega))
    have hGr : ∀ i, (row G i).length ≤ 1000 := fun i => by rw [hGd]; exact ht.row i
    have hGO : GOk G := by rw [hGd]; exact natG_ok he
    rw [← hGd] at hgr hP hrec hc
    rw [hGl] at hrec
    rw [← hn]
    obtain ⟨l, hl⟩ : ∃ l, l = (wlk G).left := ⟨_, rfl⟩
    have hll : l.length ≤ 24 := by rw [hl]; have := left_le hP; omega
    have hln : l ≠ [] := by rw [hl]; exact left_ne hP hc
    have hres : orderL (natG Z) = l.reverse := by
      rw [← hGd]
      unfold orderL
      rw [if_neg (by omega), hl]
    rw [← hl] at hrec
    obtain ⟨W1, hW1⟩ : ∃ W, W = w.alloc (.cells (arrB (List.replicate n false)) 4) := ⟨_, rfl⟩
    obtain ⟨bb, hbb⟩ : ∃ b, b = w.heap.size := ⟨_, rfl⟩
    have hB1 : Below w.heap.size w W1 := by rw [hW1]; exact (Below.refl _ _).alloc (Nat.le_refl _) _
    have hk1 : Blk bb (arrB (List.replicate n false)) 4 W1 := by rw [hbb, hW1]; exact Blk.new _ _ _
    have hmk := mkBn n (by omega) w
    have HC := Lib.hid (walkR_any bg cap n bb w.heap.size G hGO hGl (by omega) (by rw [hbb]; exact Nat.le_refl _) hGr (n + 1) 0 (List.replicate n false) [] b' l (.slice none 0 0) W1 hrec (by omega) (by simp) (by omega) (hgr.below hB1) hk1 (World.ownsRow_nil _ _ _ _) (by simp [Value.ownBlock]))
    have HH := Lib.hid (And.intro hres (And.intro hll (And.intro hln (And.intro hB1 (And.intro hn24 hn0)))))
    have HW := Lib.hid (And.intro hW1 hbb)
    have hnz : ((n : Int) == 0) = false := by simp; omega
    clear h he hz hgr hw hP hok hc hrec hGd hn hGl hn24 hn0 hGr hGO hl hll hln hres hW1 hbb hB1 hk1 ht
    go_enter Try.func16, Try.ntmps16
    go_wp2_with fail
    rw [← HW.out.2, ← HW.out.1]
    refine HC.out.mono ?_
    rintro e w2 ⟨u, rfl, _, _, z3, _, z5⟩
    obtain ⟨m, hm⟩ : ∃ m, l.length = m + 1 := ⟨l.length - 1, by have := List.length_pos_iff.2 HH.out.2.2.1; omega⟩
    obtain ⟨g, c, hu⟩ : ∃ g c, u = .slice (some ⟨g, 0, none⟩) (m + 1) c := by
      rcases own_slice z3 with ⟨_, h⟩ | ⟨g, c, h⟩
      · omega
      · exact ⟨g, c, by rw [h, hm]⟩
    have ho : w2.ownsRow w.heap.size 3 1 (.slice (some ⟨g, 0, none⟩) (m + 1) c) (m + 1) (ints l) := by
      have h1 : w2.ownsRow w.heap.size 3 1 u l.length (ints l) := z3
      rw [hu, hm] at h1
      exact h1
    have H2 := Lib.hid (And.intro ho (And.intro hm (belowBB HH.out.2.2.2.1 z5)))
    have hmb : (m : Int) + 1 ≤ 24 := by have := HH.out.2.1; omega
    have hm0 : (0 : Int) ≤ (m : Int) := by omega
    subst hu
    clear z3 z5 ho hm HC
    have HR := Lib.hid (show ROR w2 w2.heap.size l (.slice none 0 0) (I (m : Int)) w2 from ⟨m + 1, by rw [H2.out.2.1]; exact Nat.le_refl _, by rw [show (((m + 1 : Nat) : Int) - 1) = (m : Int) by omega], by rw [← H2.out.2.1, List.drop_length]; exact World.ownsRow_nil _ _ _ _, Below.refl _ _⟩)
    go_wp2_with fail
    go_loopw [3, 5] (fun ov kv W => ROR w2 w2.heap.size l ov kv W) (fun _ kv _ => (intOf kv + 1).toNat)
    case atStart => exact HR.out
    case round =>
      obtain ⟨k, hk, hkv, hno, hbe⟩ := hrel
      cases k with
      | zero =>
        have FIN := Lib.hid (show Nums wr w.heap.size u3 (orderL (natG Z)) ∧ Below w.heap.size w wr by
          refine ⟨?_, belowB H2.out.2.2 hbe⟩
          rw [HH.out.1]
          exact own_lower H2.out.2.2.size hno)
        subst hkv
        have g0 : decide ((0 : Int) ≤ ((0 : Nat) : Int) - 1) = false := by simp
        clear hno hbe hk
        go_wp2_with fail
        go_ret
        exact ⟨_, rfl, FIN.out⟩
      | succ q =>
        have hkI : (((q + 1 : Nat) : Int) - 1) = (q : Int) := by omega
        rw [hkI] at hkv
        subst hkv
        have hql : q < l.length := hk
        have c0 : wr.cell? ⟨g, q, none⟩ = some (I ((l.getD q 0 : Nat) : Int)) := cell_below hbe (H2.out.1.lt g rfl).2 (nums_get H2.out.1 H2.out.2.1 q (by have := H2.out.2.1; omega))
        obtain ⟨x, hx⟩ : ∃ x, x = l.getD q 0 := ⟨_, rfl⟩
        rw [← hx] at c0
        obtain ⟨s3, m3, k3, hu3⟩ : ∃ a m c, u3 = .slice a m c := by
          rcases own_slice hno with ⟨h, _⟩ | ⟨g, cap, h⟩
          · exact ⟨_, _, _, h⟩
          · exact ⟨_, _, _, h⟩
        obtain ⟨r, hr⟩ : ∃ r, r = (l.drop (q + 1)).reverse := ⟨_, rfl⟩
        rw [← hr, hu3] at hno
        subst hu3
        have hrl : r.length ≤ 24 := by rw [hr, List.length_reverse, List.length_drop]; have := HH.out.2.1; omega
        have HX := Lib.hid (And.intro hql (And.intro hx (And.intro hr (And.intro hno (And.intro hbe hrl)))))
        have d1 : (0 : Int) ≤ (q : Int) := by omega
        have d2 : (q : Int) < (m : Int) + 1 := by have := H2.out.2.1; omega
        have d3 : decide ((0 : Int) ≤ (q : Int)) = true := by simp
        clear hno hbe hx hr hql hk hrl hkI HR
        go_wp2_with (first | (at_builtin; refine Hid.out ?_) | go_in)
        unfold Hid
        refine wpList_append_own_at _ rfl _ _ 25 rfl w2.heap.size 3 i0 (I 0) 1 8 Try.underlying25 HI.out.1 HI.out.2.1 HI.out.2.2.1 HI.out.2.2.2 rfl (by decide) (.slice s3 m3 k3) r.length (ints r) rfl (HX.out.2.2.2.1.alloc _) ⟨wr.heap.size, 0, none⟩ 1 1 [I (x : Int)] rfl rfl (cell_one_new _ _ _) (by simp [Value.oneCell']) (by have := HX.out.2.2.2.2.2; unfold maxLen; omega) (by have := HX.out.2.2.2.2.2; omega) (by have := HX.out.2.2.2.2.1.size; simp; omega) ?_
        intro v' w4 hn4 hg _ hat
        have HN := Lib.hid (show ROR w2 w2.heap.size l v' (I ((q : Int) - 1)) w4 from ⟨q, Nat.le_of_lt HX.out.1, rfl, by
          rw [drop_rev HX.out.1, ← HX.out.2.1, ← HX.out.2.2.1]
          show World.ownsRow _ _ _ _ _ _ _
          rw [List.length_append]
          simpa using hn4, (HX.out.2.2.2.2.1.alloc HX.out.2.2.2.2.1.size _).grown hg (by have := HX.out.2.2.2.2.1.size; simp; omega) (fun k hk => (HX.out.2.2.2.1.lt k hk).1)⟩)
        clear hn4 hg hat
        go_wp2_with fail
        exact ⟨HN.out, by simp [intOf]⟩
end Go.Proofs.Ytomfmkddfgpmkaa
