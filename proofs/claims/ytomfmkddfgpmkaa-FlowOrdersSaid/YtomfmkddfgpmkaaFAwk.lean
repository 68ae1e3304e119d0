/-
  The document's examples: the walk.
-/
import Derived.Test.YtomfmkddfgpmkaaFNil
namespace Go.Proofs.Ytomfmkddfgpmkaa
open Go Go.RowKit Fl

namespace Fl
theorem ex_order : orderL (natG [[1, 2], [3], [3], [1]]) = [0, 2, 1, 3] := by kernel_rfl
theorem ex_abv : abvL (natG [[1, 2], [3], [3], [1]]) = [-1, 0, 0, 0] := by kernel_rfl
theorem ex_nat2 : natG [[1], [2, 3], [1], []] = [[1], [2, 3], [1], []] := by kernel_rfl
theorem ex_abv2 : abvL [[1], [2, 3], [1], []] = [-1, 0, 1, 1] := by kernel_rfl
theorem ex_order2 : orderL [[1], [2, 3], [1], []] = [0, 1, 3, 2] := by kernel_rfl
theorem ex_into2 : intoF [[1], [2, 3], [1], []] = [[], [0, 2], [1], [1]] := by kernel_rfl
theorem sort_two : sortN [2, 1] = [1, 2] := by
  simp [sortN, List.mergeSort, List.MergeSort.Internal.splitInTwo]
theorem ex_loops : lpsL (natG [[1], [2, 3], [1], []]) = [(1, [1, 2])] := by
  rw [ex_nat2]
  have h : ([[1], [2, 3], [1], []] : List (List Nat)).length = 4 := rfl
  unfold lpsL
  rw [ex_abv2, ex_order2, ex_into2, h, if_neg (by decide)]
  obtain ⟨ov, hov⟩ : ∃ ov, ov = overB (forP (abF [-1, 0, 1, 1]) 4 [0, 1, 3, 2]) (forS (abF [-1, 0, 1, 1]) 4 [0, 1, 3, 2]) := ⟨_, rfl⟩
  rw [← hov]
  have e0 : endsF [[], [0, 2], [1], [1]] ov 0 = [] := by rw [hov]; kernel_rfl
  have e1 : endsF [[], [0, 2], [1], [1]] ov 1 = [2] := by rw [hov]; kernel_rfl
  have e2 : endsF [[], [0, 2], [1], [1]] ov 2 = [] := by rw [hov]; kernel_rfl
  have e3 : endsF [[], [0, 2], [1], [1]] ov 3 = [] := by rw [hov]; kernel_rfl
  have eb : bkF [[], [0, 2], [1], [1]] (muB 4 4 [2] [1] + 1) [2] [1] = some [2, 1] := by kernel_rfl
  rw [loopL_none e3, loopL_none e2, loopL_some (by rw [e1]; decide) (by rw [e1]; exact eb), loopL_none e0, sort_two]
  rfl
end Fl

theorem rowZ_blk {w : World} {r : Nat} {l : List Int} (h : Blk r (arrZ l) 3 w) : RowZ w (.slice (some ⟨r, 0, none⟩) l.length l.length) l :=
  ⟨_, _, rfl, fun j hj => ⟨r, rfl, h.lt, h.get j _ (arrZ_get l j hj)⟩⟩
def exA (w : World) : World := ((((w.alloc (.cells #[I 1, I 2] 3)).alloc (.cells #[I 3] 3)).alloc (.cells #[I 3] 3)).alloc (.cells #[I 1] 3)).alloc (.cells #[.slice (some ⟨w.heap.size, 0, none⟩) 2 2, .slice (some ⟨w.heap.size + 1, 0, none⟩) 1 1, .slice (some ⟨w.heap.size + 1 + 1, 0, none⟩) 1 1, .slice (some ⟨w.heap.size + 1 + 1 + 1, 0, none⟩) 1 1] 25)
def exB (w : World) : World := (((w.alloc (.cells #[I 1] 3)).alloc (.cells #[I 2, I 3] 3)).alloc (.cells #[I 1] 3)).alloc (.cells #[.slice (some ⟨w.heap.size, 0, none⟩) 1 1, .slice (some ⟨w.heap.size + 1, 0, none⟩) 2 2, .slice (some ⟨w.heap.size + 1 + 1, 0, none⟩) 1 1, .slice none 0 0] 25)
theorem exA_below (w : World) : Below w.heap.size w (exA w) := (((((Below.refl _ _).alloc (Nat.le_refl _) _).alloc (by simp) _).alloc (by simp; omega) _).alloc (by simp; omega) _).alloc (by simp; omega) _
theorem exB_below (w : World) : Below w.heap.size w (exB w) := ((((Below.refl _ _).alloc (Nat.le_refl _) _).alloc (by simp) _).alloc (by simp; omega) _).alloc (by simp; omega) _
theorem exA_gr (w : World) : GrZ (exA w) (w.heap.size + 1 + 1 + 1 + 1) [[1, 2], [3], [3], [1]] := by
  have k0 : Blk w.heap.size (arrZ [1, 2]) 3 (exA w) := ((((Blk.new w _ _).alloc _).alloc _).alloc _).alloc _
  have k1 : Blk (w.heap.size + 1) (arrZ [3]) 3 (exA w) := (((Blk.new' (w.alloc _) _ _ (by simp)).alloc _).alloc _).alloc _
  have k2 : Blk (w.heap.size + 1 + 1) (arrZ [3]) 3 (exA w) := ((Blk.new' ((w.alloc _).alloc _) _ _ (by simp)).alloc _).alloc _
  have k3 : Blk (w.heap.size + 1 + 1 + 1) (arrZ [1]) 3 (exA w) := (Blk.new' (((w.alloc _).alloc _).alloc _) _ _ (by simp)).alloc _
  have k4 : Blk (w.heap.size + 1 + 1 + 1 + 1) #[.slice (some ⟨w.heap.size, 0, none⟩) 2 2, .slice (some ⟨w.heap.size + 1, 0, none⟩) 1 1, .slice (some ⟨w.heap.size + 1 + 1, 0, none⟩) 1 1, .slice (some ⟨w.heap.size + 1 + 1 + 1, 0, none⟩) 1 1] 25 (exA w) := Blk.new' ((((w.alloc _).alloc _).alloc _).alloc _) _ _ (by simp)
  refine ⟨k4.lt, fun i hi => ?_⟩
  match i, hi with
  | 0, _ => exact ⟨_, k4.get 0 _ rfl, rowZ_blk k0⟩
  | 1, _ => exact ⟨_, k4.get 1 _ rfl, rowZ_blk k1⟩
  | 2, _ => exact ⟨_, k4.get 2 _ rfl, rowZ_blk k2⟩
  | 3, _ => exact ⟨_, k4.get 3 _ rfl, rowZ_blk k3⟩
  | i + 4, h => exact absurd h (by simp)
theorem exB_gr (w : World) : GrZ (exB w) (w.heap.size + 1 + 1 + 1) [[1], [2, 3], [1], []] := by
  have k0 : Blk w.heap.size (arrZ [1]) 3 (exB w) := (((Blk.new w _ _).alloc _).alloc _).alloc _
  have k1 : Blk (w.heap.size + 1) (arrZ [2, 3]) 3 (exB w) := ((Blk.new' (w.alloc _) _ _ (by simp)).alloc _).alloc _
  have k2 : Blk (w.heap.size + 1 + 1) (arrZ [1]) 3 (exB w) := (Blk.new' ((w.alloc _).alloc _) _ _ (by simp)).alloc _
  have k4 : Blk (w.heap.size + 1 + 1 + 1) #[.slice (some ⟨w.heap.size, 0, none⟩) 1 1, .slice (some ⟨w.heap.size + 1, 0, none⟩) 2 2, .slice (some ⟨w.heap.size + 1 + 1, 0, none⟩) 1 1, .slice none 0 0] 25 (exB w) := Blk.new' (((w.alloc _).alloc _).alloc _) _ _ (by simp)
  refine ⟨k4.lt, fun i hi => ?_⟩
  match i, hi with
  | 0, _ => exact ⟨_, k4.get 0 _ rfl, rowZ_blk k0⟩
  | 1, _ => exact ⟨_, k4.get 1 _ rfl, rowZ_blk k1⟩
  | 2, _ => exact ⟨_, k4.get 2 _ rfl, rowZ_blk k2⟩
  | 3, _ => exact ⟨_, k4.get 3 _ rfl, none, 0, rfl, fun j hj => absurd hj (by simp)⟩
  | i + 4, h => exact absurd h (by simp)
theorem tame_ex {Z : List (List Int)} (h : Z.length = 4) (h2 : ∀ l ∈ Z, l.length ≤ 1000) : TameZ Z := ⟨by omega, fun i hi => h2 _ (List.getElem_mem hi)⟩
theorem exA_order (w : World) : Calls Try.prog 11 #[.slice (some ⟨w.heap.size + 1 + 1 + 1 + 1, 0, none⟩) 4 4] (exA w) fun e w' => ∃ v, e = .returned (.tuple #[v, I 0]) ∧ RowZ w' v [0, 2, 1, 3] ∧ Below (exA w).heap.size (exA w) w' := by
  refine (Order_any _ 4 [[1, 2], [3], [3], [1]] (tame_ex rfl (by decide)) (by decide) _ (exA_gr w)).mono ?_
  rintro e w' ⟨v, rfl, h1, h2⟩
  rw [if_pos (show errF [[1, 2], [3], [3], [1]] = 0 by kernel_rfl), ex_order] at h1
  exact ⟨v, rfl, nums_rowZ h1, h2⟩
theorem exA_above (w w2 : World) (hb : Below (exA w).heap.size (exA w) w2) : Calls Try.prog 18 #[.slice (some ⟨w.heap.size + 1 + 1 + 1 + 1, 0, none⟩) 4 4] w2 fun e w' => ∃ v, e = .returned (.tuple #[v, I 0]) ∧ RowZ w' v [-1, 0, 0, 0] ∧ Below w2.heap.size w2 w' := by
  refine (Above_any _ 4 [[1, 2], [3], [3], [1]] (tame_ex rfl (by decide)) (by decide) w2 ((exA_gr w).below hb)).mono ?_
  rintro e w' ⟨v, rfl, h1, _, h2⟩
  obtain ⟨b, rfl, h3, _, _⟩ := h1 (by kernel_rfl)
  rw [ex_abv] at h3
  exact ⟨_, rfl, rowZ_blk h3, h2⟩
theorem exB_loops (w : World) : Calls Try.prog 22 #[.slice (some ⟨w.heap.size + 1 + 1 + 1, 0, none⟩) 4 4] (exB w) fun e w' => ∃ g c nv, e = .returned (.tuple #[.slice (some ⟨g, 0, none⟩) 1 c, I 0]) ∧ w'.cell? ⟨g, 0, none⟩ = some (I 1) ∧ w'.cell? ⟨g, 1, none⟩ = some nv ∧ RowZ w' nv [1, 2] ∧ g < w'.heap.size ∧ Below (exB w).heap.size (exB w) w' := by
  refine (Loops_any _ 4 [[1], [2, 3], [1], []] (tame_ex rfl (by decide)) (by decide) _ (exB_gr w)).mono ?_
  rintro e w' ⟨v, rfl, h1, h2⟩
  rw [if_pos (show errF [[1], [2, 3], [1], []] = 0 by kernel_rfl), ex_loops] at h1
  obtain ⟨vs, q1, q2, q3⟩ := h1
  rcases own_slice q2 with ⟨_, h⟩ | ⟨g, c, rfl⟩
  · exact absurd h (by decide)
  · obtain ⟨nv, rfl⟩ : ∃ nv, vs = [nv] := by
      match vs, q1 with
      | [nv], _ => exact ⟨nv, rfl⟩
    have hn := (q3 0 (by simp) (by simp)).1
    exact ⟨g, c, nv, rfl, by rw [q2.cellAt 0 (by decide)]; rfl, by rw [q2.cellAt 1 (by decide)]; rfl, nums_rowZ hn, (q2.lt g rfl).2, h2⟩
theorem Same_one (u : Value) (l : List Int) (hl : l.length ≤ 1000) (w w1 : World) (cs : Array Value) (k : Nat) (hk : l.length = k) (hcs : cs = arrZ l) (hw : w1 = w.alloc (.cells cs 3)) (h1 : RowZ w u l) :
    Calls Try.prog 15 #[u, .slice (some ⟨w.heap.size, 0, none⟩) k k] w1 fun e w' => e = .returned (.bool true) ∧ Below w.heap.size w w' := by
  subst hk hcs hw
  refine (Same_any u _ l l (by omega) (by omega) _ (h1.below ((Below.refl _ _).alloc (Nat.le_refl _) _)) (rowZ_blk (Blk.new w _ _))).mono ?_
  rintro e w' ⟨rfl, h⟩
  have hb : Below w.heap.size w (w.alloc (.cells (arrZ l) 3)) := (Below.refl _ _).alloc (Nat.le_refl _) _
  exact ⟨by simp, ⟨h.os.trans hb.os, h.tape.trans hb.tape, h.output.trans hb.output, Nat.le_trans hb.size h.size, fun k hk => (h.block k (Nat.lt_of_lt_of_le hk hb.size)).trans (hb.block k hk)⟩⟩

set_option maxRecDepth 100000 in
set_option maxHeartbeats 1600000 in
theorem awake_any (w : World) : Calls Try.prog 8 #[] w fun e w' => e = .returned (.bool true) ∧ Below w.heap.size w w' := by
  go_enter Try.func8, Try.ntmps8
  go_upto_region 2 with (fail)
  change Code.wp _ _ _ _ (exA w)
  go_wp2_with fail
  refine (exA_order w).mono ?_
  rintro e w2 ⟨v2, rfl, r2, b2⟩
  have H2 := Lib.hid (And.intro r2 b2)
  have HA := Lib.hid (exA_above w w2 b2)
  clear r2 b2
  go_wp2_with fail
  refine HA.out.mono ?_
  rintro e w3 ⟨v3, rfl, r3, b3⟩
  have H3 := Lib.hid (And.intro (H2.out.1.below b3) (And.intro r3 (belowB H2.out.2 b3)))
  clear r3 b3 HA H2
  go_wp2_with fail
  refine (exB_loops w3).mono ?_
  rintro e w4 ⟨g, c, nv, rfl, c0, c1, r4, hg, b4⟩
  have b34 := belowB (exB_below w3) b4
  have H4 := Lib.hid (And.intro (H3.out.1.below b34) (And.intro (H3.out.2.1.below b34) (And.intro c0 (And.intro c1 (And.intro r4 (And.intro hg (belowB (exA_below w) (belowB H3.out.2.2 b34))))))))
  clear c0 c1 r4 hg b4 b34 H3
  go_wp2_with fail
  refine (Same_one v2 [0, 2, 1, 3] (by decide) w4 _ _ 4 rfl rfl rfl H4.out.1).mono ?_
  rintro e w5 ⟨rfl, b5⟩
  have H5 := Lib.hid (And.intro (H4.out.2.1.below b5) (And.intro (cell_below b5 H4.out.2.2.2.2.2.1 H4.out.2.2.1) (And.intro (cell_below b5 H4.out.2.2.2.2.2.1 H4.out.2.2.2.1) (And.intro (H4.out.2.2.2.2.1.below b5) (And.intro (Nat.lt_of_lt_of_le H4.out.2.2.2.2.2.1 b5.size) (belowB H4.out.2.2.2.2.2.2 b5))))))
  clear b5 H4
  go_wp2_with fail
  refine (Same_one v3 [-1, 0, 0, 0] (by decide) w5 _ _ 4 rfl rfl rfl H5.out.1).mono ?_
  rintro e w6 ⟨rfl, b6⟩
  have c0 := cell_below b6 H5.out.2.2.2.2.1 H5.out.2.1
  have c1 := cell_below b6 H5.out.2.2.2.2.1 H5.out.2.2.1
  have hg6 := Nat.lt_of_lt_of_le H5.out.2.2.2.2.1 b6.size
  have hne : ¬ g = w6.heap.size := by omega
  have H6 := Lib.hid (And.intro (H5.out.2.2.2.1.below b6) (belowB H5.out.2.2.2.2.2 b6))
  clear b6 H5
  go_wp2_with fail
  refine (Same_one nv [1, 2] (by decide) w6 _ _ 2 rfl rfl rfl H6.out.1).mono ?_
  rintro e w7 ⟨rfl, b7⟩
  have FIN := Lib.hid (belowB H6.out.2 b7)
  clear b7 H6 c0 c1 hg6 hne
  go_wp2_with fail
  go_ret
  exact ⟨rfl, FIN.out⟩
end Go.Proofs.Ytomfmkddfgpmkaa
