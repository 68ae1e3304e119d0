/-
  Joined: FNil, FAwk, FOwn.
-/
import Derived.Test.YtomfmkddfgpmkaaFFace
import Derived.Test.YtomfmkddfgpmkaaFTame
/-! The graph of no nodes: the walks of Order and Into. -/

namespace Go.Proofs.Ytomfmkddfgpmkaa
open Go Go.RowKit Fl

theorem grB_own {base : Nat} {Z : List (List Int)} {v : Value} {W : World} (h : OwnG base Z v W) (he : errF Z = 0) (hz : Z ≠ []) : ∃ bg c, v = .slice (some ⟨bg, 0, none⟩) Z.length c ∧ GrB W.heap.size W bg (natG Z) := by
  obtain ⟨vs, h1, h2, h3⟩ := h
  rcases own_slice h2 with ⟨_, e2⟩ | ⟨g, c, e⟩
  · exact absurd (List.length_eq_zero_iff.1 e2) hz
  · rw [e] at h2
    refine ⟨g, c, e, (h2.lt g rfl).2, Nat.le_refl _, fun i hi => ?_⟩
    rw [natG_len] at hi
    have hi' : i < vs.length := by omega
    refine ⟨vs[i], by rw [h2.cellAt i (by omega), List.getElem?_eq_getElem hi'], ?_⟩
    have hn := (h3 i hi hi').1
    rw [natG_row Z hi]
    rcases own_slice hn with ⟨e, e2⟩ | ⟨g', c', e⟩
    · exact Or.inl ⟨e, by rw [List.length_eq_zero_iff.1 e2]; rfl⟩
    · right
      rw [e] at hn
      refine ⟨g', c', by rw [e, List.length_map], (hn.lt g' rfl).2, fun j hj => ?_⟩
      rw [List.length_map] at hj
      have h0 := errF_in he hi hj
      rw [hn.cellAt j (by omega), List.getElem?_map, List.getElem?_eq_getElem hj, List.getElem_map]
      show some (I Z[i][j]) = some (I ((Z[i][j].toNat : Nat) : Int))
      rw [Int.toNat_of_nonneg h0.1]

set_option maxRecDepth 100000 in
set_option maxHeartbeats 800000 in
theorem newWalk_nil (a : Option Addr) (c : Nat) (w : World) :
    Calls Try.prog 28 #[.slice a 0 c] w fun e w' => ∃ p, e = .returned p ∧ NewP w 0 p w' := by
  obtain ⟨n, hn⟩ : ∃ n : Nat, n = 0 := ⟨_, rfl⟩
  have hmk := mkIn n (by omega)
  have hmb := mkBn n (by omega)
  have hnz : ((n : Int) == 0) = true := by rw [hn]; rfl
  rw [← hn]
  clear hn
  go_enter Try.func28, Try.ntmps28
  go_upto_region 1 with (fail)
  go_cut [3] from 7 to 14 (fun p W => NewP w n p W)
  case first =>
    have HA := Lib.hid (show NewP w n (.pointer (some ⟨w.heap.size + 1 + 1, 0, none⟩)) ((((w.alloc (.cells (arrZ (List.replicate n 0)) 3)).alloc (.cells (arrB (List.replicate n false)) 4)).alloc (.cells #[.slice none 0 0, .slice none 0 0, .slice (some ⟨w.heap.size, 0, none⟩) n n, .slice (some ⟨w.heap.size + 1, 0, none⟩) n n] 62))).drew from
      ⟨_, w.heap.size, w.heap.size + 1, rfl, ⟨Blk.new' _ _ _ (by simp), ((Blk.new _ _ _).alloc _).alloc _, (Blk.new' _ _ _ (by simp)).alloc _, by omega, by omega, by omega, by omega, by omega, by omega, by simp, by simp⟩, ((((Below.refl _ _).alloc (Nat.le_refl _) _).alloc (by simp) _).alloc (by simp; omega) _).drew⟩)
    have HB := Lib.hid (show NewP w n (.pointer (some ⟨w.heap.size + 1 + 1, 0, none⟩)) ((((w.alloc (.cells (arrB (List.replicate n false)) 4)).alloc (.cells (arrZ (List.replicate n 0)) 3)).alloc (.cells #[.slice none 0 0, .slice none 0 0, .slice (some ⟨w.heap.size + 1, 0, none⟩) n n, .slice (some ⟨w.heap.size, 0, none⟩) n n] 62))).drew from
      ⟨_, w.heap.size + 1, w.heap.size, rfl, ⟨Blk.new' _ _ _ (by simp), (Blk.new' _ _ _ (by simp)).alloc _, ((Blk.new _ _ _).alloc _).alloc _, by omega, by omega, by omega, by omega, by omega, by omega, by simp, by simp⟩, ((((Below.refl _ _).alloc (Nat.le_refl _) _).alloc (by simp) _).alloc (by simp; omega) _).drew⟩)
    go_region
    all_goals (go_wp2_with fail; go_meet; case rel => first | exact HA.out | exact HB.out)
  case rest =>
    have HC := Lib.hid hcut
    clear hcut
    go_wp2_with fail
    go_ret
    exact ⟨_, rfl, HC.out⟩

set_option maxRecDepth 100000 in
theorem clone_nil (w : World) : Calls Try.prog 38 #[.slice none 0 0] w fun e w' => e = .returned (.slice none 0 0) ∧ w = w' := by
  have hnil := Lib.run_eql_slice_nil (P := Try.prog) w 25 3 none 0 0 0 0 Try.underlying25
  go_enter Try.func38, Try.ntmps38
  go_wp2_with fail
  go_ret
  exact ⟨rfl, rfl⟩
set_option maxRecDepth 100000 in
theorem reverse_nil (a : Option Addr) (c : Nat) (w : World) : Calls Try.prog 39 #[.slice a 0 c] w fun e w' => e = .returned (.tuple #[]) ∧ w = w' := by
  go_enter Try.func39, Try.ntmps39
  go_wp2_with fail
  go_loop [2, 3] (fun i j => i = I 0 ∧ j = I (-1)) (fun _ _ => 0)
  case atStart => exact ⟨rfl, rfl⟩
  case round =>
    obtain ⟨rfl, rfl⟩ := hrel
    go_wp2_with fail
    go_end0
    exact ⟨rfl, rfl⟩
set_option maxRecDepth 100000 in
theorem order_nil (bw : Nat) (v0 v2 v3 : Value) (w : World) (h : Blk bw #[v0, .slice none 0 0, v2, v3] 62 w) :
    Calls Try.prog 29 #[.pointer (some ⟨bw, 0, none⟩)] w fun e w' => e = .returned (.slice none 0 0) ∧ w = w' := by
  have c1 := h.get 1 (.slice none 0 0) rfl
  go_enter Try.func29, Try.ntmps29
  go_wp2_with fail
  refine (clone_nil w).mono ?_
  rintro e w' ⟨rfl, rfl⟩
  go_wp2_with fail
  refine (reverse_nil none 0 w).mono ?_
  rintro e w' ⟨rfl, rfl⟩
  go_wp2_with fail
  go_ret
  exact ⟨rfl, rfl⟩
set_option maxRecDepth 100000 in
theorem into_nil (a : Option Addr) (c : Nat) (w : World) :
    Calls Try.prog 30 #[.slice a 0 c] w fun e w' => ∃ bl, e = .returned (.slice (some ⟨bl, 0, none⟩) 0 0) ∧ Blk bl #[] 25 w' ∧ w.heap.size ≤ bl ∧ Below w.heap.size w w' := by
  have hmk : ∀ u : World, (Instr.makeSlice 22 (.int .i64 0) (.int .i64 0)).run Try.prog u = .ok (.slice (some ⟨u.heap.size, 0, none⟩) 0 0) (u.alloc (.cells #[] 25)) := fun u => mkSn 0 (by omega) u
  have FIN := Lib.hid (show Blk w.heap.size #[] 25 (w.alloc (.cells #[] 25)) ∧ w.heap.size ≤ w.heap.size ∧ Below w.heap.size w (w.alloc (.cells #[] 25)) from ⟨Blk.new _ _ _, Nat.le_refl _, (Below.refl _ _).alloc (Nat.le_refl _) _⟩)
  go_enter Try.func30, Try.ntmps30
  go_wp2_with fail
  go_loop [13] (fun iv => iv = I 0) (fun _ => 0)
  case atStart => rfl
  case round =>
    subst hrel
    go_wp2_with fail
    go_ret
    exact ⟨_, rfl, FIN.out⟩
theorem gz_nil (w : World) (a : Option Addr) (c : Nat) : GZ w (.slice a 0 c) [] := ⟨a, c, rfl, fun i h => absurd h (by simp)⟩
set_option maxRecDepth 100000 in
theorem Order_nil (a : Option Addr) (c : Nat) (w : World) :
    Calls Try.prog 11 #[.slice a 0 c] w fun e w' => e = .returned (.tuple #[.slice none 0 0, I 0]) ∧ Below w.heap.size w w' := by
  have HFA := Lib.hid (fault_gz (.slice a 0 c) [] (by simp) (by simp) w (gz_nil w a c))
  go_enter Try.func11, Try.ntmps11
  go_wp2_with fail
  refine HFA.out.mono ?_
  rintro e w' ⟨rfl, rfl⟩
  rw [show Fl.errF [] = 0 from rfl]
  go_wp2_with fail
  refine (newWalk_nil a c w).mono ?_
  rintro e w1 ⟨p, rfl, bw, bf, br, rfl, hW, hb⟩
  have HO := Lib.hid (order_nil bw _ _ _ w1 hW.blk)
  have HB := Lib.hid hb
  clear hW hb
  go_wp2_with fail
  refine HO.out.mono ?_
  rintro e w' ⟨rfl, rfl⟩
  go_wp2_with fail
  go_ret2
  exact ⟨rfl, HB.out⟩
set_option maxRecDepth 100000 in
theorem Into_nil (a : Option Addr) (c : Nat) (w : World) :
    Calls Try.prog 12 #[.slice a 0 c] w fun e w' => ∃ bl, e = .returned (.tuple #[.slice (some ⟨bl, 0, none⟩) 0 0, I 0]) ∧ Below w.heap.size w w' := by
  have HFA := Lib.hid (fault_gz (.slice a 0 c) [] (by simp) (by simp) w (gz_nil w a c))
  go_enter Try.func12, Try.ntmps12
  go_wp2_with fail
  refine HFA.out.mono ?_
  rintro e w' ⟨rfl, rfl⟩
  rw [show Fl.errF [] = 0 from rfl]
  go_wp2_with fail
  refine (into_nil a c w).mono ?_
  rintro e w1 ⟨bl, rfl, _, _, hb⟩
  have HB := Lib.hid hb
  clear hb
  go_wp2_with fail
  go_ret2
  exact ⟨_, rfl, HB.out⟩
end Go.Proofs.Ytomfmkddfgpmkaa

/-! The document's examples: the walk. -/

namespace Go.Proofs.Ytomfmkddfgpmkaa
open Go Go.RowKit Fl

namespace Fl
theorem ex_order : orderL (natG [[1, 2], [3], [3], [1]]) = [0, 2, 1, 3] := by kernel_rfl
theorem ex_abv : abvL (natG [[1, 2], [3], [3], [1]]) = [-1, 0, 0, 0] := by kernel_rfl
theorem ex_nat2 : natG [[1], [2, 3], [1], []] = [[1], [2, 3], [1], []] := by kernel_rfl
theorem ex_abv2 : abvL [[1], [2, 3], [1], []] = [-1, 0, 1, 1] := by kernel_rfl
theorem ex_order2 : orderL [[1], [2, 3], [1], []] = [0, 1, 3, 2] := by kernel_rfl
theorem ex_into2 : intoF [[1], [2, 3], [1], []] = [[], [0, 2], [1], [1]] := by kernel_rfl
theorem sort_two : sortN [2, 1] = [1, 2] := by
  simp [sortN, List.mergeSort, List.MergeSort.Internal.splitInTwo]
theorem ex_loops : lpsL (natG [[1], [2, 3], [1], []]) = [(1, [1, 2])] := by
  rw [ex_nat2]
  have h : ([[1], [2, 3], [1], []] : List (List Nat)).length = 4 := rfl
  unfold lpsL
  rw [ex_abv2, ex_order2, ex_into2, h, if_neg (by decide)]
  obtain ⟨ov, hov⟩ : ∃ ov, ov = overB (forP (abF [-1, 0, 1, 1]) 4 [0, 1, 3, 2]) (forS (abF [-1, 0, 1, 1]) 4 [0, 1, 3, 2]) := ⟨_, rfl⟩
  rw [← hov]
  have e0 : endsF [[], [0, 2], [1], [1]] ov 0 = [] := by rw [hov]; kernel_rfl
  have e1 : endsF [[], [0, 2], [1], [1]] ov 1 = [2] := by rw [hov]; kernel_rfl
  have e2 : endsF [[], [0, 2], [1], [1]] ov 2 = [] := by rw [hov]; kernel_rfl
  have e3 : endsF [[], [0, 2], [1], [1]] ov 3 = [] := by rw [hov]; kernel_rfl
  have eb : bkF [[], [0, 2], [1], [1]] (muB 4 4 [2] [1] + 1) [2] [1] = some [2, 1] := by kernel_rfl
  rw [loopL_none e3, loopL_none e2, loopL_some (by rw [e1]; decide) (by rw [e1]; exact eb), loopL_none e0, sort_two]
  rfl
end Fl

theorem rowZ_blk {w : World} {r : Nat} {l : List Int} (h : Blk r (arrZ l) 3 w) : RowZ w (.slice (some ⟨r, 0, none⟩) l.length l.length) l :=
  ⟨_, _, rfl, fun j hj => ⟨r, rfl, h.lt, h.get j _ (arrZ_get l j hj)⟩⟩
def exA (w : World) : World := ((((w.alloc (.cells #[I 1, I 2] 3)).alloc (.cells #[I 3] 3)).alloc (.cells #[I 3] 3)).alloc (.cells #[I 1] 3)).alloc (.cells #[.slice (some ⟨w.heap.size, 0, none⟩) 2 2, .slice (some ⟨w.heap.size + 1, 0, none⟩) 1 1, .slice (some ⟨w.heap.size + 1 + 1, 0, none⟩) 1 1, .slice (some ⟨w.heap.size + 1 + 1 + 1, 0, none⟩) 1 1] 25)
def exB (w : World) : World := (((w.alloc (.cells #[I 1] 3)).alloc (.cells #[I 2, I 3] 3)).alloc (.cells #[I 1] 3)).alloc (.cells #[.slice (some ⟨w.heap.size, 0, none⟩) 1 1, .slice (some ⟨w.heap.size + 1, 0, none⟩) 2 2, .slice (some ⟨w.heap.size + 1 + 1, 0, none⟩) 1 1, .slice none 0 0] 25)
theorem exA_below (w : World) : Below w.heap.size w (exA w) := (((((Below.refl _ _).alloc (Nat.le_refl _) _).alloc (by simp) _).alloc (by simp; omega) _).alloc (by simp; omega) _).alloc (by simp; omega) _
theorem exB_below (w : World) : Below w.heap.size w (exB w) := ((((Below.refl _ _).alloc (Nat.le_refl _) _).alloc (by simp) _).alloc (by simp; omega) _).alloc (by simp; omega) _
theorem exA_gr (w : World) : GrZ (exA w) (w.heap.size + 1 + 1 + 1 + 1) [[1, 2], [3], [3], [1]] := by
  have k0 : Blk w.heap.size (arrZ [1, 2]) 3 (exA w) := ((((Blk.new w _ _).alloc _).alloc _).alloc _).alloc _
  have k1 : Blk (w.heap.size + 1) (arrZ [3]) 3 (exA w) := (((Blk.new' (w.alloc _) _ _ (by simp)).alloc _).alloc _).alloc _
  have k2 : Blk (w.heap.size + 1 + 1) (arrZ [3]) 3 (exA w) := ((Blk.new' ((w.alloc _).alloc _) _ _ (by simp)).alloc _).alloc _
  have k3 : Blk (w.heap.size + 1 + 1 + 1) (arrZ [1]) 3 (exA w) := (Blk.new' (((w.alloc _).alloc _).alloc _) _ _ (by simp)).alloc _
  have k4 : Blk (w.heap.size + 1 + 1 + 1 + 1) #[.slice (some ⟨w.heap.size, 0, none⟩) 2 2, .slice (some ⟨w.heap.size + 1, 0, none⟩) 1 1, .slice (some ⟨w.heap.size + 1 + 1, 0, none⟩) 1 1, .slice (some ⟨w.heap.size + 1 + 1 + 1, 0, none⟩) 1 1] 25 (exA w) := Blk.new' ((((w.alloc _).alloc _).alloc _).alloc _) _ _ (by simp)
  refine ⟨k4.lt, fun i hi => ?_⟩
  match i, hi with
  | 0, _ => exact ⟨_, k4.get 0 _ rfl, rowZ_blk k0⟩
  | 1, _ => exact ⟨_, k4.get 1 _ rfl, rowZ_blk k1⟩
  | 2, _ => exact ⟨_, k4.get 2 _ rfl, rowZ_blk k2⟩
  | 3, _ => exact ⟨_, k4.get 3 _ rfl, rowZ_blk k3⟩
  | i + 4, h => exact absurd h (by simp)
theorem exB_gr (w : World) : GrZ (exB w) (w.heap.size + 1 + 1 + 1) [[1], [2, 3], [1], []] := by
  have k0 : Blk w.heap.size (arrZ [1]) 3 (exB w) := (((Blk.new w _ _).alloc _).alloc _).alloc _
  have k1 : Blk (w.heap.size + 1) (arrZ [2, 3]) 3 (exB w) := ((Blk.new' (w.alloc _) _ _ (by simp)).alloc _).alloc _
  have k2 : Blk (w.heap.size + 1 + 1) (arrZ [1]) 3 (exB w) := (Blk.new' ((w.alloc _).alloc _) _ _ (by simp)).alloc _
  have k4 : Blk (w.heap.size + 1 + 1 + 1) #[.slice (some ⟨w.heap.size, 0, none⟩) 1 1, .slice (some ⟨w.heap.size + 1, 0, none⟩) 2 2, .slice (some ⟨w.heap.size + 1 + 1, 0, none⟩) 1 1, .slice none 0 0] 25 (exB w) := Blk.new' (((w.alloc _).alloc _).alloc _) _ _ (by simp)
  refine ⟨k4.lt, fun i hi => ?_⟩
  match i, hi with
  | 0, _ => exact ⟨_, k4.get 0 _ rfl, rowZ_blk k0⟩
  | 1, _ => exact ⟨_, k4.get 1 _ rfl, rowZ_blk k1⟩
  | 2, _ => exact ⟨_, k4.get 2 _ rfl, rowZ_blk k2⟩
  | 3, _ => exact ⟨_, k4.get 3 _ rfl, none, 0, rfl, fun j hj => absurd hj (by simp)⟩
  | i + 4, h => exact absurd h (by simp)
theorem tame_ex {Z : List (List Int)} (h : Z.length = 4) (h2 : ∀ l ∈ Z, l.length ≤ 1000) : TameZ Z := ⟨by omega, fun i hi => h2 _ (List.getElem_mem hi)⟩
theorem exA_order (w : World) : Calls Try.prog 11 #[.slice (some ⟨w.heap.size + 1 + 1 + 1 + 1, 0, none⟩) 4 4] (exA w) fun e w' => ∃ v, e = .returned (.tuple #[v, I 0]) ∧ RowZ w' v [0, 2, 1, 3] ∧ Below (exA w).heap.size (exA w) w' := by
  refine (Order_any _ 4 [[1, 2], [3], [3], [1]] (tame_ex rfl (by decide)) (by decide) _ (exA_gr w)).mono ?_
  rintro e w' ⟨v, rfl, h1, h2⟩
  rw [if_pos (show errF [[1, 2], [3], [3], [1]] = 0 by kernel_rfl), ex_order] at h1
  exact ⟨v, rfl, nums_rowZ h1, h2⟩
theorem exA_above (w w2 : World) (hb : Below (exA w).heap.size (exA w) w2) : Calls Try.prog 18 #[.slice (some ⟨w.heap.size + 1 + 1 + 1 + 1, 0, none⟩) 4 4] w2 fun e w' => ∃ v, e = .returned (.tuple #[v, I 0]) ∧ RowZ w' v [-1, 0, 0, 0] ∧ Below w2.heap.size w2 w' := by
  refine (Above_any _ 4 [[1, 2], [3], [3], [1]] (tame_ex rfl (by decide)) (by decide) w2 ((exA_gr w).below hb)).mono ?_
  rintro e w' ⟨v, rfl, h1, _, h2⟩
  obtain ⟨b, rfl, h3, _, _⟩ := h1 (by kernel_rfl)
  rw [ex_abv] at h3
  exact ⟨_, rfl, rowZ_blk h3, h2⟩
theorem exB_loops (w : World) : Calls Try.prog 22 #[.slice (some ⟨w.heap.size + 1 + 1 + 1, 0, none⟩) 4 4] (exB w) fun e w' => ∃ g c nv, e = .returned (.tuple #[.slice (some ⟨g, 0, none⟩) 1 c, I 0]) ∧ w'.cell? ⟨g, 0, none⟩ = some (I 1) ∧ w'.cell? ⟨g, 1, none⟩ = some nv ∧ RowZ w' nv [1, 2] ∧ g < w'.heap.size ∧ Below (exB w).heap.size (exB w) w' := by
  refine (Loops_any _ 4 [[1], [2, 3], [1], []] (tame_ex rfl (by decide)) (by decide) _ (exB_gr w)).mono ?_
  rintro e w' ⟨v, rfl, h1, h2⟩
  rw [if_pos (show errF [[1], [2, 3], [1], []] = 0 by kernel_rfl), ex_loops] at h1
  obtain ⟨vs, q1, q2, q3⟩ := h1
  rcases own_slice q2 with ⟨_, h⟩ | ⟨g, c, rfl⟩
  · exact absurd h (by decide)
  · obtain ⟨nv, rfl⟩ : ∃ nv, vs = [nv] := by
      match vs, q1 with
      | [nv], _ => exact ⟨nv, rfl⟩
    have hn := (q3 0 (by simp) (by simp)).1
    exact ⟨g, c, nv, rfl, by rw [q2.cellAt 0 (by decide)]; rfl, by rw [q2.cellAt 1 (by decide)]; rfl, nums_rowZ hn, (q2.lt g rfl).2, h2⟩
theorem Same_one (u : Value) (l : List Int) (hl : l.length ≤ 1000) (w w1 : World) (cs : Array Value) (k : Nat) (hk : l.length = k) (hcs : cs = arrZ l) (hw : w1 = w.alloc (.cells cs 3)) (h1 : RowZ w u l) :
    Calls Try.prog 15 #[u, .slice (some ⟨w.heap.size, 0, none⟩) k k] w1 fun e w' => e = .returned (.bool true) ∧ Below w.heap.size w w' := by
  subst hk hcs hw
  refine (Same_any u _ l l (by omega) (by omega) _ (h1.below ((Below.refl _ _).alloc (Nat.le_refl _) _)) (rowZ_blk (Blk.new w _ _))).mono ?_
  rintro e w' ⟨rfl, h⟩
  have hb : Below w.heap.size w (w.alloc (.cells (arrZ l) 3)) := (Below.refl _ _).alloc (Nat.le_refl _) _
  exact ⟨by simp, ⟨h.os.trans hb.os, h.tape.trans hb.tape, h.output.trans hb.output, Nat.le_trans hb.size h.size, fun k hk => (h.block k (Nat.lt_of_lt_of_le hk hb.size)).trans (hb.block k hk)⟩⟩

set_option maxRecDepth 100000 in
set_option maxHeartbeats 1600000 in
theorem awake_any (w : World) : Calls Try.prog 8 #[] w fun e w' => e = .returned (.bool true) ∧ Below w.heap.size w w' := by
  go_enter Try.func8, Try.ntmps8
  go_upto_region 2 with (fail)
  change Code.wp _ _ _ _ (exA w)
  go_wp2_with fail
  refine (exA_order w).mono ?_
  rintro e w2 ⟨v2, rfl, r2, b2⟩
  have H2 := Lib.hid (And.intro r2 b2)
  have HA := Lib.hid (exA_above w w2 b2)
  clear r2 b2
  go_wp2_with fail
  refine HA.out.mono ?_
  rintro e w3 ⟨v3, rfl, r3, b3⟩
  have H3 := Lib.hid (And.intro (H2.out.1.below b3) (And.intro r3 (belowB H2.out.2 b3)))
  clear r3 b3 HA H2
  go_wp2_with fail
  refine (exB_loops w3).mono ?_
  rintro e w4 ⟨g, c, nv, rfl, c0, c1, r4, hg, b4⟩
  have b34 := belowB (exB_below w3) b4
  have H4 := Lib.hid (And.intro (H3.out.1.below b34) (And.intro (H3.out.2.1.below b34) (And.intro c0 (And.intro c1 (And.intro r4 (And.intro hg (belowB (exA_below w) (belowB H3.out.2.2 b34))))))))
  clear c0 c1 r4 hg b4 b34 H3
  go_wp2_with fail
  refine (Same_one v2 [0, 2, 1, 3] (by decide) w4 _ _ 4 rfl rfl rfl H4.out.1).mono ?_
  rintro e w5 ⟨rfl, b5⟩
  have H5 := Lib.hid (And.intro (H4.out.2.1.below b5) (And.intro (cell_below b5 H4.out.2.2.2.2.2.1 H4.out.2.2.1) (And.intro (cell_below b5 H4.out.2.2.2.2.2.1 H4.out.2.2.2.1) (And.intro (H4.out.2.2.2.2.1.below b5) (And.intro (Nat.lt_of_lt_of_le H4.out.2.2.2.2.2.1 b5.size) (belowB H4.out.2.2.2.2.2.2 b5))))))
  clear b5 H4
  go_wp2_with fail
  refine (Same_one v3 [-1, 0, 0, 0] (by decide) w5 _ _ 4 rfl rfl rfl H5.out.1).mono ?_
  rintro e w6 ⟨rfl, b6⟩
  have c0 := cell_below b6 H5.out.2.2.2.2.1 H5.out.2.1
  have c1 := cell_below b6 H5.out.2.2.2.2.1 H5.out.2.2.1
  have hg6 := Nat.lt_of_lt_of_le H5.out.2.2.2.2.1 b6.size
  have hne : ¬ g = w6.heap.size := by omega
  have H6 := Lib.hid (And.intro (H5.out.2.2.2.1.below b6) (belowB H5.out.2.2.2.2.2 b6))
  clear b6 H5
  go_wp2_with fail
  refine (Same_one nv [1, 2] (by decide) w6 _ _ 2 rfl rfl rfl H6.out.1).mono ?_
  rintro e w7 ⟨rfl, b7⟩
  have FIN := Lib.hid (belowB H6.out.2 b7)
  clear b7 H6 c0 c1 hg6 hne
  go_wp2_with fail
  go_ret
  exact ⟨rfl, FIN.out⟩
end Go.Proofs.Ytomfmkddfgpmkaa

/-! A graph of one's own: what tame leaves, its order. -/

namespace Go.Proofs.Ytomfmkddfgpmkaa
open Go Go.RowKit Fl

theorem GZc.below {w w' : World} {v : Value} {Z : List (List Int)} (h : GZc w v Z) (hb : Below w.heap.size w w') : GZc w' v Z := by
  obtain ⟨a, c, e, h⟩ := h
  refine ⟨a, c, e, fun j hj => ?_⟩
  obtain ⟨g, rv, h1, h2, h3, h4, h5⟩ := h j hj
  exact ⟨g, rv, h1, Nat.lt_of_lt_of_le h2 hb.size, cell_belowA hb h2 h3, h4.below hb, h5⟩
theorem tameF_ok (Z : List (List Int)) : TameZ (tameF Z) := by
  refine ⟨?_, fun i hi => ?_⟩
  · unfold tameF
    rw [List.length_map, List.length_take]
    omega
  · obtain ⟨l, _, e⟩ := List.mem_map.1 (show (tameF Z)[i] ∈ (Z.take 24).map (fun l => l.take 6) from List.getElem_mem hi)
    rw [← e, List.length_take]
    omega
theorem OwnG.size {base : Nat} {Z : List (List Int)} {v : Value} {W : World} (h : OwnG base Z v W) : ∃ a c, v = .slice a Z.length c := by
  obtain ⟨vs, _, h2, _⟩ := h
  rcases own_slice h2 with ⟨e, e2⟩ | ⟨g, c, e⟩
  · exact ⟨_, _, by rw [e, e2]⟩
  · exact ⟨_, _, e⟩
theorem order_small {T : List (List Int)} (h : TameZ T) (he : errF T = 0) : (orderL (natG T)).length ≤ 24 := by
  unfold orderL
  split
  · simp
  · rename_i h0
    obtain ⟨_, ⟨P, hP⟩, _, _⟩ := wlk_inv (natG_ok he) (Nat.pos_of_ne_zero h0)
    have := left_le hP
    rw [natG_len] at this
    rw [List.length_reverse]
    have := h.1
    omega
/-- An order, of whatever graph of one's own. -/
theorem Order_own (v : Value) (Z : List (List Int)) (base : Nat) (ht : TameZ Z) (w : World) (h : OwnG base Z v w) :
    Calls Try.prog 11 #[v] w fun e w' => ∃ u, e = .returned (.tuple #[u, I (errF Z)]) ∧ Nums w' w.heap.size u (if errF Z = 0 then orderL (natG Z) else []) ∧ Below w.heap.size w w' := by
  by_cases hz : Z = []
  · subst hz
    obtain ⟨a, c, rfl⟩ := h.size
    refine (Order_nil a c w).mono ?_
    rintro e w' ⟨rfl, hb⟩
    exact ⟨_, rfl, World.ownsRow_nil _ _ _ _, hb⟩
  · obtain ⟨bg, c, rfl, hg⟩ := h.gz.grZ hz
    exact (Order_any bg c Z ht hz w hg).mono fun e w' h => h
end Go.Proofs.Ytomfmkddfgpmkaa
