/-
  The graph of no nodes: the walks of Order and Into.
-/
import Derived.Test.YtomfmkddfgpmkaaFRefI
namespace Go.Proofs.Ytomfmkddfgpmkaa
open Go Go.RowKit Fl

set_option maxRecDepth 100000 in
set_option maxHeartbeats 800000 in
theorem newWalk_nil (a : Option Addr) (c : Nat) (w : World) :
    Calls Try.prog 28 #[.slice a 0 c] w fun e w' => ∃ p, e = .returned p ∧ NewP w 0 p w' := by
  obtain ⟨n, hn⟩ : ∃ n : Nat, n = 0 := ⟨_, rfl⟩
  have hmk := mkIn n (by omega)
  have hmb := mkBn n (by omega)
  have hnz : ((n : Int) == 0) = true := by rw [hn]; rfl
  rw [← hn]
  clear hn
  go_enter Try.func28, Try.ntmps28
  go_upto_region 1 with (fail)
  go_cut [3] from 7 to 14 (fun p W => NewP w n p W)
  case first =>
    have HA := Lib.hid (show NewP w n (.pointer (some ⟨w.heap.size + 1 + 1, 0, none⟩)) ((((w.alloc (.cells (arrZ (List.replicate n 0)) 3)).alloc (.cells (arrB (List.replicate n false)) 4)).alloc (.cells #[.slice none 0 0, .slice none 0 0, .slice (some ⟨w.heap.size, 0, none⟩) n n, .slice (some ⟨w.heap.size + 1, 0, none⟩) n n] 62))).drew from
      ⟨_, w.heap.size, w.heap.size + 1, rfl, ⟨Blk.new' _ _ _ (by simp), ((Blk.new _ _ _).alloc _).alloc _, (Blk.new' _ _ _ (by simp)).alloc _, by omega, by omega, by omega, by omega, by omega, by omega, by simp, by simp⟩, ((((Below.refl _ _).alloc (Nat.le_refl _) _).alloc (by simp) _).alloc (by simp; omega) _).drew⟩)
    have HB := Lib.hid (show NewP w n (.pointer (some ⟨w.heap.size + 1 + 1, 0, none⟩)) ((((w.alloc (.cells (arrB (List.replicate n false)) 4)).alloc (.cells (arrZ (List.replicate n 0)) 3)).alloc (.cells #[.slice none 0 0, .slice none 0 0, .slice (some ⟨w.heap.size + 1, 0, none⟩) n n, .slice (some ⟨w.heap.size, 0, none⟩) n n] 62))).drew from
      ⟨_, w.heap.size + 1, w.heap.size, rfl, ⟨Blk.new' _ _ _ (by simp), (Blk.new' _ _ _ (by simp)).alloc _, ((Blk.new _ _ _).alloc _).alloc _, by omega, by omega, by omega, by omega, by omega, by omega, by simp, by simp⟩, ((((Below.refl _ _).alloc (Nat.le_refl _) _).alloc (by simp) _).alloc (by simp; omega) _).drew⟩)
    go_region
    all_goals (go_wp2_with fail; go_meet; case rel => first | exact HA.out | exact HB.out)
  case rest =>
    have HC := Lib.hid hcut
    clear hcut
    go_wp2_with fail
    go_ret
    exact ⟨_, rfl, HC.out⟩

set_option maxRecDepth 100000 in
theorem clone_nil (w : World) : Calls Try.prog 38 #[.slice none 0 0] w fun e w' => e = .returned (.slice none 0 0) ∧ w = w' := by
  have hnil := Lib.run_eql_slice_nil (P := Try.prog) w 25 3 none 0 0 0 0 Try.underlying25
  go_enter Try.func38, Try.ntmps38
  go_wp2_with fail
  go_ret
  exact ⟨rfl, rfl⟩
set_option maxRecDepth 100000 in
theorem reverse_nil (a : Option Addr) (c : Nat) (w : World) : Calls Try.prog 39 #[.slice a 0 c] w fun e w' => e = .returned (.tuple #[]) ∧ w = w' := by
  go_enter Try.func39, Try.ntmps39
  go_wp2_with fail
  go_loop [2, 3] (fun i j => i = I 0 ∧ j = I (-1)) (fun _ _ => 0)
  case atStart => exact ⟨rfl, rfl⟩
  case round =>
    obtain ⟨rfl, rfl⟩ := hrel
    go_wp2_with fail
    go_end0
    exact ⟨rfl, rfl⟩
set_option maxRecDepth 100000 in
theorem order_nil (bw : Nat) (v0 v2 v3 : Value) (w : World) (h : Blk bw #[v0, .slice none 0 0, v2, v3] 62 w) :
    Calls Try.prog 29 #[.pointer (some ⟨bw, 0, none⟩)] w fun e w' => e = .returned (.slice none 0 0) ∧ w = w' := by
  have c1 := h.get 1 (.slice none 0 0) rfl
  go_enter Try.func29, Try.ntmps29
  go_wp2_with fail
  refine (clone_nil w).mono ?_
  rintro e w' ⟨rfl, rfl⟩
  go_wp2_with fail
  refine (reverse_nil none 0 w).mono ?_
  rintro e w' ⟨rfl, rfl⟩
  go_wp2_with fail
  go_ret
  exact ⟨rfl, rfl⟩
set_option maxRecDepth 100000 in
theorem into_nil (a : Option Addr) (c : Nat) (w : World) :
    Calls Try.prog 30 #[.slice a 0 c] w fun e w' => ∃ bl, e = .returned (.slice (some ⟨bl, 0, none⟩) 0 0) ∧ Blk bl #[] 25 w' ∧ w.heap.size ≤ bl ∧ Below w.heap.size w w' := by
  have hmk : ∀ u : World, (Instr.makeSlice 22 (.int .i64 0) (.int .i64 0)).run Try.prog u = .ok (.slice (some ⟨u.heap.size, 0, none⟩) 0 0) (u.alloc (.cells #[] 25)) := fun u => mkSn 0 (by omega) u
  have FIN := Lib.hid (show Blk w.heap.size #[] 25 (w.alloc (.cells #[] 25)) ∧ w.heap.size ≤ w.heap.size ∧ Below w.heap.size w (w.alloc (.cells #[] 25)) from ⟨Blk.new _ _ _, Nat.le_refl _, (Below.refl _ _).alloc (Nat.le_refl _) _⟩)
  go_enter Try.func30, Try.ntmps30
  go_wp2_with fail
  go_loop [13] (fun iv => iv = I 0) (fun _ => 0)
  case atStart => rfl
  case round =>
    subst hrel
    go_wp2_with fail
    go_ret
    exact ⟨_, rfl, FIN.out⟩
theorem gz_nil (w : World) (a : Option Addr) (c : Nat) : GZ w (.slice a 0 c) [] := ⟨a, c, rfl, fun i h => absurd h (by simp)⟩
set_option maxRecDepth 100000 in
theorem Order_nil (a : Option Addr) (c : Nat) (w : World) :
    Calls Try.prog 11 #[.slice a 0 c] w fun e w' => e = .returned (.tuple #[.slice none 0 0, I 0]) ∧ Below w.heap.size w w' := by
  have HFA := Lib.hid (fault_gz (.slice a 0 c) [] (by simp) (by simp) w (gz_nil w a c))
  go_enter Try.func11, Try.ntmps11
  go_wp2_with fail
  refine HFA.out.mono ?_
  rintro e w' ⟨rfl, rfl⟩
  rw [show Fl.errF [] = 0 from rfl]
  go_wp2_with fail
  refine (newWalk_nil a c w).mono ?_
  rintro e w1 ⟨p, rfl, bw, bf, br, rfl, hW, hb⟩
  have HO := Lib.hid (order_nil bw _ _ _ w1 hW.blk)
  have HB := Lib.hid hb
  clear hW hb
  go_wp2_with fail
  refine HO.out.mono ?_
  rintro e w' ⟨rfl, rfl⟩
  go_wp2_with fail
  go_ret2
  exact ⟨rfl, HB.out⟩
set_option maxRecDepth 100000 in
theorem Into_nil (a : Option Addr) (c : Nat) (w : World) :
    Calls Try.prog 12 #[.slice a 0 c] w fun e w' => ∃ bl, e = .returned (.tuple #[.slice (some ⟨bl, 0, none⟩) 0 0, I 0]) ∧ Below w.heap.size w w' := by
  have HFA := Lib.hid (fault_gz (.slice a 0 c) [] (by simp) (by simp) w (gz_nil w a c))
  go_enter Try.func12, Try.ntmps12
  go_wp2_with fail
  refine HFA.out.mono ?_
  rintro e w' ⟨rfl, rfl⟩
  rw [show Fl.errF [] = 0 from rfl]
  go_wp2_with fail
  refine (into_nil a c w).mono ?_
  rintro e w1 ⟨bl, rfl, _, _, hb⟩
  have HB := Lib.hid hb
  clear hb
  go_wp2_with fail
  go_ret2
  exact ⟨_, rfl, HB.out⟩
end Go.Proofs.Ytomfmkddfgpmkaa
