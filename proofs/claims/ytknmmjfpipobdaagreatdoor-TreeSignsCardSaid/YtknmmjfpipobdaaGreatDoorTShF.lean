/-
  A block, a function, a program written: one return with its value.
-/
import Derived.Test.YtknmmjfpipobdaaGreatDoorTShU
namespace Go.Proofs.YtknmmjfpipobdaaGreatDoor
open Go Go.RowKit Px

abbrev blkT (d : Nat) (t : Bytes) : Bytes := [32, 123, 10] ++ (retL (d + 1) t ++ (Lib.repeatL [32, 32] d ++ [125]))
abbrev retS (id pos : Nat) (x : Ex) : Sm := .mk 6 id [] 0 0 pos [x] [] []

theorem SmRow_down {N b : Nat} {w w' : World} {l : List Sm} {sv : Value} (h : SmRow w (fun g => g < N) l sv) (hk : WK N b w w') : SmRow w' (fun g => g < N) l sv :=
  h.stays fun g hg _ => ⟨hk.1.block g hg, hg⟩

set_option maxRecDepth 100000 in
set_option maxHeartbeats 2000000 in
theorem block_W (x : Ex) (t : Bytes) (cn : Nat) (hE : ExW x t cn) (N b : Nat) (l : Bytes) (k : Int) (w : World) (id pos g cap d : Nat) (hN : N ≤ b) (hNw : N ≤ w.heap.size) (hb : WB N b l k w)
    (hx : SmRow w (fun g => g < N) [retS id pos x] (.slice (some ⟨g, 0, none⟩) 1 cap)) (hk1 : (cn : Int) + 1 ≤ k) (hk2 : k ≤ 100000) (hd : d < 200) (hlen : l.length + (blkT d t).length ≤ 1000000) :
    Calls Tryz.prog 59 #[.pointer (some ⟨b, 0, none⟩), .slice (some ⟨g, 0, none⟩) 1 cap, .int .i64 (d : Int)] w (WPost N b (l ++ blkT d t) (k - 1 - cn) w) := by
  have HP1 := Lib.hid (put1 N b [32, 123, 10] l k w hN hNw hb (by simp at hlen ⊢; omega))
  have HS := Lib.hid fun l1 k1 w1 (hk : WK N b w w1) (h2 : WB N b l1 k1 w1) h4 h5 h6 => statements_W x t cn hE N b l1 k1 w1 id pos g cap (d + 1) hN (Nat.le_trans hNw hk.1.size) h2 (SmRow_down hx hk) h4 h5 (by omega) h6
  have HI := Lib.hid fun l1 k1 w1 (hk : WK N b w w1) (h2 : WB N b l1 k1 w1) h3 => indent_any N b d l1 k1 w1 hN (Nat.le_trans hNw hk.1.size) h2 (by omega) h3
  have HP := Lib.hid fun l1 k1 w1 (hk : WK N b w w1) (h2 : WB N b l1 k1 w1) h3 => put1 N b [125] l1 k1 w1 hN (Nat.le_trans hNw hk.1.size) h2 h3
  have HLEN := Lib.hid hlen
  have hdi : (d : Int) < 200 := by omega
  have hd0 : (0 : Int) ≤ d := by omega
  clear hx hE hb hlen
  go_enter Tryz.func59, Tryz.ntmps59
  go_wp2_with fail
  refine HP1.out.mono ?_
  rintro e w1 ⟨rfl, h1', hK1⟩
  have HK1 := Lib.hid hK1
  have HQ := Lib.hid (HS.out _ _ w1 hK1 h1' (by omega) (by omega) (by have := HLEN.out; unfold blkT at this; simp only [List.length_append] at this ⊢; omega))
  rw [show ((d + 1 : Nat) : Int) = (d : Int) + 1 from rfl] at HQ
  clear h1' hK1
  go_wp2_with fail
  refine HQ.out.mono ?_
  rintro e w2 ⟨rfl, h1', h2'⟩
  have hK2 := HK1.out.trans h2'
  have HK2 := Lib.hid hK2
  have HQ2 := Lib.hid (HI.out _ _ w2 hK2 h1' (by have := HLEN.out; unfold blkT at this; simp only [List.length_append] at this ⊢; omega))
  clear h1' h2' hK2
  go_wp2_with fail
  refine HQ2.out.mono ?_
  rintro e w3 ⟨rfl, h1', h2'⟩
  have hK3 := HK2.out.trans h2'
  have HK3 := Lib.hid hK3
  have HQ3 := Lib.hid (HP.out _ _ w3 hK3 h1' (by have := HLEN.out; unfold blkT at this; simp only [List.length_append, List.length_cons, List.length_nil] at this ⊢; omega))
  clear h1' h2' hK3
  go_wp2_with fail
  refine HQ3.out.mono ?_
  rintro e w4 ⟨rfl, h1', h2'⟩
  have FIN := Lib.hid (show WPost N b (l ++ blkT d t) (k - 1 - cn) w (.returned (.tuple #[])) w4 from ⟨rfl, by unfold blkT; simpa [List.append_assoc] using h1', HK3.out.trans h2'⟩)
  clear h1' h2'
  go_wp2
  go_end0
  exact FIN.out

abbrev fnT (nm : Bytes) (y : Nat) (t : Bytes) : Bytes := ([102, 110, 32] ++ (nm ++ [40])) ++ ([41] ++ (([58, 32] ++ nameOf y) ++ (blkT 0 t ++ [10])))
abbrev fnC (nm : Bytes) (y pos : Nat) (a1 : Option Addr) (c1 g cap : Nat) : Array Value := fuCells nm (.slice a1 0 c1) y (.slice (some ⟨g, 0, none⟩) 1 cap) pos

set_option maxRecDepth 100000 in
set_option maxHeartbeats 2000000 in
theorem function_W (x : Ex) (t : Bytes) (cn : Nat) (hE : ExW x t cn) (N b : Nat) (l : Bytes) (k : Int) (w : World) (id pos g cap : Nat) (nm : Bytes) (y pf : Nat) (a1 : Option Addr) (c1 : Nat) (hy : 1 ≤ y) (hN : N ≤ b) (hNw : N ≤ w.heap.size) (hb : WB N b l k w)
    (hx : SmRow w (fun g => g < N) [retS id pos x] (.slice (some ⟨g, 0, none⟩) 1 cap)) (hk1 : (cn : Int) + 1 ≤ k) (hk2 : k ≤ 100000) (hlen : l.length + (fnT nm y t).length ≤ 1000000) :
    Calls Tryz.prog 42 #[.pointer (some ⟨b, 0, none⟩), .agg (fnC nm y pf a1 c1 g cap)] w (WPost N b (l ++ fnT nm y t) (k - 1 - cn) w) := by
  obtain ⟨W, hW⟩ : ∃ W, W = w.alloc (.cells (fnC nm y pf a1 c1 g cap) 42) := ⟨_, rfl⟩
  have hbW : Below w.heap.size w W := by rw [hW]; exact (Below.refl _ _).alloc (Nat.le_refl _) _
  have hB : Blk w.heap.size (fnC nm y pf a1 c1 g cap) 42 W := by rw [hW]; exact Blk.new _ _ _
  have hKW : WK N b w W := WK.of_below hNw hbW
  have HP1 := Lib.hid (put3 N b [102, 110, 32] nm [40] l k W hN (Nat.le_trans hNw hbW.size) (hb.below hbW) (by unfold fnT at hlen; simp only [List.length_append] at hlen ⊢; omega))
  have HP := Lib.hid fun z l1 k1 w1 (hk : WK N b w w1) (h2 : WB N b l1 k1 w1) h3 => put1 N b z l1 k1 w1 hN (Nat.le_trans hNw hk.1.size) h2 h3
  have HP2 := Lib.hid fun l1 k1 w1 (hk : WK N b w w1) (h2 : WB N b l1 k1 w1) h3 => put2 N b [58, 32] (nameOf y) l1 k1 w1 hN (Nat.le_trans hNw hk.1.size) h2 h3
  have HNm := Lib.hid fun w1 => name_any' y w1
  have HS := Lib.hid fun l1 k1 w1 (hk : WK N b w w1) (h2 : WB N b l1 k1 w1) h4 h5 h6 => block_W x t cn hE N b l1 k1 w1 id pos g cap 0 hN (Nat.le_trans hNw hk.1.size) h2 (SmRow_down hx hk) h4 h5 (by omega) h6
  have HH := Lib.hid (And.intro hKW (And.intro hB hb))
  have HLEN := Lib.hid hlen
  have HWW := Lib.hid hW
  have hy1 : (1 : Int) ≤ y := by omega
  have hblt := hb.lt
  obtain ⟨c0, c1, c2, c3, c4⟩ := hB.get5
  clear hx hbW hW hb hB hKW hE hlen
  go_enter Tryz.func42, Tryz.ntmps42
  go_upto_region 1 with (fail)
  rw [← HWW.out]
  go_wp2_with fail
  refine HP1.out.mono ?_
  rintro e w1 ⟨rfl, h1', h2'⟩
  have hB1 := h2'.blk HH.out.2.1 (by omega) (by decide)
  have hK1 := HH.out.1.trans h2'
  have HB1 := Lib.hid hB1
  have HK1 := Lib.hid hK1
  clear c0 c1 c2 c3 c4
  obtain ⟨c0, c1, c2, c3, c4⟩ := hB1.get5
  have HQ2 := Lib.hid (HP.out [41] _ _ w1 hK1 h1' (by have := HLEN.out; unfold fnT at this; simp only [List.length_append] at this ⊢; omega))
  clear h1' h2' hB1 hK1
  go_wp2_with fail
  refine wp_loop_rounds 1 ?_
  rw [rounds_succ]
  go_wp2_with fail
  refine HQ2.out.mono ?_
  rintro e w2 ⟨rfl, h1', h2'⟩
  have hB2 := h2'.blk HB1.out (by omega) (by decide)
  have hK2 := HK1.out.trans h2'
  have HB2 := Lib.hid hB2
  have HK2 := Lib.hid hK2
  clear c0 c1 c2 c3 c4
  obtain ⟨c0, c1, c2, c3, c4⟩ := hB2.get5
  have HQ3 := Lib.hid (HP2.out _ _ w2 hK2 h1' (by have := HLEN.out; unfold fnT at this; simp only [List.length_append] at this ⊢; omega))
  clear h1' h2' hB2 hK2
  go_wp2_with fail
  refine (HNm.out w2).mono ?_
  rintro e w2' ⟨rfl, rfl⟩
  go_wp2_with fail
  refine HQ3.out.mono ?_
  rintro e w3 ⟨rfl, h1', h2'⟩
  have hB3 := h2'.blk HB2.out (by omega) (by decide)
  have hK3 := HK2.out.trans h2'
  have HK3 := Lib.hid hK3
  clear c0 c1 c2 c3 c4
  obtain ⟨c0, c1, c2, c3, c4⟩ := hB3.get5
  have HQ4 := Lib.hid (HS.out _ _ w3 hK3 h1' (by omega) (by omega) (by have := HLEN.out; unfold fnT at this; simp only [List.length_append] at this ⊢; omega))
  clear h1' h2' hB3 hK3
  go_wp2_with fail
  refine HQ4.out.mono ?_
  rintro e w4 ⟨rfl, h1', h2'⟩
  have hK4 := HK3.out.trans h2'
  have HK4 := Lib.hid hK4
  have HQ5 := Lib.hid (HP.out [10] _ _ w4 hK4 h1' (by have := HLEN.out; unfold fnT at this; simp only [List.length_append] at this ⊢; omega))
  clear h1' h2' hK4 c0 c1 c2 c3 c4
  go_wp2_with fail
  refine HQ5.out.mono ?_
  rintro e w5 ⟨rfl, h1', h2'⟩
  have FIN := Lib.hid (show WPost N b (l ++ fnT nm y t) (k - 1 - cn) w (.returned (.tuple #[])) w5 from ⟨rfl, by unfold fnT; simpa [List.append_assoc] using h1', HK4.out.trans h2'⟩)
  clear h1' h2'
  go_wp2
  go_end0
  exact FIN.out
end Go.Proofs.YtknmmjfpipobdaaGreatDoor
