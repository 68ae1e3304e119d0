/-
  Statements, a block, a function written: one return with its value.
-/
import Derived.Test.YtknmmjfpipobdaaGreatDoorTShT
namespace Go.Proofs.YtknmmjfpipobdaaGreatDoor
open Go Go.RowKit Px

abbrev retL (d : Nat) (t : Bytes) : Bytes := Lib.repeatL [32, 32] d ++ ((retT t ++ [59]) ++ [10])

set_option maxRecDepth 100000 in
set_option maxHeartbeats 2000000 in
theorem statements_W (x : Ex) (t : Bytes) (cn : Nat) (hE : ExW x t cn) (N b : Nat) (l : Bytes) (k : Int) (w : World) (id pos g cap d : Nat) (hN : N ≤ b) (hNw : N ≤ w.heap.size) (hb : WB N b l k w)
    (hx : SmRow w (fun g => g < N) [.mk 6 id [] 0 0 pos [x] [] []] (.slice (some ⟨g, 0, none⟩) 1 cap)) (hk1 : (cn : Int) + 1 ≤ k) (hk2 : k ≤ 100000) (hd : d ≤ 1000) (hlen : l.length + (retL d t).length ≤ 1000000) :
    Calls Tryz.prog 76 #[.pointer (some ⟨b, 0, none⟩), .slice (some ⟨g, 0, none⟩) 1 cap, .int .i64 (d : Int)] w (WPost N b (l ++ retL d t) (k - 1 - cn) w) := by
  obtain ⟨hg, ge, ce, a2, m2, e2, a3, m3, e3, hxe, hcell⟩ := one_stm hx
  have c0 := hcell w (Below.refl _ _) 0 _ rfl
  have c1 := hcell w (Below.refl _ _) 1 _ rfl
  have c2 := hcell w (Below.refl _ _) 2 _ rfl
  have c3 := hcell w (Below.refl _ _) 3 _ rfl
  have c4 := hcell w (Below.refl _ _) 4 _ rfl
  have c5 := hcell w (Below.refl _ _) 5 _ rfl
  have c6 := hcell w (Below.refl _ _) 6 _ rfl
  have c7 := hcell w (Below.refl _ _) 7 _ rfl
  have c8 := hcell w (Below.refl _ _) 8 _ rfl
  obtain ⟨W, hW⟩ : ∃ W, W = w.alloc (.cells (retC id pos ge ce (.slice a2 m2 e2) (.slice a3 m3 e3)) 39) := ⟨_, rfl⟩
  have hbW : Below w.heap.size w W := by rw [hW]; exact (Below.refl _ _).alloc (Nat.le_refl _) _
  have hB : Blk w.heap.size (retC id pos ge ce (.slice a2 m2 e2) (.slice a3 m3 e3)) 39 W := by rw [hW]; exact Blk.new _ _ _
  have hKW : WK N b w W := WK.of_below hNw hbW
  have HM := Lib.hid (more_any N b l k W hN ⟨by omega, by omega⟩ (hb.below hbW))
  have HI := Lib.hid fun l1 k1 w1 (hk : WK N b w w1) (h2 : WB N b l1 k1 w1) h3 => indent_any N b d l1 k1 w1 hN (Nat.le_trans hNw hk.1.size) h2 hd h3
  have HS := Lib.hid fun l1 k1 w1 (hk : WK N b w w1) (h2 : WB N b l1 k1 w1) h4 h5 h6 => statement_W x t cn hE N b l1 k1 w1 id pos ge ce d (.slice a2 m2 e2) (.slice a3 m3 e3) hN (Nat.le_trans hNw hk.1.size) h2 (ExRow_down hxe hk) h4 h5 h6
  have HP := Lib.hid fun l1 k1 w1 (hk : WK N b w w1) (h2 : WB N b l1 k1 w1) h3 => put1 N b [10] l1 k1 w1 hN (Nat.le_trans hNw hk.1.size) h2 h3
  have HH := Lib.hid (And.intro hKW (And.intro hB hb))
  have HLEN := Lib.hid hlen
  have HWW := Lib.hid (show W = w.alloc (.cells #[.int .u8 6, .int .i64 (id : Int), .string ⟨#[]⟩, .int .u8 0, .int .i64 0, .int .i64 (pos : Int), .slice (some ⟨ge, 0, none⟩) 1 ce, .slice a2 m2 e2, .slice a3 m3 e3] 39) from hW)
  have hk0 : decide (1 ≤ k) = true := by simp; omega
  have hblt := hb.lt
  clear hx hE hcell hxe hbW hB hKW hb hW hlen
  go_enter Tryz.func76, Tryz.ntmps76
  go_wp2_with fail
  refine wp_loop_rounds 2 ?_
  rw [rounds_succ]
  go_wp2_with fail
  rw [← HWW.out]
  refine HM.out.mono ?_
  rintro e w1 ⟨rfl, h1', h2'⟩
  rw [hk0]
  have hB1 := h2'.blk HH.out.2.1 (by omega) (by decide)
  have hK1 := HH.out.1.trans h2'
  have HB1 := Lib.hid hB1
  have HK1 := Lib.hid hK1
  clear c0 c1 c2 c3 c4 c5 c6 c7 c8
  have HQ := Lib.hid (HI.out _ _ w1 hK1 h1' (by have := HLEN.out; simp only [List.length_append] at this; omega))
  clear h1' h2' hB1 hK1
  go_wp2_with fail
  refine HQ.out.mono ?_
  rintro e w2 ⟨rfl, h1', h2'⟩
  have hB2 := h2'.blk HB1.out (by omega) (by decide)
  have hK2 := HK1.out.trans h2'
  have HK2 := Lib.hid hK2
  obtain ⟨c0, c1, c2, c3, c4, c5, c6, c7, c8⟩ := hB2.get9
  have HQ2 := Lib.hid (HS.out _ _ w2 hK2 h1' (by omega) (by omega) (by have := HLEN.out; simp only [List.length_append] at this ⊢; omega))
  clear h1' h2' hB2 hK2
  go_wp2_with fail
  refine HQ2.out.mono ?_
  rintro e w3 ⟨rfl, h1', h2'⟩
  have hK3 := HK2.out.trans h2'
  have HK3 := Lib.hid hK3
  have HQ3 := Lib.hid (HP.out _ _ w3 hK3 h1' (by have := HLEN.out; simp only [List.length_append, List.length_cons, List.length_nil] at this ⊢; omega))
  clear h1' h2' hK3 c0 c1 c2 c3 c4 c5 c6 c7 c8
  go_wp2_with fail
  refine HQ3.out.mono ?_
  rintro e w4 ⟨rfl, h1', h2'⟩
  have FIN := Lib.hid (show WPost N b (l ++ retL d t) (k - 1 - cn) w (.returned (.tuple #[])) w4 from ⟨rfl, by unfold retL; simpa [List.append_assoc] using h1', HK3.out.trans h2'⟩)
  clear h1' h2'
  go_wp2_with fail
  rw [rounds_succ]
  go_wp2
  go_end0
  exact FIN.out
end Go.Proofs.YtknmmjfpipobdaaGreatDoor
