/-
  InstDecodes' body, walked.
-/
import Derived.Test.YtlblmnneikdpgaaDoorIbRd
import Derived.Test.YtlblmnneikdpgaaDoorIbSw
namespace Go.Proofs.YtlblmnneikdpgaaDoor
open Go Go.RowKit Ib

set_option maxRecDepth 100000 in
set_option maxHeartbeats 3200000 in
theorem instDecodes_body (aM aW : Addr) (a : Option Addr) (n c : Nat) (m : List Nat) (hm : Byt m) (hml : m.length ≤ 140737488355327) (w : World) (hp : ByteZ w (.slice a n c) m) (hs : Sen aM aW w) :
    Calls Tryd.prog 4 #[.slice a n c] w fun e w' => LawT w w' e := by
  have HA := Lib.hid (awake_any aM aW w hs)
  obtain rfl := ByteZ.len hp
  obtain ⟨L, hL⟩ : ∃ L, L = m.length := ⟨_, rfl⟩
  rw [← hL] at hp hml ⊢
  have H1 := Lib.hid (And.intro hs (And.intro hp (And.intro hm (And.intro hL hml))))
  clear hs hp hm hL hml
  go_enter Tryd.func4, Tryd.ntmps4
  go_wp2_with fail
  refine HA.out.mono ?_
  rintro e w1 ⟨rfl, hb1⟩
  have hp1 := H1.out.2.1.below byteV_stays hb1
  have hs1 := H1.out.1.below hb1 (fun k hk => H1.out.1.lts k hk)
  have HSP := Lib.hid (spare_w a L c m w1 hp1 (by have := H1.out.2.2.2.1; have := H1.out.2.2.2.2; omega))
  have HB1 := Lib.hid (And.intro hb1 (And.intro hp1 hs1))
  clear hb1 hp1 hs1 HA
  go_wp2_with fail
  refine HSP.out.mono ?_
  rintro e w2 ⟨g, cap, hcap, rfl, hown, hb2⟩
  have hz := own_bytes hown
  have hq2 : ByteZ w2 (.slice (some ⟨g, 0, none⟩) m.length cap) m := by
    obtain ⟨cq, hz2⟩ : ∃ cq, ByteZ w2 (.slice (some ⟨g, 0, none⟩) (m.length + 1) cq) (m ++ [165]) ∧ cq = cap := ⟨cap, hz, rfl⟩
    have h := ByteZ.take hz m.length (by simp)
    rw [List.take_left' rfl] at h
    exact h
  have hcell : w2.cell? ⟨g, m.length, none⟩ = some (B8 165) := by
    obtain ⟨b', e1, _, h⟩ := ByteZ.cell hz m.length (by simp)
    cases e1
    rw [Addr.add_lit, Nat.zero_add] at h
    rw [h]
    simp
  rw [← H1.out.2.2.2.1] at hcap hq2 hcell ⊢
  have hp2 := HB1.out.2.1.below byteV_stays hb2
  have hs2 := HB1.out.2.2.below hb2 (fun k hk => HB1.out.2.2.lts k hk)
  have HD := Lib.hid (decode_any aM aW (some ⟨g, 0, none⟩) L cap m H1.out.2.2.1 (by have := H1.out.2.2.2.1; have := H1.out.2.2.2.2; omega) w2 hq2 hs2)
  have H2 := Lib.hid (And.intro (below_tr HB1.out.1 hb2) (And.intro hp2 (And.intro hq2 (And.intro hcell hcap))))
  clear hb2 hown hz hq2 hcell hcap hp2 hs2 HSP
  go_wp2_with fail
  refine HD.out.mono ?_
  rintro e w3 ⟨hb3, hor3⟩
  rcases hor3 with ⟨x, hpx, rfl⟩ | ⟨hno, rfl⟩
  · obtain ⟨xo, xa, xb, xc, xi⟩ := x
    have hne : (encW ⟨xo, xa, xb, xc, xi⟩).length ≠ 0 := fun e => encW_ne hpx.1 (List.length_eq_zero_iff.1 e)
    obtain ⟨M, hM⟩ : ∃ M, M = (encW ⟨xo, xa, xb, xc, xi⟩).length := ⟨_, rfl⟩
    rw [← hM] at hne ⊢
    have HX := Lib.hid (And.intro hpx (And.intro hM hne))
    clear hpx hM hne
    obtain ⟨W3, hW3⟩ : ∃ W, W = w3.alloc (.cells (wB ⟨xo, xa, xb, xc, xi⟩) 23) := ⟨_, rfl⟩
    obtain ⟨b3, hb3'⟩ : ∃ b, b = w3.heap.size := ⟨_, rfl⟩
    have hB3 : Below w2.heap.size w2 W3 := by rw [hW3]; exact hb3.alloc hb3.size _
    have k3 : Blk b3 (wB ⟨xo, xa, xb, xc, xi⟩) 23 W3 := by rw [hW3, hb3']; exact Blk.new _ _ _
    have HRD := Lib.hid (refDecode_any a L c m W3 H1.out.2.2.1 (by have := H1.out.2.2.2.1; have := H1.out.2.2.2.2; omega) (H2.out.2.1.below byteV_stays hB3))
    have H3 := Lib.hid (And.intro hB3 k3)
    have HW3 := Lib.hid (And.intro hW3 hb3')
    clear hb3 hW3 hb3' hB3 k3
    go_upto_region 5 with (fail)
    rw [← HW3.out.2]
    change Code.wp _ _ _ _ (w3.alloc (.cells (wB ⟨xo, xa, xb, xc, xi⟩) 23))
    rw [← HW3.out.1]
    go_wp2_with fail
    refine HRD.out.mono ?_
    rintro e w4 ⟨hb4, hor4⟩
    obtain rfl : e = .returned (.tuple #[wV ⟨xo, xa, xb, xc, xi⟩, I (M : Int)]) := by
      rcases hor4 with ⟨y, hpy, rfl⟩ | ⟨hno, rfl⟩
      · rw [hpy.one HX.out.1, ← HX.out.2.1]
      · exact absurd HX.out.1 (hno _)
    clear hor4
    obtain ⟨W4, hW4⟩ : ∃ W, W = w4.alloc (.cells (wB ⟨xo, xa, xb, xc, xi⟩) 23) := ⟨_, rfl⟩
    obtain ⟨b4, hb4'⟩ : ∃ b, b = w4.heap.size := ⟨_, rfl⟩
    have hB4 : Below W3.heap.size W3 W4 := by rw [hW4]; exact hb4.alloc hb4.size _
    have k4 : Blk b4 (wB ⟨xo, xa, xb, xc, xi⟩) 23 W4 := by rw [hW4, hb4']; exact Blk.new _ _ _
    have hB24 := below_tr H3.out.1 hB4
    have HK := Lib.hid (kept_w g cap a c m H1.out.2.2.1 W4 (by have h := H2.out.2.2.1.below byteV_stays hB24; rw [H1.out.2.2.2.1] at h; exact h) (by have h := H2.out.2.1.below byteV_stays hB24; rw [H1.out.2.2.2.1] at h; exact h) (by have := H2.out.2.2.2.2; have := H1.out.2.2.2.1; omega)
      (by have h := cellA_below hB24 (lt_of_cell H2.out.2.2.2.1) H2.out.2.2.2.1; rw [H1.out.2.2.2.1] at h; exact h) (by have := H1.out.2.2.2.1; have := H1.out.2.2.2.2; omega))
    rw [← H1.out.2.2.2.1] at HK
    have k34 := H3.out.2.below hB4 H3.out.2.lt
    obtain ⟨x0, x1, x2, x3, x4⟩ := fv_of k34
    obtain ⟨y0, y1, y2, y3, y4⟩ := fv_of k4
    have hq := eq_wd ⟨xo, xa, xb, xc, xi⟩ ⟨xo, xa, xb, xc, xi⟩
    rw [(wEq_iff _ _).2 rfl] at hq
    have FIN := Lib.hid (show LawT w W4 (.returned (.bool true)) from ⟨rfl, below_tr H2.out.1 hB24⟩)
    have HW4 := Lib.hid (And.intro hW4 hb4')
    clear hb4 hW4 hb4' hB4 hB24 k4 k34
    have g1 : decide (0 < M) = true := by have := HX.out.2.2; simp; omega
    go_upto_region 6 with (fail)
    rw [← HW4.out.2]
    change Code.wp _ _ _ _ (w4.alloc (.cells (wB ⟨xo, xa, xb, xc, xi⟩) 23))
    rw [← HW4.out.1]
    go_wp2_with fail
    refine HK.out.mono ?_
    rintro e w5 ⟨rfl, rfl⟩
    go_wp2_with fail
    go_ret
    exact FIN.out
  · have HX := Lib.hid hno
    clear hno
    obtain ⟨W3, hW3⟩ : ∃ W, W = w3.alloc (.cells (wB ⟨0, 0, 0, 0, 0⟩) 23) := ⟨_, rfl⟩
    obtain ⟨b3, hb3'⟩ : ∃ b, b = w3.heap.size := ⟨_, rfl⟩
    have hB3 : Below w2.heap.size w2 W3 := by rw [hW3]; exact hb3.alloc hb3.size _
    have k3 : Blk b3 (wB ⟨0, 0, 0, 0, 0⟩) 23 W3 := by rw [hW3, hb3']; exact Blk.new _ _ _
    have HRD := Lib.hid (refDecode_any a L c m W3 H1.out.2.2.1 (by have := H1.out.2.2.2.1; have := H1.out.2.2.2.2; omega) (H2.out.2.1.below byteV_stays hB3))
    have H3 := Lib.hid (And.intro hB3 k3)
    have HW3 := Lib.hid (And.intro hW3 hb3')
    clear hb3 hW3 hb3' hB3 k3
    go_upto_region 5 with (fail)
    rw [← HW3.out.2]
    change Code.wp _ _ _ _ (w3.alloc (.cells (wB ⟨0, 0, 0, 0, 0⟩) 23))
    rw [← HW3.out.1]
    go_wp2_with fail
    refine HRD.out.mono ?_
    rintro e w4 ⟨hb4, hor4⟩
    obtain rfl : e = .returned (.tuple #[wV ⟨0, 0, 0, 0, 0⟩, I 0]) := by
      rcases hor4 with ⟨y, hpy, rfl⟩ | ⟨hno, rfl⟩
      · exact absurd hpy (HX.out y)
      · rfl
    clear hor4
    obtain ⟨W4, hW4⟩ : ∃ W, W = w4.alloc (.cells (wB ⟨0, 0, 0, 0, 0⟩) 23) := ⟨_, rfl⟩
    obtain ⟨b4, hb4'⟩ : ∃ b, b = w4.heap.size := ⟨_, rfl⟩
    have hB4 : Below W3.heap.size W3 W4 := by rw [hW4]; exact hb4.alloc hb4.size _
    have k4 : Blk b4 (wB ⟨0, 0, 0, 0, 0⟩) 23 W4 := by rw [hW4, hb4']; exact Blk.new _ _ _
    have hB24 := below_tr H3.out.1 hB4
    have HK := Lib.hid (kept_w g cap a c m H1.out.2.2.1 W4 (by have h := H2.out.2.2.1.below byteV_stays hB24; rw [H1.out.2.2.2.1] at h; exact h) (by have h := H2.out.2.1.below byteV_stays hB24; rw [H1.out.2.2.2.1] at h; exact h) (by have := H2.out.2.2.2.2; have := H1.out.2.2.2.1; omega)
      (by have h := cellA_below hB24 (lt_of_cell H2.out.2.2.2.1) H2.out.2.2.2.1; rw [H1.out.2.2.2.1] at h; exact h) (by have := H1.out.2.2.2.1; have := H1.out.2.2.2.2; omega))
    rw [← H1.out.2.2.2.1] at HK
    have k34 := H3.out.2.below hB4 H3.out.2.lt
    obtain ⟨x0, x1, x2, x3, x4⟩ := fv_of k34
    obtain ⟨y0, y1, y2, y3, y4⟩ := fv_of k4
    have hq := eq_wd ⟨0, 0, 0, 0, 0⟩ ⟨0, 0, 0, 0, 0⟩
    rw [(wEq_iff _ _).2 rfl] at hq
    have FIN := Lib.hid (show LawT w W4 (.returned (.bool true)) from ⟨rfl, below_tr H2.out.1 hB24⟩)
    have HW4 := Lib.hid (And.intro hW4 hb4')
    clear hb4 hW4 hb4' hB4 hB24 k4 k34
    go_upto_region 6 with (fail)
    rw [← HW4.out.2]
    change Code.wp _ _ _ _ (w4.alloc (.cells (wB ⟨0, 0, 0, 0, 0⟩) 23))
    rw [← HW4.out.1]
    go_wp2_with fail
    refine HK.out.mono ?_
    rintro e w5 ⟨rfl, rfl⟩
    go_wp2_with fail
    go_ret
    exact FIN.out
end Go.Proofs.YtlblmnneikdpgaaDoor
