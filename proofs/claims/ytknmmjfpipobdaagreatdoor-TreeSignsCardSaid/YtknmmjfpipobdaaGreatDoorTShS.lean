/-
  A statement written: a return with its value.
-/
import Derived.Test.YtknmmjfpipobdaaGreatDoorTShB
namespace Go.Proofs.YtknmmjfpipobdaaGreatDoor
open Go Go.RowKit Px

abbrev retC (id pos g cap : Nat) (y z : Value) : Array Value := smCells 6 id [] 0 0 pos (.slice (some ⟨g, 0, none⟩) 1 cap) y z
abbrev retT (t : Bytes) : Bytes := [114, 101, 116, 117, 114, 110] ++ ([32] ++ t)

theorem one_row {w : World} {N g cap : Nat} {x : Ex} (h : ExRow w (fun g => g < N) [x] (.slice (some ⟨g, 0, none⟩) 1 cap)) :
    g < N ∧ ∃ (k op : Nat) (nm : Bytes) (n pos : Nat) (a : Option Addr) (m c : Nat), ExC w (fun g => g < N) x (exCells k op nm n pos a m c).toList ∧
      ∀ w', Below N w w' → ∀ j u, (exCells k op nm n pos a m c).toList[j]? = some u → w'.cell? ⟨g, j, none⟩ = some u := by
  rcases h with ⟨h, _⟩ | ⟨g', cap', xs, e, hg, ho, hxs⟩
  · cases h
  cases e
  simp only [ExsC] at hxs
  obtain ⟨ka, d, rfl, hxa, rfl⟩ := hxs
  obtain ⟨ak, ao, an, am, ap, aa, al, ac, rfl⟩ := ExC_form hxa
  refine ⟨hg, ak, ao, an, am, ap, aa, al, ac, hxa, ?_⟩
  intro w' hb j u hu
  have hadd : ∀ j, (⟨g, 0, none⟩ : Addr).add j = ⟨g, j, none⟩ := by intro j; unfold Addr.add; split <;> simp_all
  rw [hb.cell (p := ⟨g, j, none⟩) hg]
  have := ho.cells (g := g) rfl j u (by rw [List.append_nil]; exact hu)
  rwa [hadd] at this

set_option maxRecDepth 100000 in
set_option maxHeartbeats 2000000 in
theorem plain_any (x : Ex) (t : Bytes) (cn : Nat) (hE : ExW x t cn) (N b : Nat) (l : Bytes) (k : Int) (w : World) (id pos g cap : Nat) (y z : Value) (hN : N ≤ b) (hNw : N ≤ w.heap.size) (hb : WB N b l k w)
    (hx : ExRow w (fun g => g < N) [x] (.slice (some ⟨g, 0, none⟩) 1 cap)) (hk1 : (cn : Int) ≤ k) (hk2 : k ≤ 100000) (hlen : l.length + (retT t).length ≤ 1000000) :
    Calls Tryz.prog 105 #[.pointer (some ⟨b, 0, none⟩), .agg (retC id pos g cap y z)] w (WPost N b (l ++ retT t) (k - cn) w) := by
  obtain ⟨hg, ak, ao, an, am, ap, aa, al, ac, hxa, hcell⟩ := one_row hx
  obtain ⟨W, hW⟩ : ∃ W, W = w.alloc (.cells (retC id pos g cap y z) 39) := ⟨_, rfl⟩
  have hbW : Below w.heap.size w W := by rw [hW]; exact (Below.refl _ _).alloc (Nat.le_refl _) _
  have hB : Blk w.heap.size (retC id pos g cap y z) 39 W := by rw [hW]; exact Blk.new _ _ _
  have hKW : WK N b w W := WK.of_below hNw hbW
  have HP1 := Lib.hid (put1 N b [114, 101, 116, 117, 114, 110] l k W hN (Nat.le_trans hNw hbW.size) (hb.below hbW) (by simp at hlen ⊢; omega))
  have HP2 := Lib.hid fun l1 k1 w1 (h1 : N ≤ w1.heap.size) (h2 : WB N b l1 k1 w1) (h3 : l1.length ≤ 1000000) => put1 N b [32] l1 k1 w1 hN h1 h2 (by simp; omega)
  have HX := Lib.hid fun l1 k1 w1 (hk : WK N b w w1) (h2 : WB N b l1 k1 w1) h4 h5 h6 => hE N b l1 k1 w1 ak ao an am ap aa al ac hN (Nat.le_trans hNw hk.1.size) h2 (ExC_down hxa hk) h4 h5 h6
  have HH := Lib.hid (And.intro hKW (And.intro hB hb))
  have HC := Lib.hid hcell
  have HLEN := Lib.hid hlen
  have HWW := Lib.hid hW
  obtain ⟨c0, c1, c2, c3, c4, c5, c6, c7, c8⟩ := hB.get9
  have hblt := hb.lt
  clear hx hbW hW hb hB hKW hE hxa hcell hlen
  go_enter Tryz.func105, Tryz.ntmps105
  go_upto_region 1 with (fail)
  rw [← HWW.out]
  go_wp2_with fail
  refine HP1.out.mono ?_
  rintro e w1 ⟨rfl, h1', h2'⟩
  have hB1 := h2'.blk HH.out.2.1 (by omega) (by decide)
  have hK1 := HH.out.1.trans h2'
  have HB1 := Lib.hid hB1
  have HK1 := Lib.hid hK1
  clear c0 c1 c2 c3 c4 c5 c6 c7 c8
  obtain ⟨c0, c1, c2, c3, c4, c5, c6, c7, c8⟩ := hB1.get9
  have HQ2 := Lib.hid (HP2.out _ _ w1 (Nat.le_trans hNw hK1.1.size) h1' (by have := HLEN.out; simp at this ⊢; omega))
  clear h1' h2' hB1 hK1
  go_wp2_with fail
  refine HQ2.out.mono ?_
  rintro e w2 ⟨rfl, h1', h2'⟩
  have hB2 := h2'.blk HB1.out (by omega) (by decide)
  have hK2 := HK1.out.trans h2'
  have HK2 := Lib.hid hK2
  clear c0 c1 c2 c3 c4 c5 c6 c7 c8
  obtain ⟨c0, c1, c2, c3, c4, c5, c6, c7, c8⟩ := hB2.get9
  have d0 := HC.out w2 hK2.1 0 _ rfl
  have d1 := HC.out w2 hK2.1 1 _ rfl
  have d2 := HC.out w2 hK2.1 2 _ rfl
  have d3 := HC.out w2 hK2.1 3 _ rfl
  have d4 := HC.out w2 hK2.1 4 _ rfl
  have d5 := HC.out w2 hK2.1 5 _ rfl
  have HQ3 := Lib.hid (HX.out _ _ w2 hK2 h1' hk1 hk2 (by have := HLEN.out; simp at this ⊢; omega))
  clear h1' h2' hB2 hK2
  go_wp2_with fail
  refine HQ3.out.mono ?_
  rintro e w3 ⟨rfl, h1', h2'⟩
  have FIN := Lib.hid (show WPost N b (l ++ retT t) (k - cn) w (.returned (.tuple #[])) w3 from ⟨rfl, by simpa [List.append_assoc] using h1', HK2.out.trans h2'⟩)
  clear h1' h2' c0 c1 c2 c3 c4 c5 c6 c7 c8 d0 d1 d2 d3 d4 d5
  go_wp2
  go_end0
  exact FIN.out
end Go.Proofs.YtknmmjfpipobdaaGreatDoor
