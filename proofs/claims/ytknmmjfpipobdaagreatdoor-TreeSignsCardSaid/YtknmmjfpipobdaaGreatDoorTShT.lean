/-
  A statement, a block, a function written: one return with its value.
-/
import Derived.Test.YtknmmjfpipobdaaGreatDoorTShS
namespace Go.Proofs.YtknmmjfpipobdaaGreatDoor
open Go Go.RowKit Px

theorem ExRow_down {N b : Nat} {w w' : World} {l : List Ex} {sv : Value} (h : ExRow w (fun g => g < N) l sv) (hk : WK N b w w') : ExRow w' (fun g => g < N) l sv :=
  h.stays fun g hg _ => ⟨hk.1.block g hg, hg⟩

set_option maxRecDepth 100000 in
set_option maxHeartbeats 2000000 in
theorem statement_W (x : Ex) (t : Bytes) (cn : Nat) (hE : ExW x t cn) (N b : Nat) (l : Bytes) (k : Int) (w : World) (id pos g cap d : Nat) (y z : Value) (hN : N ≤ b) (hNw : N ≤ w.heap.size) (hb : WB N b l k w)
    (hx : ExRow w (fun g => g < N) [x] (.slice (some ⟨g, 0, none⟩) 1 cap)) (hk1 : (cn : Int) ≤ k) (hk2 : k ≤ 100000) (hlen : l.length + (retT t).length ≤ 1000000) :
    Calls Tryz.prog 91 #[.pointer (some ⟨b, 0, none⟩), .agg (retC id pos g cap y z), .int .i64 (d : Int)] w (WPost N b (l ++ (retT t ++ [59])) (k - cn) w) := by
  obtain ⟨W, hW⟩ : ∃ W, W = w.alloc (.cells (retC id pos g cap y z) 39) := ⟨_, rfl⟩
  have hbW : Below w.heap.size w W := by rw [hW]; exact (Below.refl _ _).alloc (Nat.le_refl _) _
  have hB : Blk w.heap.size (retC id pos g cap y z) 39 W := by rw [hW]; exact Blk.new _ _ _
  have hKW : WK N b w W := WK.of_below hNw hbW
  have HQ := Lib.hid (plain_any x t cn hE N b l k W id pos g cap y z hN (Nat.le_trans hNw hbW.size) (hb.below hbW) (ExRow_down hx hKW) hk1 hk2 hlen)
  have HP2 := Lib.hid fun l1 k1 w1 (h1 : N ≤ w1.heap.size) (h2 : WB N b l1 k1 w1) (h3 : l1.length ≤ 1000000) => put1 N b [59] l1 k1 w1 hN h1 h2 (by simp; omega)
  have HH := Lib.hid (And.intro hKW (And.intro hB hb))
  have HLEN := Lib.hid hlen
  have HWW := Lib.hid hW
  obtain ⟨c0, c1, c2, c3, c4, c5, c6, c7, c8⟩ := hB.get9
  clear hx hbW hW hb hB hKW hE hlen
  go_enter Tryz.func91, Tryz.ntmps91
  go_upto_region 1 with (fail)
  rw [← HWW.out]
  go_wp2_with fail
  refine HQ.out.mono ?_
  rintro e w1 ⟨rfl, h1', h2'⟩
  have hK1 := HH.out.1.trans h2'
  have HK1 := Lib.hid hK1
  have HQ2 := Lib.hid (HP2.out _ _ w1 (Nat.le_trans hNw hK1.1.size) h1' (by have := HLEN.out; simp at this ⊢; omega))
  clear h1' h2' hK1 c0 c1 c2 c3 c4 c5 c6 c7 c8
  go_wp2_with fail
  refine HQ2.out.mono ?_
  rintro e w3 ⟨rfl, h1', h2'⟩
  have FIN := Lib.hid (show WPost N b (l ++ (retT t ++ [59])) (k - cn) w (.returned (.tuple #[])) w3 from ⟨rfl, by simpa [List.append_assoc] using h1', HK1.out.trans h2'⟩)
  clear h1' h2'
  go_wp2
  go_end0
  exact FIN.out

/-- One statement in a row. -/
theorem one_stm {w : World} {N g cap id pos : Nat} {x : Ex} (h : SmRow w (fun g => g < N) [.mk 6 id [] 0 0 pos [x] [] []] (.slice (some ⟨g, 0, none⟩) 1 cap)) :
    g < N ∧ ∃ (ge ce : Nat) (a2 : Option Addr) (m2 c2 : Nat) (a3 : Option Addr) (m3 c3 : Nat), ExRow w (fun g => g < N) [x] (.slice (some ⟨ge, 0, none⟩) 1 ce) ∧
      ∀ w', Below N w w' → ∀ j u, (retC id pos ge ce (.slice a2 m2 c2) (.slice a3 m3 c3)).toList[j]? = some u → w'.cell? ⟨g, j, none⟩ = some u := by
  rcases h with ⟨h, _⟩ | ⟨g', cap', xs, e, hg, ho, hxs⟩
  · cases h
  cases e
  simp only [SmsC, SmC] at hxs
  obtain ⟨ka, d, rfl, ⟨v1, v2, v3, rfl, h1, h2, h3⟩, rfl⟩ := hxs
  have h1' := h1
  rcases h1 with ⟨h, _⟩ | ⟨ge, ce, _, rfl, _⟩
  · cases h
  have h2' : ∃ (a : Option Addr) (m c : Nat), v2 = .slice a m c := by
    rcases h2 with ⟨_, rfl⟩ | ⟨_, _, _, rfl, _⟩
    · exact ⟨_, _, _, rfl⟩
    · exact ⟨_, _, _, rfl⟩
  have h3' : ∃ (a : Option Addr) (m c : Nat), v3 = .slice a m c := by
    rcases h3 with ⟨_, rfl⟩ | ⟨_, _, _, rfl, _⟩
    · exact ⟨_, _, _, rfl⟩
    · exact ⟨_, _, _, rfl⟩
  obtain ⟨a2, m2, c2, rfl⟩ := h2'
  obtain ⟨a3, m3, c3, rfl⟩ := h3'
  clear h2 h3
  refine ⟨hg, ge, ce, a2, m2, c2, a3, m3, c3, h1', ?_⟩
  intro w' hb j u hu
  have hadd : ∀ j, (⟨g, 0, none⟩ : Addr).add j = ⟨g, j, none⟩ := by intro j; unfold Addr.add; split <;> simp_all
  rw [hb.cell (p := ⟨g, j, none⟩) hg]
  have := ho.cells (g := g) rfl j u (by rw [List.append_nil]; exact hu)
  rwa [hadd] at this
end Go.Proofs.YtknmmjfpipobdaaGreatDoor
