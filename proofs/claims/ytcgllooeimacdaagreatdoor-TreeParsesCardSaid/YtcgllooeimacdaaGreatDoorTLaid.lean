/-
  What the listed variables give the walks: a table of the library's and one error.
-/
import Derived.Test.YtcgllooeimacdaaGreatDoorTParse
import Derived.Test.YtcgllooeimacdaaGreatDoorRows
import Derived.Lib.LaidTab
import Derived.Stop.LaidErr
import Derived.MakeChecks
import Derived.LaidMore
import Derived.OpenShut
import Derived.Stop.Joined
import Derived.ProofKit
import Derived.KernelRfl
namespace Go.Proofs.YtcgllooeimacdaaGreatDoor
open Go Go.RowKit

/-- The variables that the row lists. -/
abbrev laidL : List (String × DataW Unit) := Rows.treeSignsRow.laid

theorem own : ownKnob Tryz.prog.godebug = none := by kernel_rfl
theorem gErr : Tryz.prog.globalNamed "strconv.ErrRange" = some 2 := by kernel_rfl
theorem gAscii : Tryz.prog.globalNamed "strings.asciiSpace" = some 0 := by kernel_rfl
theorem tErr : (Tryz.prog.globals[2]?).map (·.type) = some 133 := by kernel_rfl
theorem tAscii : (Tryz.prog.globals[0]?).map (·.type) = some 180 := by kernel_rfl

set_option maxRecDepth 100000 in
theorem tabs_of_laid {W : World} (h : laidMetH Tryz.prog laidL W) : Tabs W.heap.size W := by
  rw [MakeChecks.laidMetH_plain _ _ _ (by kernel_rfl)] at h
  have h4 := h.tail.tail.tail
  have h7 := h4.tail.tail.tail
  obtain ⟨ps, ⟨g0, t0, cs0, f0, p0, q0, hg0, ht0, hv0, hd0, _, _⟩, _, _⟩ := h4
  obtain rfl := Option.some.inj (gErr.symm.trans hg0)
  obtain rfl := Option.some.inj (tErr.symm.trans ht0)
  have ha : Lib.TabIs Tryz.prog W "strings.asciiSpace" .u8 Lib.asciiSpaceTab :=
    Lib.tabIs_of_head gAscii tAscii Tryz.underlying180 Tryz.underlying5 (by kernel_rfl) (by kernel_rfl) h7
  intro w' hb
  have var : ∀ name, (∃ g, Tryz.prog.globalNamed name = some g) → ∀ cs, W.var? Tryz.prog name = some cs → w'.var? Tryz.prog name = some cs := by
    rintro name ⟨g, hg⟩ cs hcs
    unfold World.var? at hcs ⊢
    rw [hg] at hcs ⊢
    simp only [Option.bind_some] at hcs ⊢
    have hlt : g < W.heap.size := by
      rcases Nat.lt_or_ge g W.heap.size with h' | h'
      · exact h'
      · simp [Array.getElem?_eq_none h'] at hcs
    rw [hb.block g hlt]
    exact hcs
  refine ⟨var _ ⟨_, gAscii⟩ _ ha, ?_⟩
  have hv := var _ ⟨_, gErr⟩ _ hv0
  obtain ⟨f1, u, v, hc, _, _⟩ := iface_of_trod Tryz.underlying133 hd0
  have h0 : cs0[0]? = some (.iface u v) := by rw [← Array.getElem?_toList, hc]; rfl
  exact ⟨u, v, by have := World.var?_cell gErr hv 0; rw [h0] at this; exact this⟩

/-- The door's own heap meets the condition. -/
theorem door_met (os : Os) (args : Array Value) : laidMetH Tryz.prog laidL ((World.doorLaid Tryz.prog 86 os).forCall (fun _ _ => 0) ⟨#[], args, []⟩).memory :=
  laidMetH_of_parts3 (fuel := 8) (laidMet_of_run' 8 (by kernel_rfl) (by kernel_rfl)) (by kernel_rfl) (by kernel_rfl)
end Go.Proofs.YtcgllooeimacdaaGreatDoor
