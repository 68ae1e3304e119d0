/-
  An instruction is written: its number, its Op and its registers.
-/
import Derived.Test.YtlblmnneikdpgaaDoorIbX
import Derived.Test.YtlblmnneikdpgaaDoorIbN
import Derived.Deep.RegionWith
namespace Go.Proofs.YtlblmnneikdpgaaDoor
open Go Go.RowKit Ib

/-- A writer's walk. -/
abbrev wkC (bt : Nat) : Array Value := #[.func (.func 56) #[.pointer (some ⟨bt, 0, none⟩)] #[], .func (.func 57) #[.pointer (some ⟨bt, 0, none⟩)] #[], .func (.func 58) #[.pointer (some ⟨bt, 0, none⟩)] #[]]
abbrev wkW (bt : Nat) : Value := .agg (wkC bt)
theorem info74 : (Tryd.prog.info? 74).map (·.size) = some 3 := by kernel_rfl
theorem stF (a : Addr) (f : Fn) (x y : Array Value) (w : World) : (store a (.func f x y)).run Tryd.prog w = stored Tryd.prog w a (.func f x y) .plain := run_store Tryd.prog w a _ .plain rfl
set_option maxRecDepth 100000 in
set_option maxHeartbeats 1600000 in
theorem walk_w (bt : Nat) (w : World) : Calls Tryd.prog 38 #[.pointer (some ⟨bt, 0, none⟩)] w fun e w' => e = .returned (wkW bt) ∧ Below w.heap.size w w' := by
  have hmf : ∀ (fn : Fn) (first cap : Array Value) (w : World), (Instr.makeFunc fn first cap).run Tryd.prog w = .ok (.func fn first cap) w := fun _ _ _ _ => rfl
  have hst := stF
  go_enter Tryd.func38, Tryd.ntmps38
  go_wp2_with fail
  refine bodyPost_ret (results_cell_row rfl _ _ w.heap.size 74 (wkC bt) (0, 0) _ rfl (heap_alloc_new _ _) Tryd.underlying74 rfl info74) rfl ?_
  exact ⟨rfl, (Below.refl _ _).alloc (Nat.le_refl _) _⟩

/-- What of an Imm is written. -/
def immB (lo hi n : Int) : List Nat := if lo < 0 then nmB true n else if 0 < hi then nmB false n else []
set_option maxRecDepth 100000 in
set_option maxHeartbeats 1600000 in
theorem imm_w (bt base : Nat) (v : Value) (l : List Nat) (a : Addr) (nr lo hi n : Int) (hn : In64 n) (hl : l.length ≤ 1000000000) (w : World) (h : Wt bt base v l w) (hx : w.cell? a = some (I n)) (hna : some a.block ≠ v.ownBlock) (hnb : a.block ≠ bt) :
    Calls Tryd.prog 59 #[wkW bt, .agg #[I nr, I lo, I hi], .pointer (some a)] w fun e w' => NumT bt base v l (immB lo hi n) w w' .nilIface e := by
  obtain ⟨W1, hW1⟩ : ∃ W, W = (w.alloc (.cells #[.func (.func 56) #[.pointer (some ⟨bt, 0, none⟩)] #[], .func (.func 57) #[.pointer (some ⟨bt, 0, none⟩)] #[], .func (.func 58) #[.pointer (some ⟨bt, 0, none⟩)] #[]] 74)).alloc (.cells #[I nr, I lo, I hi] 80) := ⟨_, rfl⟩
  have hB1 : Below w.heap.size w W1 := by rw [hW1]; exact ((Below.refl _ _).alloc (Nat.le_refl _) _).alloc (by simp) _
  have hx1 : W1.cell? a = some (I n) := cellA_below hB1 (lt_of_cell hx) hx
  have h1 := h.below hB1
  have HS := Lib.hid (signed_w bt base v l a n hn hl W1 h1 hx1 hna hnb)
  have HU := Lib.hid (unsigned_w bt base v l a n hn hl W1 h1 hx1 hna hnb)
  have HFI := Lib.hid (show ∀ m w2, immB lo hi n = m → (∃ v', Wt bt base v' (l ++ m) w2 ∧ Fw bt v v' W1 w2) → NumT bt base v l (immB lo hi n) w w2 .nilIface (.returned .nilIface) from fun m w2 e ⟨v', q1, q2⟩ => ⟨rfl, v', by rw [e]; exact q1, (Fw.of_below bt v hB1).trans q2⟩)
  have HN := Lib.hid h1
  have HW1 := Lib.hid hW1
  clear hn hl h hx hna hnb hB1 hx1 h1 hW1
  go_enter Tryd.func59, Tryd.ntmps59
  by_cases hlo : lo < 0
  · have g0 : decide (lo < 0) = true := decide_eq_true hlo
    have HL := Lib.hid (show immB lo hi n = nmB true n by unfold immB; rw [if_pos hlo])
    clear hlo
    go_wp2_with fail
    rw [← HW1.out]
    refine HS.out.mono ?_
    rintro e w2 ⟨rfl, hq⟩
    have FIN := Lib.hid (HFI.out _ w2 HL.out hq)
    clear hq
    go_wp2_with fail
    go_ret
    exact FIN.out
  · have g0 : decide (lo < 0) = false := decide_eq_false hlo
    by_cases hhi : 0 < hi
    · have g1 : decide (0 < hi) = true := decide_eq_true hhi
      have HL := Lib.hid (show immB lo hi n = nmB false n by unfold immB; rw [if_neg hlo, if_pos hhi])
      clear hlo hhi
      go_wp2_with fail
      rw [← HW1.out]
      refine HU.out.mono ?_
      rintro e w2 ⟨rfl, hq⟩
      have FIN := Lib.hid (HFI.out _ w2 HL.out hq)
      clear hq
      go_wp2_with fail
      go_ret
      exact FIN.out
    · have g1 : decide (0 < hi) = false := decide_eq_false hhi
      have HL := Lib.hid (show immB lo hi n = [] by unfold immB; rw [if_neg hlo, if_neg hhi])
      clear hlo hhi
      go_wp2_with fail
      rw [← HW1.out]
      go_ret
      exact HFI.out _ _ HL.out ⟨v, by rw [List.append_nil]; exact HN.out, Fw.refl _ _ _⟩
end Go.Proofs.YtlblmnneikdpgaaDoor
