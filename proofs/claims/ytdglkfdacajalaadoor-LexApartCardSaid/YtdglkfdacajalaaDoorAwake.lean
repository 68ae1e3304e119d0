/-
  The document's examples of the scanner.
-/
import Derived.Test.YtdglkfdacajalaaDoorScan
import Derived.Test.YtdglkfdacajalaaDoorRefWord
import Derived.KernelRfl
namespace Go.Proofs.YtdglkfdacajalaaDoor
open Go Go.RowKit Lx

theorem scan_ex1 : scan [120, 49, 61, 48, 50] = .error (3, 4) := by kernel_rfl
def exToks : List Tok := [⟨1, 0, [97], 0⟩, ⟨4, 1, [60, 61], 0⟩, ⟨1, 3, [98], 0⟩, ⟨0, 4, [], 0⟩]
theorem scan_ex2 : scan [97, 60, 61, 98] = .ok exToks := by kernel_rfl

theorem ex1_any (w : World) (hT : Tabs w.heap.size w) : Calls Tryd.prog 9 #[.string ⟨#[120, 49, 61, 48, 50]⟩] w fun e w' => e = .returned (.tuple #[.slice none 0 0, .int .i64 3, .int .i64 4]) ∧ Below w.heap.size w w' := by
  refine (scan_any ⟨#[120, 49, 61, 48, 50]⟩ (by decide) w hT).mono ?_
  rintro e w' ⟨h1, h2⟩
  have e1 : scan (Bs ⟨#[120, 49, 61, 48, 50]⟩) = .error (3, 4) := scan_ex1
  rw [e1] at h2
  exact ⟨h2, h1⟩

theorem ex2_any (w : World) (hT : Tabs w.heap.size w) : Calls Tryd.prog 9 #[.string ⟨#[97, 60, 61, 98]⟩] w fun e w' => ∃ g cap, e = .returned (.tuple #[.slice (some ⟨g, 0, none⟩) 4 cap, .int .i64 0, .int .i64 0]) ∧ 4 ≤ cap ∧
    w'.cell? ⟨g, 4, none⟩ = some (.int .u8 4) ∧ w'.cell? ⟨g, 6, none⟩ = some (.string ⟨#[60, 61]⟩) ∧ Below w.heap.size w w' := by
  refine (scan_any ⟨#[97, 60, 61, 98]⟩ (by decide) w hT).mono ?_
  rintro e w' ⟨h1, h2⟩
  have e1 : scan (Bs ⟨#[97, 60, 61, 98]⟩) = .ok exToks := scan_ex2
  rw [e1] at h2
  obtain ⟨v, rfl, ho⟩ := h2
  have hcell := fun g hg => ho.cells (g := g) hg
  rcases ho.2 with ⟨_, h⟩ | ⟨g, cap, cur, rfl, _, _, hc, _⟩
  · cases h
  · have hadd : ∀ j, (⟨g, 0, none⟩ : Addr).add j = ⟨g, j, none⟩ := by intro j; unfold Addr.add; split <;> simp_all
    have c4 := hcell g rfl 4 (.int .u8 4) rfl
    have c6 := hcell g rfl 6 (.string ⟨#[60, 61]⟩) rfl
    rw [hadd] at c4 c6
    exact ⟨g, cap, rfl, hc, c4, c6, h1⟩

theorem wordWhile : wordB [119, 104, 105, 108, 101] = true := by decide
theorem wordX : wordB [120] = false := by decide

set_option maxRecDepth 100000 in
set_option maxHeartbeats 800000 in
theorem awake_any (w : World) (hT : Tabs w.heap.size w) : Calls Tryd.prog 11 #[] w fun e w' => e = .returned (.bool true) ∧ Below w.heap.size w w' := by
  have HT := Lib.hid hT
  clear hT
  go_enter Tryd.func11, Tryd.ntmps11
  go_wp2_with fail
  refine (ex1_any w HT.out).mono ?_
  rintro e w1 ⟨rfl, hb1⟩
  have H1 := Lib.hid hb1
  clear hb1
  go_wp2_with fail
  refine (ex2_any w1 ((HT.out.below H1.out).mono H1.out.size)).mono ?_
  rintro e w2 ⟨g, cap, rfl, hcap, c4, c6, hb2⟩
  have H2 := Lib.hid (H1.out.trans (hb2.mono H1.out.size))
  clear hb2
  go_wp2_with fail
  refine (word_any ⟨#[119, 104, 105, 108, 101]⟩ (by decide) w2 ((HT.out.below H2.out).mono H2.out.size)).mono ?_
  rintro e w3 ⟨h3, hb3⟩
  have e3 : wordB (Bs ⟨#[119, 104, 105, 108, 101]⟩) = true := wordWhile
  rw [e3] at h3
  subst h3
  have H3 := Lib.hid (H2.out.trans (hb3.mono H2.out.size))
  clear hb3 e3
  go_wp2_with fail
  refine (word_any ⟨#[120]⟩ (by decide) w3 ((HT.out.below H3.out).mono H3.out.size)).mono ?_
  rintro e w4 ⟨h4, hb4⟩
  have e4 : wordB (Bs ⟨#[120]⟩) = false := wordX
  rw [e4] at h4
  subst h4
  have H4 := Lib.hid (H3.out.trans (hb4.mono H3.out.size))
  clear hb4 e4
  go_wp2_with fail
  go_ret
  exact ⟨rfl, H4.out⟩

set_option maxRecDepth 100000 in
/-- The statement's own body: it says true at every text that is no longer than a list may be. -/
theorem lexWords_any (s : ByteArray) (hs : s.size ≤ maxLen) (w : World) (hT : Tabs w.heap.size w) : Calls Tryd.prog 4 #[.string s] w fun e w' => e = .returned (.bool true) ∧ Below w.heap.size w w' := by
  have HT := Lib.hid hT
  have HS := Lib.hid hs
  clear hT hs
  go_enter Tryd.func4, Tryd.ntmps4
  go_wp2_with fail
  refine (awake_any w HT.out).mono ?_
  rintro e w1 ⟨rfl, hb1⟩
  have H1 := Lib.hid hb1
  clear hb1
  go_wp2_with fail
  refine (word_any s HS.out w1 ((HT.out.below H1.out).mono H1.out.size)).mono ?_
  rintro e w2 ⟨rfl, hb2⟩
  have H2 := Lib.hid (H1.out.trans (hb2.mono H1.out.size))
  clear hb2
  go_wp2_with fail
  refine (refWord_any s w2).mono ?_
  rintro e w3 ⟨rfl, hb3⟩
  have H3 := Lib.hid (H2.out.trans (hb3.mono H2.out.size))
  clear hb3
  go_wp2_with fail
  go_ret
  exact ⟨rfl, H3.out⟩
end Go.Proofs.YtdglkfdacajalaaDoor
