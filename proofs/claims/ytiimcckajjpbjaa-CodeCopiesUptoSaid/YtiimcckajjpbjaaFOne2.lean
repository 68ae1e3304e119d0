/-
  Graphs of one node that goes on nowhere: their order, and who goes on to whom.
-/
import Derived.Test.YtiimcckajjpbjaaFOne
import Derived.WalkSpells
namespace Go.Proofs.Ytiimcckajjpbjaa
open Go Go.RowKit

theorem ints_one (l : List Nat) : ∀ u ∈ ints l, u.oneCell' = true := by
  intro u hu
  obtain ⟨n, _, rfl⟩ := List.mem_map.1 hu
  rfl

set_option maxRecDepth 100000 in
set_option maxHeartbeats 800000 in
theorem clone_any (base g cap : Nat) (l : List Nat) (hl : l.length ≤ 100000) (W : World) (h : Nums W base (.slice (some ⟨g, 0, none⟩) l.length cap) l) :
    Calls Try.prog 77 #[.slice (some ⟨g, 0, none⟩) l.length cap] W fun e W' => ∃ v, e = .returned v ∧ Nums W' W.heap.size v l ∧ Below W.heap.size W W' := by
  obtain ⟨i0, hi, hz0, hz1, hz2⟩ := info_parts info_int
  have HI := Lib.hid (And.intro hi (And.intro hz0 (And.intro hz1 hz2)))
  have H := Lib.hid h
  have HL := Lib.hid (And.intro (show 0 + l.length ≤ maxLen by unfold maxLen; omega) (show (0 + l.length) * 8 ≤ 140737488355328 by omega))
  have hnil := Lib.run_eql_slice_nil (P := Try.prog) W 47 3 (some ⟨g, 0, none⟩) l.length cap 0 0 Try.underlying47
  clear h hi hz0 hz1 hz2 hl
  go_enter Try.func77, Try.ntmps77
  go_wp2_with (at_builtin; refine Hid.out ?_)
  unfold Hid
  refine wpList_append_own_at _ rfl _ _ 47 rfl W.heap.size 3 i0 (I 0) 1 8 Try.underlying47 HI.out.1 HI.out.2.1 HI.out.2.2.1 HI.out.2.2.2 rfl (by decide) (.slice (some ⟨W.heap.size, 0, none⟩) 0 0) 0 [] rfl (World.ownsRow_made W #[] 0 (Nat.le_refl _) (by unfold maxLen; omega) rfl) ⟨g, 0, none⟩ l.length cap (ints l) rfl (by simp) ((H.out.alloc _).cells (g := g) rfl) (ints_one l) HL.out.1 HL.out.2 (by simp) ?_
  intro v w2 ho hg _ _
  have hb : Below W.heap.size W w2 := ((Below.refl _ _).alloc (Nat.le_refl _) _).grown hg (by simp) (by intro k hk; simp [Value.ownBlock] at hk; omega)
  have FIN := Lib.hid (And.intro (show Nums w2 W.heap.size v l by have := ho; rw [Nat.zero_add] at this; simpa using this) hb)
  clear ho hg hb
  go_wp2_with fail
  go_ret
  exact ⟨_, rfl, FIN.out⟩

set_option maxRecDepth 100000 in
set_option maxHeartbeats 800000 in
theorem reverse_one (g cap : Nat) (W : World) : Calls Try.prog 78 #[.slice (some ⟨g, 0, none⟩) 1 cap] W fun e w' => e = .returned (.tuple #[]) ∧ W = w' := by
  go_enter Try.func78, Try.ntmps78
  go_wp2_with (fail)
  refine wp_loop_rounds 1 ?_
  rw [rounds_succ]
  go_wp2_with (fail)
  go_end0
  exact ⟨rfl, rfl⟩

/-- What is answered: a list of numbers in new memory, and no error. -/
def Told (w w' : World) (l : List Nat) (e : Ending) : Prop := ∃ v, e = .returned v ∧ Nums w' w.heap.size v l ∧ Below w.heap.size w w'
def Told2 (w w' : World) (l : List Nat) (e : Ending) : Prop := ∃ v, e = .returned (.tuple #[v, I 0]) ∧ Nums w' w.heap.size v l ∧ Below w.heap.size w w'

set_option maxRecDepth 100000 in
set_option maxHeartbeats 800000 in
theorem order_one (bw : Nat) (v0 v2 v3 : Value) (base g cap : Nat) (W : World) (h : Blk bw #[v0, .slice (some ⟨g, 0, none⟩) 1 cap, v2, v3] 116 W) (hn : Nums W base (.slice (some ⟨g, 0, none⟩) 1 cap) [0]) :
    Calls Try.prog 67 #[.pointer (some ⟨bw, 0, none⟩)] W fun e w' => Told W w' [0] e := by
  have c1 := h.get 1 (.slice (some ⟨g, 0, none⟩) 1 cap) rfl
  have HN := Lib.hid (clone_any base g cap [0] (by decide) W hn)
  clear hn h
  go_enter Try.func67, Try.ntmps67
  go_wp2_with fail
  refine HN.out.mono ?_
  rintro e w1 ⟨v, rfl, ho, hb⟩
  obtain ⟨g1, cap1, rfl⟩ : ∃ g cap, v = .slice (some ⟨g, 0, none⟩) 1 cap := by
    rcases own_slice ho with ⟨_, h⟩ | ⟨g, cap, h⟩
    · exact absurd h (by decide)
    · exact ⟨g, cap, h⟩
  have FIN := Lib.hid (And.intro ho hb)
  clear ho hb
  go_wp2_with fail
  refine (reverse_one g1 cap1 w1).mono ?_
  rintro e w1' ⟨rfl, rfl⟩
  go_wp2_with fail
  go_ret
  exact ⟨_, rfl, FIN.out⟩

set_option maxRecDepth 100000 in
set_option maxHeartbeats 800000 in
theorem Order_one (bg : Nat) (w : World) (h : One bg w) : Calls Try.prog 54 #[oneV bg] w fun e w' => Told2 w w' [0] e := by
  have H := Lib.hid h
  clear h
  go_enter Try.func54, Try.ntmps54
  go_wp2_with fail
  refine (fault_one bg w H.out).mono ?_
  rintro e w' ⟨rfl, rfl⟩
  go_wp2_with fail
  refine (newWalk_one bg w H.out).mono ?_
  rintro e w1 ⟨bw, bf, br, v0, v1, rfl, h1, _, h3⟩
  obtain ⟨g1, cap1, rfl⟩ : ∃ g cap, v1 = .slice (some ⟨g, 0, none⟩) 1 cap := by
    rcases own_slice h3 with ⟨_, h⟩ | ⟨g, cap, h⟩
    · exact absurd h (by decide)
    · exact ⟨g, cap, h⟩
  have H1 := Lib.hid (And.intro h1 h3)
  clear h1 h3
  go_wp2_with fail
  refine (order_one bw _ _ _ _ g1 cap1 w1 H1.out.1.blk H1.out.2).mono ?_
  rintro e w2 ⟨v, rfl, ho, hb⟩
  have FIN := Lib.hid (And.intro (own_lower H1.out.1.bel.size ho) (H1.out.1.bel.trans (hb.mono H1.out.1.bel.size)))
  clear ho hb
  go_wp2_with fail
  go_ret2
  exact ⟨_, rfl, FIN.out⟩
end Go.Proofs.Ytiimcckajjpbjaa
