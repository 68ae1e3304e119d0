/-
  Joined: TEx, TAwake, TAwake2.
-/
import Derived.Test.YtcgllooeimacdaaGreatDoorTShA
import Derived.KernelRfl
/-! The document's examples of the parser and of the writer, as plain facts. -/

namespace Go.Proofs.YtcgllooeimacdaaGreatDoor
open Go Go.RowKit Px
open Lx (Tok)

def okToks (l : Bytes) : List Tok := match Lx.scan l with
  | .ok ts => ts
  | .error _ => []

abbrev tx1 : Bytes := [102, 110, 32, 109, 97, 105, 110, 40, 41, 58, 32, 105, 110, 116, 32, 123, 32, 114, 101, 116, 117, 114, 110, 32, 49, 32, 43, 32, 50, 32, 42, 32, 51, 59, 32, 125]
abbrev tx2 : Bytes := [102, 110, 32, 102, 40, 32]
abbrev tx3 : Bytes := [102, 110, 32, 109, 97, 105, 110, 40, 41, 58, 32, 105, 110, 116, 32, 123, 32, 114, 101, 116, 117, 114, 110, 32, 40, 49, 32, 45, 32, 50, 41, 32, 45, 32, 40, 51, 32, 45, 32, 52, 41, 59, 32, 125]
abbrev nmMain : Bytes := [109, 97, 105, 110]
abbrev nE (n pos : Nat) : Ex := .mk 1 0 [] n pos []
abbrev bE (op pos : Nat) (a b : Ex) : Ex := .mk 9 op [] 0 pos [a, b]
abbrev e1 : Ex := bE 1 26 (nE 1 24) (bE 3 30 (nE 2 28) (nE 3 32))
abbrev e3 : Ex := bE 2 32 (bE 2 27 (nE 1 25) (nE 2 29)) (bE 2 37 (nE 3 35) (nE 4 39))
abbrev f1 : Fu := ⟨nmMain, [], 1, [retS 1 17 e1], 0⟩
abbrev f3 : Fu := ⟨nmMain, [], 1, [retS 1 17 e3], 0⟩

theorem sc1 : Lx.scan tx1 = .ok (okToks tx1) := by kernel_rfl
theorem sc2 : Lx.scan tx2 = .ok (okToks tx2) := by kernel_rfl
theorem sc3 : Lx.scan tx3 = .ok (okToks tx3) := by kernel_rfl
instance (ts : List Tok) : Decidable (WfT ts) := by unfold WfT; infer_instance
theorem wf1 : WfT (okToks tx1) := by decide +kernel
theorem wf2 : WfT (okToks tx2) := by decide +kernel
theorem wf3 : WfT (okToks tx3) := by decide +kernel
theorem q1 : fusF (okToks tx1) 60 [] ⟨0, 0, 0⟩ = .ok ([f1], ⟨15, 0, 1⟩) := by kernel_rfl
theorem q2 : fusF (okToks tx2) 60 [] ⟨0, 0, 0⟩ = .error (6, 4) := by kernel_rfl
theorem q3 : fusF (okToks tx3) 60 [] ⟨0, 0, 0⟩ = .ok ([f3], ⟨21, 0, 1⟩) := by kernel_rfl
end Go.Proofs.YtcgllooeimacdaaGreatDoor

/-! The document's examples of the parser and of the writer: the statement's own 'awake' says true. -/

namespace Go.Proofs.YtcgllooeimacdaaGreatDoor
open Go Go.RowKit Px
open Lx (Tok)

theorem parse_one (w : World) (x : Fu) (s : St) (e : Ending) (w' : World) (h : ParsePost w (.ok ([x], s)) e w') :
    ∃ a c, e = .returned (.tuple #[.agg #[.slice a 1 c], .int .i64 0, .int .i64 0]) ∧ Below w.heap.size w w' ∧ FuRow w' (fun h => w.heap.size ≤ h) [x] (.slice a 1 c) := by
  obtain ⟨hb, a, m, c, rfl, hr⟩ := h
  have hm : m = 1 := by
    rcases hr with ⟨h, _⟩ | ⟨_, _, _, h, _⟩
    · cases h
    · cases h; rfl
  subst hm
  exact ⟨a, c, rfl, hb, hr⟩

theorem par1 (w : World) (hT : Tabs w.heap.size w) : Calls Tryz.prog 9 #[.string ⟨tx1.toArray⟩] w fun e w' => ∃ a c, e = .returned (.tuple #[.agg #[.slice a 1 c], .int .i64 0, .int .i64 0]) ∧ Below w.heap.size w w' ∧ FuRow w' (fun h => w.heap.size ≤ h) [f1] (.slice a 1 c) :=
  (treeParse_ts ⟨tx1.toArray⟩ (by decide) (okToks tx1) sc1 wf1 60 (by decide) (by rw [q1]; intro h; cases h) w hT).mono fun e w' h => parse_one w f1 _ e w' (by rw [q1] at h; exact h)
theorem par3 (w : World) (hT : Tabs w.heap.size w) : Calls Tryz.prog 9 #[.string ⟨tx3.toArray⟩] w fun e w' => ∃ a c, e = .returned (.tuple #[.agg #[.slice a 1 c], .int .i64 0, .int .i64 0]) ∧ Below w.heap.size w w' ∧ FuRow w' (fun h => w.heap.size ≤ h) [f3] (.slice a 1 c) :=
  (treeParse_ts ⟨tx3.toArray⟩ (by decide) (okToks tx3) sc3 wf3 60 (by decide) (by rw [q3]; intro h; cases h) w hT).mono fun e w' h => parse_one w f3 _ e w' (by rw [q3] at h; exact h)
theorem par2 (w : World) (hT : Tabs w.heap.size w) : Calls Tryz.prog 9 #[.string ⟨tx2.toArray⟩] w fun e w' => e = .returned (.tuple #[.agg #[.slice none 0 0], .int .i64 6, .int .i64 4]) ∧ Below w.heap.size w w' :=
  (treeParse_ts ⟨tx2.toArray⟩ (by decide) (okToks tx2) sc2 wf2 60 (by decide) (by rw [q2]; intro h; cases h) w hT).mono fun e w' h => by rw [q2] at h; exact ⟨h.2, h.1⟩

abbrev out1 : Bytes := [102, 110, 32, 109, 97, 105, 110, 40, 41, 58, 32, 105, 110, 116, 32, 123, 10, 32, 32, 114, 101, 116, 117, 114, 110, 32, 49, 32, 43, 32, 50, 32, 42, 32, 51, 59, 10, 125, 10]
abbrev out3 : Bytes := [102, 110, 32, 109, 97, 105, 110, 40, 41, 58, 32, 105, 110, 116, 32, 123, 10, 32, 32, 114, 101, 116, 117, 114, 110, 32, 49, 32, 45, 32, 50, 32, 45, 32, 40, 51, 32, 45, 32, 52, 41, 59, 10, 125, 10]
theorem dig1 : Lib.decDigits 1 = [49] := by unfold Lib.decDigits; rfl
theorem dig2 : Lib.decDigits 2 = [50] := by unfold Lib.decDigits; rfl
theorem dig3 : Lib.decDigits 3 = [51] := by unfold Lib.decDigits; rfl
theorem dig4 : Lib.decDigits 4 = [52] := by unfold Lib.decDigits; rfl
theorem num1 (p : Nat) : SupE (nE 1 p) [49] 1 := dig1 ▸ SupE.num 1 p (by decide)
theorem num2 (p : Nat) : SupE (nE 2 p) [50] 1 := dig2 ▸ SupE.num 2 p (by decide)
theorem num3 (p : Nat) : SupE (nE 3 p) [51] 1 := dig3 ▸ SupE.num 3 p (by decide)
theorem num4 (p : Nat) : SupE (nE 4 p) [52] 1 := dig4 ▸ SupE.num 4 p (by decide)
theorem sup1 : SupE e1 [49, 32, 43, 32, 50, 32, 42, 32, 51] 5 := SupE.bin 1 26 _ _ _ _ _ _ (by decide) (by decide) (num1 24) (SupE.bin 3 30 _ _ _ _ _ _ (by decide) (by decide) (num2 28) (num3 32))
theorem sup3 : SupE e3 [49, 32, 45, 32, 50, 32, 45, 32, 40, 51, 32, 45, 32, 52, 41] 7 :=
  SupE.bin 2 32 _ _ _ _ _ _ (by decide) (by decide) (SupE.bin 2 27 _ _ _ _ _ _ (by decide) (by decide) (num1 25) (num2 29)) (SupE.bin 2 37 _ _ _ _ _ _ (by decide) (by decide) (num3 35) (num4 39))

theorem show1 (w : World) (ok : Nat → Prop) (a : Option Addr) (c : Nat) (hx : FuRow w ok [f1] (.slice a 1 c)) : Calls Tryz.prog 24 #[.agg #[.slice a 1 c]] w fun e w' => e = .returned (.string ⟨out1.toArray⟩) ∧ Below w.heap.size w w' :=
  show_any e1 _ 5 (sup_W sup1) w ok 1 17 1 0 nmMain a c (by decide) hx (by decide) (by decide)
theorem show3 (w : World) (ok : Nat → Prop) (a : Option Addr) (c : Nat) (hx : FuRow w ok [f3] (.slice a 1 c)) : Calls Tryz.prog 24 #[.agg #[.slice a 1 c]] w fun e w' => e = .returned (.string ⟨out3.toArray⟩) ∧ Below w.heap.size w w' :=
  show_any e3 _ 7 (sup_W sup3) w ok 1 17 1 0 nmMain a c (by decide) hx (by decide) (by decide)
end Go.Proofs.YtcgllooeimacdaaGreatDoor

/-! The statement's own 'awake' says true. -/

namespace Go.Proofs.YtcgllooeimacdaaGreatDoor
open Go Go.RowKit Px

set_option maxRecDepth 100000 in
set_option maxHeartbeats 2000000 in
theorem awake_tree (w : World) (hT : Tabs w.heap.size w) : Calls Tryz.prog 11 #[] w fun e w' => e = .returned (.bool true) ∧ Below w.heap.size w w' := by
  have HT := Lib.hid hT
  clear hT
  go_enter Tryz.func11, Tryz.ntmps11
  go_wp2_with fail
  refine (par1 w HT.out).mono ?_
  rintro e w1 ⟨a1, c1, rfl, hb1, hr1⟩
  obtain ⟨W1, hW1⟩ : ∃ W, W = w1.alloc (.cells #[.slice a1 1 c1] 24) := ⟨_, rfl⟩
  have hbW1 : Below w.heap.size w W1 := by rw [hW1]; exact hb1.alloc hb1.size _
  have hP1 : Blk w1.heap.size #[.slice a1 1 c1] 24 W1 := by rw [hW1]; exact Blk.new _ _ _
  have hR1 : FuRow W1 (fun h => w.heap.size ≤ h) [f1] (.slice a1 1 c1) := hr1.stays (stays_of_below (show Below w1.heap.size w1 W1 by rw [hW1]; exact (Below.refl _ _).alloc (Nat.le_refl _) _) fun _ h => h)
  have H1 := Lib.hid (And.intro hbW1 (And.intro hP1 hR1))
  have HW1 := Lib.hid hW1
  clear hb1 hr1 hbW1 hP1 hR1 hW1
  go_upto_region 2 with (fail)
  rw [← HW1.out]
  clear HW1
  generalize w1.heap.size = M1 at *
  go_wp2_with fail
  refine (par2 W1 ((HT.out.below H1.out.1).mono H1.out.1.size)).mono ?_
  rintro e w2 ⟨rfl, hb2⟩
  obtain ⟨W2, hW2⟩ : ∃ W, W = w2.alloc (.cells #[.slice none 0 0] 24) := ⟨_, rfl⟩
  have hb12 : Below W1.heap.size W1 W2 := by rw [hW2]; exact hb2.alloc hb2.size _
  have H2 := Lib.hid (And.intro (H1.out.1.trans (hb12.mono H1.out.1.size)) (And.intro (H1.out.2.1.below hb12 H1.out.2.1.lt) (show FuRow W2 (fun h => w.heap.size ≤ h) [f1] (.slice a1 1 c1) from H1.out.2.2.stays (stays_of_below hb12 fun _ h => h))))
  have HW2 := Lib.hid hW2
  clear hb2 hb12 hW2
  go_upto_region 3 with (fail)
  rw [← HW2.out]
  clear HW2 H1
  generalize w2.heap.size = M2 at *
  go_wp2_with fail
  refine (par3 W2 ((HT.out.below H2.out.1).mono H2.out.1.size)).mono ?_
  rintro e w3 ⟨a3, c3, rfl, hb3, hr3⟩
  obtain ⟨W3, hW3⟩ : ∃ W, W = w3.alloc (.cells #[.slice a3 1 c3] 24) := ⟨_, rfl⟩
  have hb23 : Below W2.heap.size W2 W3 := by rw [hW3]; exact hb3.alloc hb3.size _
  have hP3 : Blk w3.heap.size #[.slice a3 1 c3] 24 W3 := by rw [hW3]; exact Blk.new _ _ _
  have hR3 : FuRow W3 (fun h => W2.heap.size ≤ h) [f3] (.slice a3 1 c3) := hr3.stays (stays_of_below (show Below w3.heap.size w3 W3 by rw [hW3]; exact (Below.refl _ _).alloc (Nat.le_refl _) _) fun _ h => h)
  have hP1 := H2.out.2.1.below hb23 H2.out.2.1.lt
  have H3 := Lib.hid (And.intro (H2.out.1.trans (hb23.mono H2.out.1.size)) (And.intro hP1 (And.intro (show FuRow W3 (fun h => w.heap.size ≤ h) [f1] (.slice a1 1 c1) from H2.out.2.2.stays (stays_of_below hb23 fun _ h => h)) (And.intro hP3 hR3))))
  have HW3 := Lib.hid hW3
  have c1' := hP1.get 0 (.slice a1 1 c1) rfl
  have c3' := hP3.get 0 (.slice a3 1 c3) rfl
  clear hb3 hb23 hW3 hP3 hR3 hP1 hr3
  go_upto_region 4 with (fail)
  rw [← HW3.out]
  clear HW3 H2
  generalize w3.heap.size = M3 at *
  go_wp2_with fail
  refine (show1 W3 _ a1 c1 H3.out.2.2.1).mono ?_
  rintro e w4 ⟨rfl, hb4⟩
  have c4 := (H3.out.2.2.2.1.below hb4 H3.out.2.2.2.1.lt).get 0 (.slice a3 1 c3) rfl
  have H4 := Lib.hid (And.intro (H3.out.1.trans (hb4.mono H3.out.1.size)) (show FuRow w4 (fun h => W2.heap.size ≤ h) [f3] (.slice a3 1 c3) from H3.out.2.2.2.2.stays (stays_of_below hb4 fun _ h => h)))
  clear hb4 c1' c3'
  go_wp2_with fail
  refine (show3 w4 _ a3 c3 H4.out.2).mono ?_
  rintro e w5 ⟨rfl, hb5⟩
  have FIN := Lib.hid (H4.out.1.trans (hb5.mono H4.out.1.size))
  clear hb5 c4
  go_wp2_with fail
  go_ret
  exact ⟨rfl, FIN.out⟩
end Go.Proofs.YtcgllooeimacdaaGreatDoor
