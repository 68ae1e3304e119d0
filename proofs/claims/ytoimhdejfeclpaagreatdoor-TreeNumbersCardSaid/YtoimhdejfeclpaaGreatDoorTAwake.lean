/-
  The document's examples of the parser and of the writer: the statement's own 'awake' says true.
-/
import Derived.Test.YtoimhdejfeclpaaGreatDoorTEx
namespace Go.Proofs.YtoimhdejfeclpaaGreatDoor
open Go Go.RowKit Px
open Lx (Tok)

theorem parse_one (w : World) (x : Fu) (s : St) (e : Ending) (w' : World) (h : ParsePost w (.ok ([x], s)) e w') :
    ∃ a c, e = .returned (.tuple #[.agg #[.slice a 1 c], .int .i64 0, .int .i64 0]) ∧ Below w.heap.size w w' ∧ FuRow w' (fun h => w.heap.size ≤ h) [x] (.slice a 1 c) := by
  obtain ⟨hb, a, m, c, rfl, hr⟩ := h
  have hm : m = 1 := by
    rcases hr with ⟨h, _⟩ | ⟨_, _, _, h, _⟩
    · cases h
    · cases h; rfl
  subst hm
  exact ⟨a, c, rfl, hb, hr⟩

theorem par1 (w : World) (hT : Tabs w.heap.size w) : Calls Tryz.prog 9 #[.string ⟨tx1.toArray⟩] w fun e w' => ∃ a c, e = .returned (.tuple #[.agg #[.slice a 1 c], .int .i64 0, .int .i64 0]) ∧ Below w.heap.size w w' ∧ FuRow w' (fun h => w.heap.size ≤ h) [f1] (.slice a 1 c) :=
  (treeParse_ts ⟨tx1.toArray⟩ (by decide) (okToks tx1) sc1 wf1 60 (by decide) (by rw [q1]; intro h; cases h) w hT).mono fun e w' h => parse_one w f1 _ e w' (by rw [q1] at h; exact h)
theorem par3 (w : World) (hT : Tabs w.heap.size w) : Calls Tryz.prog 9 #[.string ⟨tx3.toArray⟩] w fun e w' => ∃ a c, e = .returned (.tuple #[.agg #[.slice a 1 c], .int .i64 0, .int .i64 0]) ∧ Below w.heap.size w w' ∧ FuRow w' (fun h => w.heap.size ≤ h) [f3] (.slice a 1 c) :=
  (treeParse_ts ⟨tx3.toArray⟩ (by decide) (okToks tx3) sc3 wf3 60 (by decide) (by rw [q3]; intro h; cases h) w hT).mono fun e w' h => parse_one w f3 _ e w' (by rw [q3] at h; exact h)
theorem par2 (w : World) (hT : Tabs w.heap.size w) : Calls Tryz.prog 9 #[.string ⟨tx2.toArray⟩] w fun e w' => e = .returned (.tuple #[.agg #[.slice none 0 0], .int .i64 6, .int .i64 4]) ∧ Below w.heap.size w w' :=
  (treeParse_ts ⟨tx2.toArray⟩ (by decide) (okToks tx2) sc2 wf2 60 (by decide) (by rw [q2]; intro h; cases h) w hT).mono fun e w' h => by rw [q2] at h; exact ⟨h.2, h.1⟩

abbrev out1 : Bytes := [102, 110, 32, 109, 97, 105, 110, 40, 41, 58, 32, 105, 110, 116, 32, 123, 10, 32, 32, 114, 101, 116, 117, 114, 110, 32, 49, 32, 43, 32, 50, 32, 42, 32, 51, 59, 10, 125, 10]
abbrev out3 : Bytes := [102, 110, 32, 109, 97, 105, 110, 40, 41, 58, 32, 105, 110, 116, 32, 123, 10, 32, 32, 114, 101, 116, 117, 114, 110, 32, 49, 32, 45, 32, 50, 32, 45, 32, 40, 51, 32, 45, 32, 52, 41, 59, 10, 125, 10]
theorem dig1 : Lib.decDigits 1 = [49] := by unfold Lib.decDigits; rfl
theorem dig2 : Lib.decDigits 2 = [50] := by unfold Lib.decDigits; rfl
theorem dig3 : Lib.decDigits 3 = [51] := by unfold Lib.decDigits; rfl
theorem dig4 : Lib.decDigits 4 = [52] := by unfold Lib.decDigits; rfl
theorem num1 (p : Nat) : SupE (nE 1 p) [49] 1 := dig1 ▸ SupE.num 1 p (by decide)
theorem num2 (p : Nat) : SupE (nE 2 p) [50] 1 := dig2 ▸ SupE.num 2 p (by decide)
theorem num3 (p : Nat) : SupE (nE 3 p) [51] 1 := dig3 ▸ SupE.num 3 p (by decide)
theorem num4 (p : Nat) : SupE (nE 4 p) [52] 1 := dig4 ▸ SupE.num 4 p (by decide)
theorem sup1 : SupE e1 [49, 32, 43, 32, 50, 32, 42, 32, 51] 5 := SupE.bin 1 26 _ _ _ _ _ _ (by decide) (by decide) (num1 24) (SupE.bin 3 30 _ _ _ _ _ _ (by decide) (by decide) (num2 28) (num3 32))
theorem sup3 : SupE e3 [49, 32, 45, 32, 50, 32, 45, 32, 40, 51, 32, 45, 32, 52, 41] 7 :=
  SupE.bin 2 32 _ _ _ _ _ _ (by decide) (by decide) (SupE.bin 2 27 _ _ _ _ _ _ (by decide) (by decide) (num1 25) (num2 29)) (SupE.bin 2 37 _ _ _ _ _ _ (by decide) (by decide) (num3 35) (num4 39))

theorem show1 (w : World) (ok : Nat → Prop) (a : Option Addr) (c : Nat) (hx : FuRow w ok [f1] (.slice a 1 c)) : Calls Tryz.prog 24 #[.agg #[.slice a 1 c]] w fun e w' => e = .returned (.string ⟨out1.toArray⟩) ∧ Below w.heap.size w w' :=
  show_any e1 _ 5 (sup_W sup1) w ok 1 17 1 0 nmMain a c (by decide) hx (by decide) (by decide)
theorem show3 (w : World) (ok : Nat → Prop) (a : Option Addr) (c : Nat) (hx : FuRow w ok [f3] (.slice a 1 c)) : Calls Tryz.prog 24 #[.agg #[.slice a 1 c]] w fun e w' => e = .returned (.string ⟨out3.toArray⟩) ∧ Below w.heap.size w w' :=
  show_any e3 _ 7 (sup_W sup3) w ok 1 17 1 0 nmMain a c (by decide) hx (by decide) (by decide)
end Go.Proofs.YtoimhdejfeclpaaGreatDoor
