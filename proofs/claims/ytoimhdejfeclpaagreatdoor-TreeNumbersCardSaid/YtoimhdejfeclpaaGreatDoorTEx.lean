/-
  The document's examples of the parser and of the writer, as plain facts.
-/
import Derived.Test.YtoimhdejfeclpaaGreatDoorTShA
import Derived.KernelRfl
namespace Go.Proofs.YtoimhdejfeclpaaGreatDoor
open Go Go.RowKit Px
open Lx (Tok)

def okToks (l : Bytes) : List Tok := match Lx.scan l with
  | .ok ts => ts
  | .error _ => []

abbrev tx1 : Bytes := [102, 110, 32, 109, 97, 105, 110, 40, 41, 58, 32, 105, 110, 116, 32, 123, 32, 114, 101, 116, 117, 114, 110, 32, 49, 32, 43, 32, 50, 32, 42, 32, 51, 59, 32, 125]
abbrev tx2 : Bytes := [102, 110, 32, 102, 40, 32]
abbrev tx3 : Bytes := [102, 110, 32, 109, 97, 105, 110, 40, 41, 58, 32, 105, 110, 116, 32, 123, 32, 114, 101, 116, 117, 114, 110, 32, 40, 49, 32, 45, 32, 50, 41, 32, 45, 32, 40, 51, 32, 45, 32, 52, 41, 59, 32, 125]
abbrev nmMain : Bytes := [109, 97, 105, 110]
abbrev nE (n pos : Nat) : Ex := .mk 1 0 [] n pos []
abbrev bE (op pos : Nat) (a b : Ex) : Ex := .mk 9 op [] 0 pos [a, b]
abbrev e1 : Ex := bE 1 26 (nE 1 24) (bE 3 30 (nE 2 28) (nE 3 32))
abbrev e3 : Ex := bE 2 32 (bE 2 27 (nE 1 25) (nE 2 29)) (bE 2 37 (nE 3 35) (nE 4 39))
abbrev f1 : Fu := ⟨nmMain, [], 1, [retS 1 17 e1], 0⟩
abbrev f3 : Fu := ⟨nmMain, [], 1, [retS 1 17 e3], 0⟩

theorem sc1 : Lx.scan tx1 = .ok (okToks tx1) := by kernel_rfl
theorem sc2 : Lx.scan tx2 = .ok (okToks tx2) := by kernel_rfl
theorem sc3 : Lx.scan tx3 = .ok (okToks tx3) := by kernel_rfl
instance (ts : List Tok) : Decidable (WfT ts) := by unfold WfT; infer_instance
theorem wf1 : WfT (okToks tx1) := by decide +kernel
theorem wf2 : WfT (okToks tx2) := by decide +kernel
theorem wf3 : WfT (okToks tx3) := by decide +kernel
theorem q1 : fusF (okToks tx1) 60 [] ⟨0, 0, 0⟩ = .ok ([f1], ⟨15, 0, 1⟩) := by kernel_rfl
theorem q2 : fusF (okToks tx2) 60 [] ⟨0, 0, 0⟩ = .error (6, 4) := by kernel_rfl
theorem q3 : fusF (okToks tx3) 60 [] ⟨0, 0, 0⟩ = .ok ([f3], ⟨21, 0, 1⟩) := by kernel_rfl
theorem end1 : (tk (okToks tx1) 15).kind = 0 := by kernel_rfl
theorem end3 : (tk (okToks tx3) 21).kind = 0 := by kernel_rfl
end Go.Proofs.YtoimhdejfeclpaaGreatDoor
