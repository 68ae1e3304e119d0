/-
  What the texts of graphs and of code begin with.
-/
import Derived.Test.YtomfmkddfgpmkaaProg
import Derived.WalkKit
import Derived.WalkLawsBesides
import Derived.Handy
import Derived.OneCell
import Derived.Lib.Hide
import Derived.BigQuiet
import Derived.BigGuardPart
import Derived.Outline
import Derived.Deep.QuietTactic
namespace Go.Proofs.Ytomfmkddfgpmkaa
open Go Go.RowKit

theorem ret_bool {a b : Bool} (h : a = b) : Ending.returned (.bool a) = .returned (.bool b) := by rw [h]
theorem ret_int {k : IntKind} {a b : Int} (h : a = b) : Ending.returned (.int k a) = .returned (.int k b) := by rw [h]

end Go.Proofs.Ytomfmkddfgpmkaa
