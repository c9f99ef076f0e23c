/-
  Numbers that 64 bits hold.
-/
import Derived.Test.YtcikelcecfapcaaDoorChecked
import Derived.WalkKit
import Derived.LoopTactic
import Derived.Below
import Derived.Lib.Hide
import Derived.IntWalk
namespace Go.Proofs.YtcikelcecfapcaaDoor
open Go.RowKit

/-- A number that 64 bits hold. -/
def Fits (n : Int) : Prop := -9223372036854775808 ≤ n ∧ n ≤ 9223372036854775807
instance (n : Int) : Decidable (Fits n) := by unfold Fits; infer_instance

end Go.Proofs.YtcikelcecfapcaaDoor
