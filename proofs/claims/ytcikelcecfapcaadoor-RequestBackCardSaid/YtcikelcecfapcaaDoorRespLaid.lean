/-
  From what two of the rows list of strconv's and math/bits' variables to what the walks ask; and one start at which they read so. No conditions.
-/
import Derived.Test.YtcikelcecfapcaaDoorCards
import Derived.Test.YtcikelcecfapcaaDoorTie
import Derived.Test.YtcikelcecfapcaaDoorRespPrint
import Derived.ProofKit
import Derived.OpenShut
import Derived.Deep.DeepHandedRow
import Derived.Deep.DeepWitnessRowRef
import Derived.Stop.LaidErr
import Derived.Lib.LaidTab
namespace Go.Proofs.YtcikelcecfapcaaDoor
open Go.ChangeShapes Go.WideShapes Go.ChangeAt Go.RowKit

theorem own : ownKnob Tryd.prog.godebug = none := by kernel_rfl

/-- What the rows of RespApart and RespMakes list. -/
def listed3 : List (String × DataW Unit) :=
  [("math/bits.deBruijn32tab", Rows.laid_math_bits_deBruijn32tab), ("math/bits.deBruijn64tab", Rows.laid_math_bits_deBruijn64tab), ("internal/strconv.uint64pow10", Rows.laid_internal_strconv_uint64pow10)]

theorem gPowType : (Tryd.prog.globals[5]?).map (·.type) = some 158 := by kernel_rfl
theorem cellsTab : Tryd.prog.cellsOf 158 = 20 := by kernel_rfl
theorem cellsU64 : Tryd.prog.cellsOf 89 = 1 := by kernel_rfl

theorem tab_is : (Rows.laid_internal_strconv_uint64pow10 : DataW Unit) = Lib.tabData .u64 Lib.pow10Tab := by kernel_rfl

theorem tens_of3 {W : World} (h : laidMet Tryd.prog listed3 W) : Tens W := by
  have h1 := h.tail.tail
  rw [tab_is] at h1
  exact Lib.tabIs_of_head (rest := _) gPow gPowType Tryd.underlying158 Tryd.underlying89 cellsU64 cellsTab h1

/-! ### One start that fits: the tables as their initialisers lay them -/
def litCells : DataW Unit → Array Value
  | .agg ps => (ps.map fun p => match p with | .lit l => l.value | _ => Value.nilIface).toArray
  | _ => #[]
def put (v : Array Value) : Obj → Obj
  | .cells _ t frozen => .cells v t frozen
  | o => o
noncomputable def laidWorld3 (os : Os) : World :=
  let w0 := World.holding Tryd.prog os ⟨#[], #[], []⟩
  { w0 with heap := ((w0.heap.modify 5 (put (litCells Rows.laid_internal_strconv_uint64pow10))).modify 6 (put (litCells Rows.laid_math_bits_deBruijn32tab))).modify 7 (put (litCells Rows.laid_math_bits_deBruijn64tab)) }
theorem laidWorld3_met (os : Os) (args : Array Value) : laidMet Tryd.prog listed3 ((laidWorld3 os).forCall (fun _ _ => 0) ⟨#[], args, []⟩).memory :=
  laidMet_of_run' 8 (by kernel_rfl) (by kernel_rfl)

end Go.Proofs.YtcikelcecfapcaaDoor
