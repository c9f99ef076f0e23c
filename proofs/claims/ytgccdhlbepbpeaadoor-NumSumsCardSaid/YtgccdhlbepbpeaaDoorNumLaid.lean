/-
  From what the rows list of strconv's and math/bits' variables to what the walks ask; and one start at which they read so. No conditions.
-/
import Derived.Test.YtgccdhlbepbpeaaDoorCards
import Derived.Test.YtgccdhlbepbpeaaDoorTie
import Derived.Test.YtgccdhlbepbpeaaDoorNumPrint
import Derived.ProofKit
import Derived.OpenShut
import Derived.Deep.DeepHandedRow
import Derived.Deep.DeepWitnessRowRef
import Derived.Stop.LaidErr
import Derived.Lib.LaidTab
namespace Go.Proofs.YtgccdhlbepbpeaaDoor
open Go.ChangeShapes Go.WideShapes Go.ChangeAt Go.RowKit

theorem own : ownKnob Tryd.prog.godebug = none := by kernel_rfl

/-- What each of the rows lists. -/
def listed : List (String × DataW Unit) :=
  [("math/bits.deBruijn32tab", Rows.laid_math_bits_deBruijn32tab), ("math/bits.deBruijn64tab", Rows.laid_math_bits_deBruijn64tab), ("internal/strconv.uint64pow10", Rows.laid_internal_strconv_uint64pow10), ("strconv.ErrRange", Rows.laid_strconv_ErrRange), ("strconv.ErrSyntax", Rows.laid_strconv_ErrSyntax)]

theorem gPowType : (Tryd.prog.globals[2]?).map (·.type) = some 69 := by kernel_rfl
theorem gSynType : (Tryd.prog.globals[0]?).map (·.type) = some 34 := by kernel_rfl
theorem gRanType : (Tryd.prog.globals[1]?).map (·.type) = some 34 := by kernel_rfl
theorem cellsTab : Tryd.prog.cellsOf 69 = 20 := by kernel_rfl
theorem cellsU64 : Tryd.prog.cellsOf 37 = 1 := by kernel_rfl
theorem cellsErr : Tryd.prog.cellsOf 66 = 1 := by kernel_rfl
theorem cellsStr : Tryd.prog.cellsOf 9 = 1 := by kernel_rfl
theorem star : "*" ++ "errors.errorString" = "*errors.errorString" := by decide
theorem errRow (u : TypeId) (h : Tryd.prog.typeName? 3 u = some "*errors.errorString") : u = 64 :=
  typeName_ptr_named (nm := "errors.errorString") (by rw [star]; kernel_rfl) (by kernel_rfl) (by decide) u (by rw [star]; exact h)

theorem tab_is : (Rows.laid_internal_strconv_uint64pow10 : DataW Unit) = Lib.tabData .u64 Lib.pow10Tab := by kernel_rfl

theorem laid_of {W : World} (h : laidMet Tryd.prog listed W) : Laid W := by
  have h1 := h.tail.tail
  rw [tab_is] at h1
  obtain ⟨a0, s0, hv0, -, -, -⟩ := laid_sentinel h1.tail gRan gRanType Tryd.underlying34 errRow Tryd.underlying64 Tryd.underlying66 rfl rfl Tryd.underlying9 cellsErr cellsStr
  obtain ⟨a1, s1, hv1, -, -, -⟩ := laid_sentinel h1.tail.tail gSyn gSynType Tryd.underlying34 errRow Tryd.underlying64 Tryd.underlying66 rfl rfl Tryd.underlying9 cellsErr cellsStr
  exact ⟨Lib.tabIs_of_head (rest := _) gPow gPowType Tryd.underlying69 Tryd.underlying37 cellsU64 cellsTab h1, ⟨_, _, hv1⟩, ⟨_, _, hv0⟩⟩

/-! ### One start that fits: the tables and the two errors as their initialisers lay them -/
def litCells : DataW Unit → Array Value
  | .agg ps => (ps.map fun p => match p with | .lit l => l.value | _ => Value.nilIface).toArray
  | _ => #[]
def textOf : DataW Unit → Value
  | .iface _ (.ptr (.agg [.lit l])) => l.value
  | _ => Value.nilIface
def put (v : Array Value) : Obj → Obj
  | .cells _ t frozen => .cells v t frozen
  | o => o
/-- So many blocks has the settled world. -/
noncomputable def low : Nat := (World.holding Tryd.prog default ⟨#[], #[], []⟩).heap.size
noncomputable def laidWorld (os : Os) : World :=
  let w0 := World.holding Tryd.prog os ⟨#[.cells #[textOf Rows.laid_strconv_ErrSyntax] 66, .cells #[textOf Rows.laid_strconv_ErrRange] 66], #[], []⟩
  { w0 with heap := ((((w0.heap.modify 0 (put #[.iface 64 (.pointer (some ⟨low, 0, none⟩))])).modify 1 (put #[.iface 64 (.pointer (some ⟨low + 1, 0, none⟩))])).modify
      2 (put (litCells Rows.laid_internal_strconv_uint64pow10))).modify 3 (put (litCells Rows.laid_math_bits_deBruijn32tab))).modify 4 (put (litCells Rows.laid_math_bits_deBruijn64tab)) }
theorem laidWorld_met (os : Os) (args : Array Value) : laidMet Tryd.prog listed ((laidWorld os).forCall (fun _ _ => 0) ⟨#[], args, []⟩).memory :=
  laidMet_of_run' 8 (by kernel_rfl) (by kernel_rfl)

theorem fits_of {x : Int} (h : (Lit.int .i64 x).wf = true) : Fits x := by
  have e1 : IntKind.i64.min = -9223372036854775808 := rfl
  have e2 : IntKind.i64.max = 9223372036854775807 := rfl
  simp [Lit.wf, e1, e2] at h
  exact h
end Go.Proofs.YtgccdhlbepbpeaaDoor
