/-
  From what the rows of layer 5 list to what the walks ask; and one start at which the variables read so. No conditions.
-/
import Derived.Test.YtcikelcecfapcaaDoorRespLaid
import Derived.Test.YtcikelcecfapcaaDoorRespParse
namespace Go.Proofs.YtcikelcecfapcaaDoor
open Go.ChangeShapes Go.WideShapes Go.ChangeAt Go.RowKit

/-- What these rows list. -/
def listed5 : List (String × DataW Unit) :=
  [("math/bits.deBruijn32tab", Rows.laid_math_bits_deBruijn32tab), ("math/bits.deBruijn64tab", Rows.laid_math_bits_deBruijn64tab), ("internal/strconv.uint64pow10", Rows.laid_internal_strconv_uint64pow10), ("strconv.ErrRange", Rows.laid_strconv_ErrRange), ("strconv.ErrSyntax", Rows.laid_strconv_ErrSyntax)]

theorem gSynType5 : (Tryd.prog.globals[3]?).map (·.type) = some 99 := by kernel_rfl
theorem gRanType5 : (Tryd.prog.globals[4]?).map (·.type) = some 99 := by kernel_rfl
theorem cellsErr5 : Tryd.prog.cellsOf 165 = 1 := by kernel_rfl
theorem cellsStr5 : Tryd.prog.cellsOf 9 = 1 := by kernel_rfl
theorem star5 : "*" ++ "errors.errorString" = "*errors.errorString" := by decide
theorem errRow5 (u : TypeId) (h : Tryd.prog.typeName? 3 u = some "*errors.errorString") : u = 163 :=
  typeName_ptr_named (nm := "errors.errorString") (by rw [star5]; kernel_rfl) (by kernel_rfl) (by decide) u (by rw [star5]; exact h)

theorem errs_of5 {W : World} (h : laidMet Tryd.prog listed5 W) : Errs W := by
  have h1 := h.tail.tail
  rw [tab_is] at h1
  have h4 := h1.tail
  obtain ⟨a0, s0, hv0, -, -, -⟩ := laid_sentinel h4 gRan gRanType5 Tryd.underlying99 errRow5 Tryd.underlying163 Tryd.underlying165 rfl rfl Tryd.underlying9 cellsErr5 cellsStr5
  obtain ⟨a1, s1, hv1, -, -, -⟩ := laid_sentinel h4.tail gSyn gSynType5 Tryd.underlying99 errRow5 Tryd.underlying163 Tryd.underlying165 rfl rfl Tryd.underlying9 cellsErr5 cellsStr5
  exact ⟨Lib.tabIs_of_head (rest := _) gPow gPowType Tryd.underlying158 Tryd.underlying89 cellsU64 cellsTab h1, ⟨_, _, hv1⟩, ⟨_, _, hv0⟩⟩

/-! ### One start that fits -/
def textOf5 : DataW Unit → Value
  | .iface _ (.ptr (.agg [.lit l])) => l.value
  | _ => Value.nilIface
/-- So many blocks has the settled world. -/
noncomputable def low5 : Nat := (World.holding Tryd.prog default ⟨#[], #[], []⟩).heap.size
noncomputable def laidWorld5 (os : Os) : World :=
  let w0 := World.holding Tryd.prog os ⟨#[.cells #[textOf5 Rows.laid_strconv_ErrSyntax] 165, .cells #[textOf5 Rows.laid_strconv_ErrRange] 165], #[], []⟩
  { w0 with heap := ((((w0.heap.modify 3 (put #[.iface 163 (.pointer (some ⟨low5, 0, none⟩))])).modify 4 (put #[.iface 163 (.pointer (some ⟨low5 + 1, 0, none⟩))])).modify
      5 (put (litCells Rows.laid_internal_strconv_uint64pow10))).modify 6 (put (litCells Rows.laid_math_bits_deBruijn32tab))).modify 7 (put (litCells Rows.laid_math_bits_deBruijn64tab)) }
theorem laidWorld5_met (os : Os) (args : Array Value) : laidMet Tryd.prog listed5 ((laidWorld5 os).forCall (fun _ _ => 0) ⟨#[], args, []⟩).memory :=
  laidMet_of_run' 8 (by kernel_rfl) (by kernel_rfl)
end Go.Proofs.YtcikelcecfapcaaDoor
