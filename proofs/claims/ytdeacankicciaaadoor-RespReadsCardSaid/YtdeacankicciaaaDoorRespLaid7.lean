/-
  From what the rows of RespReads, RespWrites and RespMany list to what the walks ask; and one start at which the variables read so. No conditions.
-/
import Derived.Test.YtdeacankicciaaaDoorRespLaid
import Derived.Test.YtdeacankicciaaaDoorRespParse
import Derived.Lib.LaidU8T
import Derived.PinnedBridge
import Derived.Shelf.Vars
namespace Go.Proofs.YtdeacankicciaaaDoor
open Go.ChangeShapes Go.WideShapes Go.ChangeAt Go.RowKit

/-- What these rows list. -/
def listed7 : List (String × DataW Unit) :=
  [("math/bits.deBruijn32tab", Rows.laid_math_bits_deBruijn32tab), ("math/bits.deBruijn64tab", Rows.laid_math_bits_deBruijn64tab), ("internal/strconv.uint64pow10", Rows.laid_internal_strconv_uint64pow10), ("unicode/utf8.acceptRanges", Rows.laid_unicode_utf8_acceptRanges), ("strconv.ErrRange", Rows.laid_strconv_ErrRange), ("strconv.ErrSyntax", Rows.laid_strconv_ErrSyntax), ("unicode/utf8.first", Rows.laid_unicode_utf8_first)]

theorem gSynType : (Tryd.prog.globals[3]?).map (·.type) = some 99 := by kernel_rfl
theorem gRanType : (Tryd.prog.globals[4]?).map (·.type) = some 99 := by kernel_rfl
theorem cellsErr : Tryd.prog.cellsOf 165 = 1 := by kernel_rfl
theorem cellsStr : Tryd.prog.cellsOf 9 = 1 := by kernel_rfl
theorem star : "*" ++ "errors.errorString" = "*errors.errorString" := by decide
theorem errRow (u : TypeId) (h : Tryd.prog.typeName? 3 u = some "*errors.errorString") : u = 163 :=
  typeName_ptr_named (nm := "errors.errorString") (by rw [star]; kernel_rfl) (by kernel_rfl) (by decide) u (by rw [star]; exact h)

theorem errs_of7 {W : World} (h : laidMet Tryd.prog listed7 W) : Errs W := by
  have h1 := h.tail.tail
  rw [tab_is] at h1
  have h4 := h1.tail.tail
  obtain ⟨a0, s0, hv0, -, -, -⟩ := laid_sentinel h4 gRan gRanType Tryd.underlying99 errRow Tryd.underlying163 Tryd.underlying165 rfl rfl Tryd.underlying9 cellsErr cellsStr
  obtain ⟨a1, s1, hv1, -, -, -⟩ := laid_sentinel h4.tail gSyn gSynType Tryd.underlying99 errRow Tryd.underlying163 Tryd.underlying165 rfl rfl Tryd.underlying9 cellsErr cellsStr
  exact ⟨Lib.tabIs_of_head (rest := _) gPow gPowType Tryd.underlying158 Tryd.underlying89 cellsU64 cellsTab h1, ⟨_, _, hv1⟩, ⟨_, _, hv0⟩⟩

theorem accept_is : (Rows.laid_unicode_utf8_acceptRanges : DataW Unit) = Lib.acceptData := by kernel_rfl

/-- Where the tables and their types are. -/
def ren8 : Go.Shelf.Ren := ⟨id, fun | 5 => 5 | 119 => 147 | 138 => 149 | 139 => 150 | n => n, fun | 3 => 1 | 4 => 2 | n => n⟩

theorem tabs_of7 {W : World} (h : laidMet Tryd.prog listed7 W) : Lib.Utf8Tabs 1 2 W :=
  utf8Tabs_of_readsT (P := Tryd.prog) (ρ := ren8) ⟨Tryd.underlying5, Tryd.underlying147, Tryd.underlying149, Tryd.underlying150⟩ ⟨by kernel_rfl, by kernel_rfl, by kernel_rfl, by kernel_rfl, by kernel_rfl, by kernel_rfl, by kernel_rfl⟩
    (by
      have := Lib.laidMet.reads h (.tail _ (.tail _ (.tail _ (.tail _ (.tail _ (.tail _ (.head _)))))))
      rw [show Rows.laid_unicode_utf8_first = Lib.firstData from Pinned.utf8First_eq] at this
      exact this)
    (by
      have := Lib.laidMet.reads h (.tail _ (.tail _ (.tail _ (.head _))))
      rw [accept_is] at this
      exact this)

theorem most_of {W : World} (h : W.ShapedOpen Tryd.prog) : ∃ m : Int, W.cell? ⟨0, 0, none⟩ = some (.int .i64 m) :=
  cell_of_shapedOpen_int (zero := #[.int .i64 0]) (t := 3) h (of_decide_eq_true (by kernel_rfl)) (by kernel_rfl) rfl (by kernel_rfl) (by kernel_rfl) Tryd.underlying3

theorem runes_of7 {W : World} (h : laidMet Tryd.prog listed7 W) (hs : W.ShapedOpen Tryd.prog) : Runes W := ⟨tabs_of7 h, most_of hs⟩

/-! ### One start that fits: the tables and the two errors as their initialisers lay them -/
def textOf : DataW Unit → Value
  | .iface _ (.ptr (.agg [.lit l])) => l.value
  | _ => Value.nilIface
def pairCells : DataW Unit → Array Value
  | .agg ps => (ps.flatMap fun p => match p with | .agg qs => qs.map (fun q => match q with | .lit l => l.value | _ => Value.nilIface) | _ => []).toArray
  | _ => #[]
/-- So many blocks has the settled world. -/
noncomputable def low : Nat := (World.holding Tryd.prog default ⟨#[], #[], []⟩).heap.size
noncomputable def laidWorld7 (os : Os) : World :=
  let w0 := World.holding Tryd.prog os ⟨#[.cells #[textOf Rows.laid_strconv_ErrSyntax] 165, .cells #[textOf Rows.laid_strconv_ErrRange] 165], #[], []⟩
  { w0 with heap := (((((((w0.heap.modify 3 (put #[.iface 163 (.pointer (some ⟨low, 0, none⟩))])).modify 4 (put #[.iface 163 (.pointer (some ⟨low + 1, 0, none⟩))])).modify
      5 (put (litCells Rows.laid_internal_strconv_uint64pow10))).modify 6 (put (litCells Rows.laid_math_bits_deBruijn32tab))).modify 7 (put (litCells Rows.laid_math_bits_deBruijn64tab))).modify
      1 (put (litCells Rows.laid_unicode_utf8_first))).modify 2 (put (pairCells Rows.laid_unicode_utf8_acceptRanges))) }
theorem laidWorld7_met (os : Os) (args : Array Value) : laidMet Tryd.prog listed7 ((laidWorld7 os).forCall (fun _ _ => 0) ⟨#[], args, []⟩).memory :=
  laidMet_of_run' 8 (by kernel_rfl) (by kernel_rfl)
end Go.Proofs.YtdeacankicciaaaDoor
