/-
  What the statements' own check of the document's examples answers: true. And what the reference's Add and Sub answer. Conditions: strconv's variables read as they are laid; 64-bit integers.
-/
import Derived.Test.YtgccdhlbepbpeaaDoorNumParse
namespace Go.Proofs.YtgccdhlbepbpeaaDoor
open Go.RowKit

/-- The least 64-bit integer. -/
def least : Int := -9223372036854775808
theorem least_fits : Fits least := by unfold Fits least; omega
theorem least_is : (least == (-9223372036854775808 : Int)) = true := by unfold least; rfl
theorem least_text : (⟨#[45, 57, 50, 50, 51, 51, 55, 50, 48, 51, 54, 56, 53, 52, 55, 55, 53, 56, 48, 56]⟩ : ByteArray) = numText least := by
  unfold least numText Lib.itoa
  rw [if_pos (by omega)]
  simp [Lib.decDigits]

set_option maxHeartbeats 400000 in
theorem awake_any (w : World) (hL : Laid w) :
    Calls Tryd.prog 8 #[] w fun e w' => e = .returned (.bool true) ∧ Below w.heap.size w w' := by
  have hm := least_is
  have HT := Lib.hid least_text
  go_enter Tryd.func8, Tryd.ntmps8
  go_wp2_with fail
  rw [HT.out]
  refine (parse_yes least least_fits _ hL).mono ?_
  rintro e w1 ⟨rfl, hb1⟩
  go_wp2
  go_ret
  exact ⟨rfl, hb1⟩

theorem u64_mod (n : Int) : IntKind.u64.wrap n = n % 18446744073709551616 := by simp [IntKind.wrap, IntKind.bits, IntKind.signed]
theorem wsub00 (a b : Int) : wrap64 (IntKind.u64.wrap (a - b)) = wrap64 (a - b) := by rw [u64_mod]; unfold wrap64; omega
theorem wsub01 (a b : Int) : wrap64 (IntKind.u64.wrap (a - IntKind.u64.wrap b)) = wrap64 (a - b) := by rw [u64_mod, u64_mod]; unfold wrap64; omega
theorem wsub10 (a b : Int) : wrap64 (IntKind.u64.wrap (IntKind.u64.wrap a - b)) = wrap64 (a - b) := by rw [u64_mod, u64_mod]; unfold wrap64; omega
theorem wsub11 (a b : Int) : wrap64 (IntKind.u64.wrap (IntKind.u64.wrap a - IntKind.u64.wrap b)) = wrap64 (a - b) := by rw [u64_mod, u64_mod, u64_mod]; unfold wrap64; omega
theorem wadd00 (a b : Int) : wrap64 (IntKind.u64.wrap (a + b)) = wrap64 (a + b) := by rw [u64_mod]; unfold wrap64; omega
theorem wadd01 (a b : Int) : wrap64 (IntKind.u64.wrap (a + IntKind.u64.wrap b)) = wrap64 (a + b) := by rw [u64_mod, u64_mod]; unfold wrap64; omega
theorem wadd10 (a b : Int) : wrap64 (IntKind.u64.wrap (IntKind.u64.wrap a + b)) = wrap64 (a + b) := by rw [u64_mod, u64_mod]; unfold wrap64; omega
theorem wadd11 (a b : Int) : wrap64 (IntKind.u64.wrap (IntKind.u64.wrap a + IntKind.u64.wrap b)) = wrap64 (a + b) := by rw [u64_mod, u64_mod, u64_mod]; unfold wrap64; omega
theorem wrap64_fits {n : Int} (h : Fits n) : wrap64 n = n := by obtain ⟨h0, h1⟩ := h; unfold wrap64; omega

/-- A difference or sum that the reference finds to fit, whatever form the walk gives it. -/
def Gives (x : Int) (w : World) (e : Ending) (w' : World) : Prop := e = .returned (.tuple #[.int .i64 x, .bool true]) ∧ w = w'
theorem gives_mk {x y : Int} {w : World} (h : y = x) : Gives x w (.returned (.tuple #[.int .i64 y, .bool true])) w := ⟨by rw [h], rfl⟩

set_option maxHeartbeats 1600000 in
theorem refsub_yes (a b : Int) (w : World) (ha : Fits a) (hb : Fits b) (h : Fits (a - b)) :
    Calls Tryd.prog 16 #[.int .i64 a, .int .i64 b] w (Gives (a - b) w) := by
  have HW := Lib.hid (wrap64_fits h)
  obtain ⟨ha0, ha1⟩ := ha
  obtain ⟨hb0, hb1⟩ := hb
  obtain ⟨h0, h1⟩ := h
  by_cases hca : a < 0 <;> by_cases hcb : b < 0
  · have HT : Hid (wrap64 (IntKind.u64.wrap (IntKind.u64.wrap a - IntKind.u64.wrap b)) = a - b) := (wsub11 a b).trans HW.out
    first
      | have hs : wrap64 (IntKind.u64.wrap (IntKind.u64.wrap a - IntKind.u64.wrap b)) < 0 := by rw [HT.out]; omega
      | have hs : 0 ≤ wrap64 (IntKind.u64.wrap (IntKind.u64.wrap a - IntKind.u64.wrap b)) := by rw [HT.out]; omega
      | skip
    go_enter Tryd.func16, Tryd.ntmps16
    go_wp2
    all_goals
      go_ret2
      exact gives_mk (by first | exact HT.out | rfl)
  · have HT : Hid (wrap64 (IntKind.u64.wrap (IntKind.u64.wrap a - b)) = a - b) := (wsub10 a b).trans HW.out
    first
      | have hs : wrap64 (IntKind.u64.wrap (IntKind.u64.wrap a - b)) < 0 := by rw [HT.out]; omega
      | have hs : 0 ≤ wrap64 (IntKind.u64.wrap (IntKind.u64.wrap a - b)) := by rw [HT.out]; omega
      | skip
    go_enter Tryd.func16, Tryd.ntmps16
    go_wp2
    all_goals
      go_ret2
      exact gives_mk (by first | exact HT.out | rfl)
  · have HT : Hid (wrap64 (IntKind.u64.wrap (a - IntKind.u64.wrap b)) = a - b) := (wsub01 a b).trans HW.out
    first
      | have hs : wrap64 (IntKind.u64.wrap (a - IntKind.u64.wrap b)) < 0 := by rw [HT.out]; omega
      | have hs : 0 ≤ wrap64 (IntKind.u64.wrap (a - IntKind.u64.wrap b)) := by rw [HT.out]; omega
      | skip
    go_enter Tryd.func16, Tryd.ntmps16
    go_wp2
    all_goals
      go_ret2
      exact gives_mk (by first | exact HT.out | rfl)
  · have HT : Hid (wrap64 (IntKind.u64.wrap (a - b)) = a - b) := (wsub00 a b).trans HW.out
    first
      | have hs : wrap64 (IntKind.u64.wrap (a - b)) < 0 := by rw [HT.out]; omega
      | have hs : 0 ≤ wrap64 (IntKind.u64.wrap (a - b)) := by rw [HT.out]; omega
      | skip
    go_enter Tryd.func16, Tryd.ntmps16
    go_wp2
    all_goals
      go_ret2
      exact gives_mk (by first | exact HT.out | rfl)

set_option maxHeartbeats 1600000 in
theorem refsub_no (a b : Int) (w : World) (ha : Fits a) (hb : Fits b) (h : ¬ Fits (a - b)) :
    Calls Tryd.prog 16 #[.int .i64 a, .int .i64 b] w fun e w' => e = .returned (.tuple #[.int .i64 0, .bool false]) ∧ w = w' := by
  obtain ⟨ha0, ha1⟩ := ha
  obtain ⟨hb0, hb1⟩ := hb
  unfold Fits at h
  by_cases hca : a < 0 <;> by_cases hcb : b < 0
  · exfalso; omega
  · have hs : 0 ≤ wrap64 (IntKind.u64.wrap (IntKind.u64.wrap a - b)) := by rw [wsub10, wrap64_lo _ (by omega) (by omega)]; omega
    clear h
    go_enter Tryd.func16, Tryd.ntmps16
    go_wp2
    go_ret2
    exact ⟨rfl, rfl⟩
  · have hs : wrap64 (IntKind.u64.wrap (a - IntKind.u64.wrap b)) < 0 := by rw [wsub01, wrap64_hi _ (by omega) (by omega)]; omega
    clear h
    go_enter Tryd.func16, Tryd.ntmps16
    go_wp2
    go_ret2
    exact ⟨rfl, rfl⟩
  · exfalso; omega

set_option maxHeartbeats 1600000 in
theorem refadd_yes (a b : Int) (w : World) (ha : Fits a) (hb : Fits b) (h : Fits (a + b)) :
    Calls Tryd.prog 14 #[.int .i64 a, .int .i64 b] w (Gives (a + b) w) := by
  have HW := Lib.hid (wrap64_fits h)
  obtain ⟨ha0, ha1⟩ := ha
  obtain ⟨hb0, hb1⟩ := hb
  obtain ⟨h0, h1⟩ := h
  by_cases hca : a < 0 <;> by_cases hcb : b < 0
  · have HT : Hid (wrap64 (IntKind.u64.wrap (IntKind.u64.wrap a + IntKind.u64.wrap b)) = a + b) := (wadd11 a b).trans HW.out
    first
      | have hs : wrap64 (IntKind.u64.wrap (IntKind.u64.wrap a + IntKind.u64.wrap b)) < 0 := by rw [HT.out]; omega
      | have hs : 0 ≤ wrap64 (IntKind.u64.wrap (IntKind.u64.wrap a + IntKind.u64.wrap b)) := by rw [HT.out]; omega
      | skip
    go_enter Tryd.func14, Tryd.ntmps14
    go_wp2
    all_goals
      go_ret2
      exact gives_mk (by first | exact HT.out | rfl)
  · have HT : Hid (wrap64 (IntKind.u64.wrap (IntKind.u64.wrap a + b)) = a + b) := (wadd10 a b).trans HW.out
    first
      | have hs : wrap64 (IntKind.u64.wrap (IntKind.u64.wrap a + b)) < 0 := by rw [HT.out]; omega
      | have hs : 0 ≤ wrap64 (IntKind.u64.wrap (IntKind.u64.wrap a + b)) := by rw [HT.out]; omega
      | skip
    go_enter Tryd.func14, Tryd.ntmps14
    go_wp2
    all_goals
      go_ret2
      exact gives_mk (by first | exact HT.out | rfl)
  · have HT : Hid (wrap64 (IntKind.u64.wrap (a + IntKind.u64.wrap b)) = a + b) := (wadd01 a b).trans HW.out
    first
      | have hs : wrap64 (IntKind.u64.wrap (a + IntKind.u64.wrap b)) < 0 := by rw [HT.out]; omega
      | have hs : 0 ≤ wrap64 (IntKind.u64.wrap (a + IntKind.u64.wrap b)) := by rw [HT.out]; omega
      | skip
    go_enter Tryd.func14, Tryd.ntmps14
    go_wp2
    all_goals
      go_ret2
      exact gives_mk (by first | exact HT.out | rfl)
  · have HT : Hid (wrap64 (IntKind.u64.wrap (a + b)) = a + b) := (wadd00 a b).trans HW.out
    first
      | have hs : wrap64 (IntKind.u64.wrap (a + b)) < 0 := by rw [HT.out]; omega
      | have hs : 0 ≤ wrap64 (IntKind.u64.wrap (a + b)) := by rw [HT.out]; omega
      | skip
    go_enter Tryd.func14, Tryd.ntmps14
    go_wp2
    all_goals
      go_ret2
      exact gives_mk (by first | exact HT.out | rfl)

set_option maxHeartbeats 1600000 in
theorem refadd_no (a b : Int) (w : World) (ha : Fits a) (hb : Fits b) (h : ¬ Fits (a + b)) :
    Calls Tryd.prog 14 #[.int .i64 a, .int .i64 b] w fun e w' => e = .returned (.tuple #[.int .i64 0, .bool false]) ∧ w = w' := by
  obtain ⟨ha0, ha1⟩ := ha
  obtain ⟨hb0, hb1⟩ := hb
  unfold Fits at h
  by_cases hca : a < 0 <;> by_cases hcb : b < 0
  · have hs : 0 ≤ wrap64 (IntKind.u64.wrap (IntKind.u64.wrap a + IntKind.u64.wrap b)) := by rw [wadd11, wrap64_lo _ (by omega) (by omega)]; omega
    clear h
    go_enter Tryd.func14, Tryd.ntmps14
    go_wp2
    go_ret2
    exact ⟨rfl, rfl⟩
  · exfalso; omega
  · exfalso; omega
  · have hs : wrap64 (a + b) < 0 := by rw [wrap64_hi _ (by omega) (by omega)]; omega
    clear h
    go_enter Tryd.func14, Tryd.ntmps14
    go_wp2
    go_ret2
    exact ⟨rfl, rfl⟩
end Go.Proofs.YtgccdhlbepbpeaaDoor
