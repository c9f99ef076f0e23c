/-
  What the laws' arguments are in memory: slices of numbers of 16 bits.
-/
import Derived.Test.YtnnpfehfoaojfaaLogRooms
import Derived.Test.YtnnpfehfoaojfaaLogArgs
namespace Go.Proofs.Ytnnpfehfoaojfaa
open Go.RowKit Go.ChangeShapes Go.WideShapes

theorem cells_u16 : Try.prog.cellsOf 57 = 1 := by kernel_rfl
theorem u16_bounds {z : Int} (h : (Lit.int .u16 z).wf = true) : 0 ≤ z ∧ z < 65536 := by
  have e1 : IntKind.u16.min = 0 := rfl
  have e2 : IntKind.u16.max = 65535 := rfl
  have : 0 ≤ z ∧ z ≤ 65535 := by simpa [Lit.wf, e1, e2] using h
  omega
set_option maxRecDepth 20000 in
theorem open_u16s {H : Type} {enc : TypeId × Value → H} {W : World} {r : Reach} {base : Nat} {v : Value} {d : DataW H} {ps : List MemPlace}
    (hv : Value.okWide Try.prog W r base 56 v) (h : DataW.Trod enc Try.prog W 0 (fun _ => true) true 56 v d ps) :
    ∃ p c xs, v = .slice p xs.length c ∧ U16At W p xs := by
  obtain ⟨a0, len, cap, rfl⟩ := okWide_slice Try.underlying56 hv
  obtain ⟨fuel, hf⟩ := h
  rcases open_ints Try.underlying56 Try.underlying57 cells_u16 hf with ⟨hcs, hx⟩ | ⟨a, len', cap', zs, hcs, _, hl, hm, hz, hx, hcell, hw⟩
  · simp [Value.cells] at hcs
    obtain ⟨rfl, rfl, rfl⟩ := hcs
    exact ⟨none, 0, [], rfl, fun j hj => by simp at hj⟩
  · simp [Value.cells] at hcs
    obtain ⟨rfl, rfl, rfl⟩ := hcs
    simp only [if_true] at hz
    have hlz : len ≤ zs.length := by omega
    refine ⟨some a, cap, (zs.take len).map Int.toNat, by rw [List.length_map, List.length_take, Nat.min_eq_left hlz], fun j hj => ?_⟩
    rw [List.length_map, List.length_take] at hj
    obtain ⟨b, o, s⟩ := a
    obtain rfl : s = none := by simpa [Addr.add] using World.cell?_spot (hcell 0 (by omega))
    have h1 := hcell j (by omega)
    rw [add_plain] at h1
    have hzj := u16_bounds (hw (zs[j]'(by omega)) (List.getElem_mem _))
    rw [List.getElem_map, List.getElem_take]
    refine ⟨by omega, b, o, rfl, ?_⟩
    rw [h1, List.getD_eq_getElem?_getD, List.getElem?_eq_getElem (by omega), Int.toNat_of_nonneg hzj.1]
    rfl
end Go.Proofs.Ytnnpfehfoaojfaa
