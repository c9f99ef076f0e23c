/-
  What the laws' arguments are in memory: slices of bytes.
-/
import Derived.Test.YtgcifhhbhoafcaaLogHead
import Derived.Test.YtgcifhhbhoafcaaDiskArgs
namespace Go.Proofs.Ytgcifhhbhoafcaa
open Go.RowKit Go.ChangeShapes Go.WideShapes

theorem cells_u8 : Try.prog.cellsOf 5 = 1 := by kernel_rfl
theorem u8_bounds {z : Int} (h : (Lit.int .u8 z).wf = true) : 0 ≤ z ∧ z < 256 := by
  have e1 : IntKind.u8.min = 0 := rfl
  have e2 : IntKind.u8.max = 255 := rfl
  have : 0 ≤ z ∧ z ≤ 255 := by simpa [Lit.wf, e1, e2] using h
  omega
set_option maxRecDepth 20000 in
theorem open_sbytes {H : Type} {enc : TypeId × Value → H} {W : World} {r : Reach} {base : Nat} {v : Value} {d : DataW H} {ps : List MemPlace}
    (hv : Value.okWide Try.prog W r base 22 v) (h : DataW.Trod enc Try.prog W 0 (fun _ => true) true 22 v d ps) :
    ∃ p c l, v = .slice p l.length c ∧ (InAt W p l ∧ l.length ≤ c ∧ c ≤ 9223372036854775807) := by
  obtain ⟨a0, len, cap, rfl⟩ := okWide_slice Try.underlying22 hv
  obtain ⟨fuel, hf⟩ := h
  rcases open_ints Try.underlying22 Try.underlying5 cells_u8 hf with ⟨hcs, hx⟩ | ⟨a, len', cap', zs, hcs, _, hl, hm, hz, hx, hcell, hw⟩
  · simp [Value.cells] at hcs
    obtain ⟨rfl, rfl, rfl⟩ := hcs
    exact ⟨none, 0, [], rfl, fun hj => by simp at hj, Nat.le_refl _, by decide⟩
  · simp [Value.cells] at hcs
    obtain ⟨rfl, rfl, rfl⟩ := hcs
    simp only [if_true] at hz
    have hlz : len ≤ zs.length := by omega
    have hll : ((zs.take len).map (fun z => UInt8.ofNat z.toNat)).length = len := by rw [List.length_map, List.length_take, Nat.min_eq_left hlz]
    refine ⟨some a, cap, (zs.take len).map (fun z => UInt8.ofNat z.toNat), by rw [hll], fun h0 => ?_, by rw [hll]; exact hl, by unfold maxLen at hm; omega⟩
    rw [hll] at h0
    obtain ⟨b, o, s⟩ := a
    obtain rfl : s = none := by simpa [Addr.add] using World.cell?_spot (hcell 0 (by omega))
    refine ⟨b, o, rfl, fun j u hu => ?_⟩
    have hj : j < len := by
      have := (List.getElem?_eq_some_iff.1 hu).1
      rwa [bCells_len, hll] at this
    have h1 := hcell j (by omega)
    rw [add_plain] at h1
    have hzj := u8_bounds (hw (zs[j]'(by omega)) (List.getElem_mem _))
    have e : (UInt8.ofNat (zs[j]'(by omega)).toNat).toNat = (zs[j]'(by omega)).toNat := UInt8.toNat_ofNat_of_lt' (by show (zs[j]'(by omega)).toNat < 256; omega)
    have hu2 : (bCells ((zs.take len).map (fun z => UInt8.ofNat z.toNat)))[j]? = some (.int .u8 (zs[j]'(by omega))) := by
      unfold bCells
      rw [List.getElem?_map, List.getElem?_map, List.getElem?_take_of_lt hj, List.getElem?_eq_getElem (by omega)]
      simp only [Option.map_some, Option.some.injEq, Value.int.injEq, true_and]
      rw [e, Int.toNat_of_nonneg hzj.1]
    rw [hu2] at hu
    rw [h1, ← hu, List.getD_eq_getElem?_getD, List.getElem?_eq_getElem (by omega)]
    rfl
end Go.Proofs.Ytgcifhhbhoafcaa
