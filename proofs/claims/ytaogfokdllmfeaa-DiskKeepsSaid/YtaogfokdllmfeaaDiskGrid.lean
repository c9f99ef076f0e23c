/-
  What the laws' arguments are in memory: slices of bytes, slices of slices of ints.
-/
import Derived.Test.YtaogfokdllmfeaaDiskKeeps
import Derived.Test.YtaogfokdllmfeaaDiskArgs
import Derived.Deep.Matrix
namespace Go.Proofs.Ytaogfokdllmfeaa
open Go.RowKit Go.ChangeShapes Go.WideShapes Go.Deep

theorem cells_u8 : Try.prog.cellsOf 5 = 1 := by kernel_rfl
theorem cells_row : Try.prog.cellsOf 33 = 1 := by kernel_rfl
theorem u8_bounds {z : Int} (h : (Lit.int .u8 z).wf = true) : 0 ≤ z ∧ z < 256 := by
  have e1 : IntKind.u8.min = 0 := rfl
  have e2 : IntKind.u8.max = 255 := rfl
  have : 0 ≤ z ∧ z ≤ 255 := by simpa [Lit.wf, e1, e2] using h
  omega
theorem open_sbytes {H : Type} {enc : TypeId × Value → H} {W : World} {r : Reach} {base : Nat} {v : Value} {d : DataW H} {ps : List MemPlace}
    (hv : Value.okWide Try.prog W r base 22 v) (h : DataW.Trod enc Try.prog W 0 (fun _ => true) true 22 v d ps) :
    ∃ p c l, v = .slice p l.length c ∧ BytesAt W p l := by
  obtain ⟨a0, len, cap, rfl⟩ := okWide_slice Try.underlying22 hv
  obtain ⟨fuel, hf⟩ := h
  rcases open_ints Try.underlying22 Try.underlying5 cells_u8 hf with ⟨hcs, hx⟩ | ⟨a, len', cap', zs, hcs, _, hl, hm, hz, hx, hcell, hw⟩
  · simp [Value.cells] at hcs
    obtain ⟨rfl, rfl, rfl⟩ := hcs
    exact ⟨none, 0, [], rfl, fun j hj => by simp at hj⟩
  · simp [Value.cells] at hcs
    obtain ⟨rfl, rfl, rfl⟩ := hcs
    simp only [if_true] at hz
    have hlz : len ≤ zs.length := by omega
    refine ⟨some a, cap, (zs.take len).map (fun z => UInt8.ofNat z.toNat), by rw [List.length_map, List.length_take, Nat.min_eq_left hlz], fun j hj => ?_⟩
    rw [List.length_map, List.length_take] at hj
    obtain ⟨b, o, s⟩ := a
    obtain rfl : s = none := by simpa [Addr.add] using World.cell?_spot (hcell 0 (by omega))
    refine ⟨b, o, rfl, ?_⟩
    have h1 := hcell j (by omega)
    rw [add_plain] at h1
    have hzj := u8_bounds (hw (zs[j]'(by omega)) (List.getElem_mem _))
    rw [h1, List.getElem_map, List.getElem_take, List.getD_eq_getElem?_getD, List.getElem?_eq_getElem (by omega)]
    have e : (UInt8.ofNat (zs[j]'(by omega)).toNat).toNat = (zs[j]'(by omega)).toNat := UInt8.toNat_ofNat_of_lt' (by show (zs[j]'(by omega)).toNat < 256; omega)
    rw [e, Int.toNat_of_nonneg hzj.1]
    rfl
theorem open_grid {H : Type} {enc : TypeId × Value → H} {W : World} {r : Reach} {base : Nat} {v : Value} {d : DataW H} {ps : List MemPlace}
    (hv : Value.okWide Try.prog W r base 23 v) (h : DataW.Trod enc Try.prog W 0 (fun _ => true) true 23 v d ps) :
    ∃ P N C ps kss cs, v = .slice P N C ∧ GridAt W P N ps kss cs := by
  obtain ⟨a0, len, cap, rfl⟩ := okWide_slice Try.underlying23 hv
  obtain ⟨fuel, hf⟩ := h
  rcases open_int_rows Try.underlying23 Try.underlying33 Try.underlying3 cells_row cells_int hf with ⟨hcs, hx⟩ | ⟨a, len', cap', A, L, Cc, Z, hcs, _, hl, hm, hx, hrow⟩
  · simp [Value.cells] at hcs
    obtain ⟨rfl, rfl, rfl⟩ := hcs
    exact ⟨none, 0, 0, fun _ => none, fun _ => [], fun _ => 0, rfl, fun j hj => absurd hj (Nat.not_lt_zero j)⟩
  · simp [Value.cells] at hcs
    obtain ⟨rfl, rfl, rfl⟩ := hcs
    refine ⟨some a, len, cap, A, fun j => (Z j).take (L j), Cc, rfl, fun j hj => ?_⟩
    obtain ⟨b, o, s⟩ := a
    obtain rfl : s = none := by simpa [Addr.add] using World.cell?_spot (hrow 0 (by omega)).1
    obtain ⟨hc, hle, _, hz, hw, hn, ha⟩ := hrow j (by omega)
    rw [add_plain] at hc
    have hlz : L j ≤ (Z j).length := by omega
    refine ⟨b, o, rfl, by rw [hc, List.length_take, Nat.min_eq_left hlz], ?_⟩
    cases hA : A j with
    | none =>
      have h0 := hn hA
      have hL : L j = 0 := by omega
      show IntsAt W none ((Z j).take (L j))
      rw [hL]
      exact fun i hi => by simp at hi
    | some ad => exact ints_at hlz (fun i hi => (ha ad hA).2 i (by omega))
end Go.Proofs.Ytaogfokdllmfeaa
