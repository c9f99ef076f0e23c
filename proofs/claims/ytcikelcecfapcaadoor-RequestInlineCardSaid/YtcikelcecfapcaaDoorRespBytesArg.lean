/-
  What a statement's argument is in memory: a slice of bytes.
-/
import Derived.Test.YtcikelcecfapcaaDoorRespArgs
import Derived.Test.YtcikelcecfapcaaDoorRespJoin
namespace Go.Proofs.YtcikelcecfapcaaDoor
open Go.RowKit Go.ChangeShapes Go.WideShapes Rp

theorem cells_u8 : Tryd.prog.cellsOf 5 = 1 := by kernel_rfl
theorem u8_bounds {z : Int} (h : (Lit.int .u8 z).wf = true) : 0 ≤ z ∧ z < 256 := by
  have e1 : IntKind.u8.min = 0 := rfl
  have e2 : IntKind.u8.max = 255 := rfl
  have : 0 ≤ z ∧ z ≤ 255 := by simpa [Lit.wf, e1, e2] using h
  omega

set_option maxRecDepth 20000 in
theorem open_bytes {H : Type} {enc : TypeId × Value → H} {W : World} {r : Reach} {base : Nat} {v : Value} {d : DataW H} {ps : List MemPlace}
    (hv : Value.okWide Tryd.prog W r base 22 v) (h : DataW.Trod enc Tryd.prog W 0 (fun _ => true) true 22 v d ps) :
    ∃ p c l, v = .slice p l.length c ∧ l.length ≤ c ∧ Tail W p c l := by
  obtain ⟨a0, len, cap, rfl⟩ := okWide_slice Tryd.underlying22 hv
  obtain ⟨fuel, hf⟩ := h
  rcases open_ints Tryd.underlying22 Tryd.underlying5 cells_u8 hf with ⟨hcs, hx⟩ | ⟨a, len', cap', zs, hcs, _, hl, hm, hz, hx, hcell, hw⟩
  · simp [Value.cells] at hcs
    obtain ⟨rfl, rfl, rfl⟩ := hcs
    exact ⟨none, 0, [], rfl, Nat.le_refl _, .inl (.inl ⟨rfl, rfl, rfl⟩)⟩
  · simp [Value.cells] at hcs
    obtain ⟨rfl, rfl, rfl⟩ := hcs
    simp only [if_true] at hz
    have hlz : len ≤ zs.length := by omega
    have hlen : ((zs.map fun z => UInt8.ofNat z.toNat).take len).length = len := by simp; omega
    refine ⟨some a, cap, (zs.map fun z => UInt8.ofNat z.toNat).take len, by rw [hlen], by rw [hlen]; exact hl, ?_⟩
    obtain ⟨b, o, s⟩ := a
    by_cases h0 : len = 0
    · subst h0
      exact .inr ⟨by simp, _, rfl⟩
    obtain rfl : s = none := by simpa [Addr.add] using World.cell?_spot (hcell 0 (by omega))
    refine .inl (.inr ⟨b, o, rfl, by rw [hlen]; exact hl, hm, fun j hj => ?_⟩)
    rw [hlen] at hj
    have := hcell j (by omega)
    rw [add_plain] at this
    rw [this, List.getElem_take, List.getElem_map]
    have hb := u8_bounds (hw _ (List.getElem_mem (show j < zs.length by omega)))
    rw [List.getD_eq_getElem?_getD, List.getElem?_eq_getElem (by omega), Option.getD_some]
    congr 2
    rw [UInt8.toNat_ofNat', Nat.mod_eq_of_lt (by omega)]
    omega
end Go.Proofs.YtcikelcecfapcaaDoor
