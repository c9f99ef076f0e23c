/-
  An argument that is a slice of slices of bytes.
-/
import Derived.Test.YtehdbnjkgdfgbaaCrcArgs
import Derived.Test.YtehdbnjkgdfgbaaCrcSumsWalk
namespace Go.Proofs.Ytehdbnjkgdfgbaa
open Go.RowKit Go.ChangeShapes Go.WideShapes Go.Deep

theorem cells_row : Try.prog.cellsOf 24 = 1 := by kernel_rfl

theorem open_rows {H : Type} {enc : TypeId × Value → H} {W : World} {r : Reach} {base : Nat} {v : Value} {d : DataW H} {ps : List MemPlace}
    (hv : Value.okWide Try.prog W r base 22 v) (h : DataW.Trod enc Try.prog W 0 (fun _ => true) true 22 v d ps) :
    ∃ P N C ps ls cs, v = .slice P N C ∧ RowsIn W P N C ps ls cs := by
  obtain ⟨a0, len, cap, rfl⟩ := okWide_slice Try.underlying22 hv
  obtain ⟨fuel, hf⟩ := h
  rcases open_int_rows Try.underlying22 Try.underlying24 Try.underlying5 cells_row cells_u8 hf with ⟨hcs, hx⟩ | ⟨a, len', cap', A, L, Cc, Z, hcs, _, hl, hm, hx, hrow⟩
  · simp [Value.cells] at hcs
    obtain ⟨rfl, rfl, rfl⟩ := hcs
    exact ⟨none, 0, 0, fun _ => none, fun _ => [], fun _ => 0, rfl, ⟨fun h => absurd h (Nat.lt_irrefl 0), fun j hj => absurd hj (Nat.not_lt_zero j), fun j hj => absurd hj (Nat.not_lt_zero j)⟩⟩
  · simp [Value.cells] at hcs
    obtain ⟨rfl, rfl, rfl⟩ := hcs
    refine ⟨some a, len, cap, A, fun j => ((Z j).map Int.toNat).take (L j), Cc, rfl, ?_, ?_, ?_⟩
    · intro h0
      obtain ⟨b, o, s⟩ := a
      obtain rfl : s = none := by simpa [Addr.add] using World.cell?_spot (hrow 0 (by omega)).1
      refine ⟨b, o, rfl, fun j hj => ?_⟩
      obtain ⟨hc, hle, _, hz, _⟩ := hrow j (by omega)
      rw [add_plain] at hc
      rw [hc, take_len (by omega)]
    · intro j hj
      obtain ⟨hc, hle, _, hz, hw, hn, ha⟩ := hrow j (by omega)
      cases hA : A j with
      | none =>
        have h0 := hn hA
        have hL : L j = 0 := by omega
        rw [hL, h0]
        exact ⟨fun _ => ⟨rfl, rfl⟩, fun h => absurd h (by simp)⟩
      | some ad => exact bytes_in (by omega) (fun i hi => (ha ad hA).2 i (by omega)) hw
    · intro j hj
      obtain ⟨hc, hle, _, hz, hw, _⟩ := hrow j (by omega)
      exact take_octets (octets_of hw) _
end Go.Proofs.Ytehdbnjkgdfgbaa
