/-
  What a statement's arguments are in memory: slices of bytes, four bytes by value, slices of slices of bytes.
-/
import Derived.Test.YtehdbnjkgdfgbaaCrcBytes
import Derived.ProofKit
import Derived.OpenShut
import Derived.Carry
import Derived.Laws.IdiomArrays
import Derived.Deep.Matrix
namespace Go.Proofs.Ytehdbnjkgdfgbaa
open Go.RowKit Go.ChangeShapes Go.WideShapes

theorem laidOut : laidOutB Try.prog = true := by kernel_rfl
theorem cells_u8 : Try.prog.cellsOf 5 = 1 := by kernel_rfl

theorem u8_bounds {z : Int} (h : (Lit.int .u8 z).wf = true) : 0 ≤ z ∧ z < 256 := by
  have e1 : IntKind.u8.min = 0 := rfl
  have e2 : IntKind.u8.max = 255 := rfl
  have : 0 ≤ z ∧ z ≤ 255 := by simpa [Lit.wf, e1, e2] using h
  omega

theorem octets_of {zs : List Int} (hw : ∀ z ∈ zs, (Lit.int .u8 z).wf = true) : Crc.Octets (zs.map Int.toNat) := by
  intro x hx
  obtain ⟨z, hz, rfl⟩ := List.mem_map.1 hx
  have := u8_bounds (hw z hz)
  omega

theorem nat_at {zs : List Int} (hw : ∀ z ∈ zs, (Lit.int .u8 z).wf = true) (i : Nat) (hi : i < zs.length) : (((zs.map Int.toNat).getD i 0 : Nat) : Int) = zs.getD i 0 := by
  have h := u8_bounds (hw _ (List.getElem_mem hi))
  rw [List.getD_eq_getElem?_getD, List.getD_eq_getElem?_getD, List.getElem?_map, List.getElem?_eq_getElem hi]
  simp only [Option.map_some, Option.getD_some]
  omega

/-- A row of bytes at an address, of which the first len are a slice's. -/
theorem bytes_in {W : World} {a : Addr} {len cap : Nat} {zs : List Int} (hl : len ≤ zs.length) (hcell : ∀ i, i < zs.length → W.cell? (a.add i) = some (.int .u8 (zs.getD i 0))) (hw : ∀ z ∈ zs, (Lit.int .u8 z).wf = true) :
    BytesIn W (some a) cap ((zs.map Int.toNat).take len) := by
  refine ⟨fun h => (by cases h), fun h0 => ?_⟩
  have hz : 0 < zs.length := by simp at h0; omega
  obtain ⟨b, o, s⟩ := a
  obtain rfl : s = none := by simpa [Addr.add] using World.cell?_spot (hcell 0 hz)
  refine ⟨b, o, rfl, fun i hi => ?_⟩
  have hi' : i < len := by simp at hi; omega
  have := hcell i (by omega)
  rw [add_plain] at this
  have e : ((zs.map Int.toNat).take len).getD i 0 = (zs.map Int.toNat).getD i 0 := by
    rw [List.getD_eq_getElem?_getD, List.getElem?_take_of_lt hi', ← List.getD_eq_getElem?_getD]
  rw [this, e, nat_at hw i (by omega)]

theorem take_len {zs : List Int} {len : Nat} (h : len ≤ zs.length) : ((zs.map Int.toNat).take len).length = len := by simp; omega
theorem take_octets {l : List Nat} (h : Crc.Octets l) (k : Nat) : Crc.Octets (l.take k) := fun x hx => h x (List.mem_of_mem_take hx)

theorem open_bytes {H : Type} {enc : TypeId × Value → H} {W : World} {r : Reach} {base : Nat} {v : Value} {d : DataW H} {ps : List MemPlace}
    (hv : Value.okWide Try.prog W r base 24 v) (h : DataW.Trod enc Try.prog W 0 (fun _ => true) true 24 v d ps) :
    ∃ p c l, v = .slice p l.length c ∧ l.length ≤ c ∧ BytesIn W p c l ∧ Crc.Octets l := by
  obtain ⟨a0, len, cap, rfl⟩ := okWide_slice Try.underlying24 hv
  obtain ⟨fuel, hf⟩ := h
  rcases open_ints Try.underlying24 Try.underlying5 cells_u8 hf with ⟨hcs, hx⟩ | ⟨a, len', cap', zs, hcs, _, hl, hm, hz, hx, hcell, hw⟩
  · simp [Value.cells] at hcs
    obtain ⟨rfl, rfl, rfl⟩ := hcs
    exact ⟨none, 0, [], rfl, Nat.le_refl _, ⟨fun _ => ⟨rfl, rfl⟩, fun h => absurd h (by simp)⟩, fun x hx => by simp at hx⟩
  · simp [Value.cells] at hcs
    obtain ⟨rfl, rfl, rfl⟩ := hcs
    simp only [if_true] at hz
    have hlz : len ≤ zs.length := by omega
    refine ⟨some a, cap, (zs.map Int.toNat).take len, by rw [take_len hlz], by rw [take_len hlz]; exact hl, bytes_in hlz hcell hw, take_octets (octets_of hw) _⟩

theorem list4 {α : Type} (l : List α) (h : (⟨l⟩ : Array α).size = 4) : ∃ a b c d, l = [a, b, c, d] := by
  match l, h with
  | [a, b, c, d], _ => exact ⟨a, b, c, d, rfl⟩

theorem open_four {H : Type} {enc : TypeId × Value → H} {W : World} {r : Reach} {base : Nat} {v : Value} {d : DataW H} {ps : List MemPlace}
    (hv : Value.okWide Try.prog W r base 33 v) (h : DataW.Trod enc Try.prog W 0 (fun _ => true) true 33 v d ps) :
    ∃ x y z u : Nat, v = .agg #[.int .u8 x, .int .u8 y, .int .u8 z, .int .u8 u] ∧ Crc.Octets [x, y, z, u] := by
  obtain ⟨cs, rfl, hsz, _⟩ : ∃ cs, v = .agg cs ∧ cs.size = Try.prog.cellsOf 33 ∧ Row.okWide Try.prog W r base 33 cs := by
    simpa [Value.okWide, Try.underlying33] using hv
  rw [show Try.prog.cellsOf 33 = 4 from by kernel_rfl] at hsz
  obtain ⟨l⟩ := cs
  obtain ⟨c0, c1, c2, c3, rfl⟩ := list4 l hsz
  obtain ⟨fuel, hf⟩ := h
  obtain ⟨y0, y1, y2, y3, m, hx, hy0, hy1, hy2, hy3⟩ := trod_array4 Try.underlying33 cells_u8 hf
  obtain ⟨x0, e0, rfl, w0⟩ := DataW.trod_int Try.underlying5 hy0
  obtain ⟨x1, e1, rfl, w1⟩ := DataW.trod_int Try.underlying5 hy1
  obtain ⟨x2, e2, rfl, w2⟩ := DataW.trod_int Try.underlying5 hy2
  obtain ⟨x3, e3, rfl, w3⟩ := DataW.trod_int Try.underlying5 hy3
  simp at e0 e1 e2 e3
  subst e0 e1 e2 e3
  have b0 := u8_bounds w0; have b1 := u8_bounds w1; have b2 := u8_bounds w2; have b3 := u8_bounds w3
  refine ⟨x0.toNat, x1.toNat, x2.toNat, x3.toNat, ?_, ?_⟩
  · rw [Int.toNat_of_nonneg b0.1, Int.toNat_of_nonneg b1.1, Int.toNat_of_nonneg b2.1, Int.toNat_of_nonneg b3.1]
  · intro x hx
    simp only [List.mem_cons, List.not_mem_nil, or_false] at hx
    omega
end Go.Proofs.Ytehdbnjkgdfgbaa
