/-
  What came in: slices of slices of bytes.
-/
import Derived.Test.YtgcifhhbhoafcaaLogArgs
namespace Go.Proofs.Ytgcifhhbhoafcaa
open Go.RowKit Go.ChangeShapes Go.WideShapes

theorem cells_sb : Try.prog.cellsOf 22 = 1 := by kernel_rfl
theorem list_of {α : Type} {p : Nat → α → Prop} : ∀ (n : Nat), (∀ i, i < n → ∃ x, p i x) → ∃ l : List α, l.length = n ∧ ∀ i (h : i < l.length), p i l[i]
  | 0, _ => ⟨[], rfl, fun i h => by simp at h⟩
  | n + 1, h => by
    obtain ⟨l, hl, hp⟩ := list_of n (fun i hi => h i (by omega))
    obtain ⟨x, hx⟩ := h n (by omega)
    refine ⟨l ++ [x], by simp [hl], fun i hi => ?_⟩
    by_cases hin : i < l.length
    · rw [List.getElem_append_left hin]; exact hp i hin
    · have : i = l.length := by simp at hi; omega
      subst this
      rw [List.getElem_append_right (Nat.le_refl _)]
      simp only [Nat.sub_self, List.getElem_cons_zero]
      rw [hl]; exact hx
section
variable {H : Type} {enc : TypeId × Value → H} {w : World}

set_option maxRecDepth 20000 in
theorem open_sb {fuel : Nat} {cs : List Value} {x : DataW H × List MemPlace} (h : DataW.trod enc Try.prog w 0 (fun _ => true) true fuel 22 cs = some x) :
    ∃ p c l, cs = [.slice p l.length c] ∧ InAt w p l ∧ l.length ≤ c ∧ c ≤ 9223372036854775807 := by
  rcases open_ints Try.underlying22 Try.underlying5 cells_u8 h with ⟨hcs, hx⟩ | ⟨a, len, cap, zs, hcs, _, hl, hm, hz, hx, hcell, hw⟩
  · exact ⟨none, 0, [], hcs, fun hj => by simp at hj, Nat.le_refl _, by decide⟩
  · simp only [if_true] at hz
    have hlz : len ≤ zs.length := by omega
    have hll : ((zs.take len).map (fun z => UInt8.ofNat z.toNat)).length = len := by rw [List.length_map, List.length_take, Nat.min_eq_left hlz]
    refine ⟨some a, cap, (zs.take len).map (fun z => UInt8.ofNat z.toNat), by rw [hll]; exact hcs, fun h0 => ?_, by rw [hll]; exact hl, by unfold maxLen at hm; omega⟩
    rw [hll] at h0
    obtain ⟨b, o, s⟩ := a
    obtain rfl : s = none := by simpa [Addr.add] using World.cell?_spot (hcell 0 (by omega))
    refine ⟨b, o, rfl, fun j u hu => ?_⟩
    have hj : j < len := by
      have := (List.getElem?_eq_some_iff.1 hu).1
      rwa [bCells_len, hll] at this
    have h1 := hcell j (by omega)
    rw [add_plain] at h1
    have hzj := u8_bounds (hw (zs[j]'(by omega)) (List.getElem_mem _))
    have e : (UInt8.ofNat (zs[j]'(by omega)).toNat).toNat = (zs[j]'(by omega)).toNat := UInt8.toNat_ofNat_of_lt' (by show (zs[j]'(by omega)).toNat < 256; omega)
    have hu2 : (bCells ((zs.take len).map (fun z => UInt8.ofNat z.toNat)))[j]? = some (.int .u8 (zs[j]'(by omega))) := by
      unfold bCells
      rw [List.getElem?_map, List.getElem?_map, List.getElem?_take_of_lt hj, List.getElem?_eq_getElem (by omega)]
      simp only [Option.map_some, Option.some.injEq, Value.int.injEq, true_and]
      rw [e, Int.toNat_of_nonneg hzj.1]
    rw [hu2] at hu
    rw [h1, ← hu, List.getD_eq_getElem?_getD, List.getElem?_eq_getElem (by omega)]
    rfl
end
/-- A slice of bytes that came in. -/
structure BArg where
  p : Option Addr
  c : Nat
  l : List UInt8
def BIn (w : World) (a : BArg) : Prop := InAt w a.p a.l ∧ a.l.length ≤ a.c ∧ a.c ≤ 9223372036854775807
def BRows (w : World) (p : Option Addr) (al : List BArg) : Prop := ∀ (j : Nat) (h : j < al.length), BIn w al[j] ∧ ∃ b o, p = some ⟨b, o, none⟩ ∧ w.cell? ⟨b, o + j, none⟩ = some (.slice (al[j]).p (al[j]).l.length (al[j]).c)
set_option maxRecDepth 20000 in
theorem open_brows {H : Type} {enc : TypeId × Value → H} {W : World} {r : Reach} {base : Nat} {v : Value} {d : DataW H} {ps : List MemPlace}
    (hv : Value.okWide Try.prog W r base 66 v) (h : DataW.Trod enc Try.prog W 0 (fun _ => true) true 66 v d ps) :
    ∃ p c al, v = .slice p al.length c ∧ BRows W p al := by
  obtain ⟨a0, len0, cap0, rfl⟩ := okWide_slice Try.underlying66 hv
  obtain ⟨fuel, hf⟩ := h
  rcases DataW.trod_slice Try.underlying66 hf with ⟨hcs, _⟩ | ⟨a, len, cap, elems, rest, m, hm, hcs, _, hb, hl, hc, hlen, hel, _, _⟩
  · simp [Value.cells] at hcs
    obtain ⟨rfl, rfl, rfl⟩ := hcs
    exact ⟨none, 0, [], rfl, fun j hj => by simp at hj⟩
  · simp [Value.cells] at hcs
    obtain ⟨rfl, rfl, rfl⟩ := hcs
    have hex : ∀ i, i < len0 → ∃ x : BArg, BIn W x ∧ W.cell? ((a.add (i * 1)).add 0) = some (.slice x.p x.l.length x.c) := by
      intro i hi
      have h1 := hel i hi
      rw [cells_sb, List.getElem?_eq_getElem (by omega)] at h1
      obtain ⟨cs', h2, h3⟩ := Option.bind_eq_some_iff.1 h1
      obtain ⟨p, c, l, rfl, hx1, hx2, hx3⟩ := open_sb h3
      obtain ⟨_, _, hat⟩ := World.cells?_some h2
      exact ⟨⟨p, c, l⟩, ⟨hx1, hx2, hx3⟩, hat 0 (by omega)⟩
    obtain ⟨l, hll, hlp⟩ := list_of len0 hex
    subst hll
    refine ⟨some a, cap0, l, rfl, fun j hj => ?_⟩
    obtain ⟨h1, h2⟩ := hlp j hj
    obtain ⟨b, o, s⟩ := a
    obtain rfl : s = none := by
      have h5 := (hlp 0 (by omega)).2
      simpa [Addr.add] using World.cell?_spot h5
    refine ⟨h1, b, o, rfl, ?_⟩
    rw [add_plain, add_plain, Nat.mul_one, Nat.add_zero] at h2
    exact h2
end Go.Proofs.Ytgcifhhbhoafcaa
