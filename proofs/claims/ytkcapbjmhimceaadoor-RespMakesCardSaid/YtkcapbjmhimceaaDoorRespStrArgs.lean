/-
  What a statement's arguments are in memory: slices of strings.
-/
import Derived.Test.YtkcapbjmhimceaaDoorRespArgs
import Derived.Test.YtkcapbjmhimceaaDoorRespStrs
namespace Go.Proofs.YtkcapbjmhimceaaDoor
open Go.RowKit Go.ChangeShapes Go.WideShapes Go.Deep Rp

set_option maxRecDepth 20000 in
theorem open_strings {H : Type} {enc : TypeId × Value → H} {W : World} {r : Reach} {base : Nat} {v : Value} {d : DataW H} {ps : List MemPlace}
    (hv : Value.okWide Tryd.prog W r base 39 v) (h : DataW.Trod enc Tryd.prog W 0 (fun _ => true) true 39 v d ps) :
    ∃ (l : List (List UInt8)) (p : Option Addr) (c : Nat), v = .slice p l.length c ∧ StrsAt W l p ∧ ∀ s ∈ l, s.length ≤ maxLen := by
  obtain ⟨a0, len, cap, rfl⟩ := okWide_slice Tryd.underlying39 hv
  obtain ⟨fuel, hf⟩ := h
  rcases open_slice1 Tryd.underlying39 cells_str hf with ⟨hcs, _⟩ | ⟨a, len', cap', m, n, V, D, Pl, hcs, _, hl, _, hm, _, hx⟩
  · simp [Value.cells] at hcs
    obtain ⟨rfl, rfl, rfl⟩ := hcs
    exact ⟨[], none, 0, rfl, fun j hj => by simp at hj, fun s hs => by simp at hs⟩
  · simp [Value.cells] at hcs
    obtain ⟨rfl, rfl, rfl⟩ := hcs
    simp only [if_true] at hm
    have hex : ∀ i, i < len → ∃ s : List UInt8, W.cell? (a.add i) = some (.string (bs s)) ∧ s.length ≤ maxLen := by
      intro i hi
      obtain ⟨h1, h2⟩ := hx i (by omega)
      obtain ⟨s, e1, _, w1⟩ := DataW.trod_string Tryd.underlying9 h2
      simp at e1
      exact ⟨s.data.toList, by rw [bs_list, ← e1]; exact h1, by simpa using w1⟩
    obtain ⟨l, hll, hlp⟩ := list_of len hex
    subst hll
    refine ⟨l, some a, cap, rfl, ?_, fun s hs => ?_⟩
    · intro j hj
      have h0 := (hlp j hj).1
      obtain ⟨b, o, sp⟩ := a
      have hz := (hlp 0 (by omega)).1
      obtain rfl : sp = none := by simpa [Addr.add] using World.cell?_spot hz
      rw [add_plain] at h0
      exact ⟨b, o, rfl, h0⟩
    · obtain ⟨i, hi, rfl⟩ := List.mem_iff_getElem.1 hs
      exact (hlp i hi).2
end Go.Proofs.YtkcapbjmhimceaaDoor
