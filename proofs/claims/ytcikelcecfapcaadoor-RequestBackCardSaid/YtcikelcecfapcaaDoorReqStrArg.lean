/-
  What a statement's arguments are in memory: slices of strings, slices of those.
-/
import Derived.Test.YtcikelcecfapcaaDoorRespArgs
import Derived.Test.YtcikelcecfapcaaDoorReqSame
namespace Go.Proofs.YtcikelcecfapcaaDoor
open Go.RowKit Go.ChangeShapes Go.WideShapes Go.Deep Rp Rq

/-- A row of words: one of none may stand anywhere. -/
def WIn (w : World) (p : Option Addr) (ws : List Wd) : Prop := ws = [] ∨ ∃ g o, p = some ⟨g, o, none⟩ ∧ WAt w g o ws
theorem WIn.below {w w' : World} {p : Option Addr} {ws : List Wd} (H : WIn w p ws) (hb : Below w.heap.size w w') : WIn w' p ws := by
  rcases H with h | ⟨g, o, h1, h2⟩
  · exact .inl h
  · exact .inr ⟨g, o, h1, h2.below hb⟩
/-- A row of commands. -/
def CsIn (w : World) (p : Option Addr) (xs : List (List Wd)) : Prop := ∀ (j : Nat) (h : j < xs.length), ∃ g o q d, p = some ⟨g, o, none⟩ ∧ w.cell? ⟨g, o + j, none⟩ = some (.slice q xs[j].length d) ∧ WIn w q xs[j]

theorem words_of {H : Type} {enc : TypeId × Value → H} {W : World} {fuel : Nat} {v : Value} {x : DataW H × List MemPlace}
    (hf : DataW.trod enc Tryd.prog W 0 (fun _ => true) true fuel 50 [v] = some x) :
    ∃ (l : List Wd) (p : Option Addr) (c : Nat), v = .slice p l.length c ∧ WIn W p l ∧ l.length ≤ maxLen ∧ ∀ s ∈ l, s.length ≤ maxLen := by
  rcases open_slice1 Tryd.underlying50 cells_str hf with ⟨hcs, _⟩ | ⟨a, len', cap', m, n, V, D, Pl, hcs, _, hl, hmx, hm, _, hx⟩
  · obtain rfl : v = .slice none 0 0 := by simpa using hcs
    exact ⟨[], none, 0, rfl, .inl rfl, Nat.zero_le _, fun s hs => by simp at hs⟩
  · obtain rfl : v = .slice (some a) len' cap' := by simpa using hcs
    simp only [if_true] at hm
    have hex : ∀ i, i < len' → ∃ s : List UInt8, W.cell? (a.add i) = some (.string (bs s)) ∧ s.length ≤ maxLen := by
      intro i hi
      obtain ⟨h1, h2⟩ := hx i (by omega)
      obtain ⟨s, e1, _, w1⟩ := DataW.trod_string Tryd.underlying9 h2
      simp at e1
      exact ⟨s.data.toList, by rw [bs_list, ← e1]; exact h1, by simpa using w1⟩
    obtain ⟨l, hll, hlp⟩ := list_of len' hex
    subst hll
    refine ⟨l, some a, cap', rfl, ?_, by omega, fun s hs => ?_⟩
    · by_cases hz : l.length = 0
      · exact .inl (List.eq_nil_of_length_eq_zero hz)
      · right
        obtain ⟨b, o, sp⟩ := a
        have h0 := (hlp 0 (by omega)).1
        obtain rfl : sp = none := by simpa [Addr.add] using World.cell?_spot h0
        refine ⟨b, o, rfl, fun j hj => ?_⟩
        have := (hlp j hj).1
        rw [add_plain] at this
        exact this
    · obtain ⟨i, hi, rfl⟩ := List.mem_iff_getElem.1 hs
      exact (hlp i hi).2

set_option maxRecDepth 20000 in
theorem open_words {H : Type} {enc : TypeId × Value → H} {W : World} {r : Reach} {base : Nat} {v : Value} {d : DataW H} {ps : List MemPlace}
    (hv : Value.okWide Tryd.prog W r base 50 v) (h : DataW.Trod enc Tryd.prog W 0 (fun _ => true) true 50 v d ps) :
    ∃ (l : List Wd) (p : Option Addr) (c : Nat), v = .slice p l.length c ∧ WIn W p l ∧ l.length ≤ maxLen ∧ ∀ s ∈ l, s.length ≤ maxLen := by
  obtain ⟨a0, len, cap, rfl⟩ := okWide_slice Tryd.underlying50 hv
  obtain ⟨fuel, hf⟩ := h
  exact words_of (by simpa [Value.cells] using hf)

set_option maxRecDepth 20000 in
theorem open_cmds {H : Type} {enc : TypeId × Value → H} {W : World} {r : Reach} {base : Nat} {v : Value} {d : DataW H} {ps : List MemPlace}
    (hv : Value.okWide Tryd.prog W r base 41 v) (h : DataW.Trod enc Tryd.prog W 0 (fun _ => true) true 41 v d ps) :
    ∃ (l : List (List Wd)) (p : Option Addr) (c : Nat), v = .slice p l.length c ∧ CsIn W p l ∧ l.length ≤ maxLen ∧ ∀ s ∈ l, s.length ≤ maxLen ∧ ∀ x ∈ s, x.length ≤ maxLen := by
  obtain ⟨a0, len, cap, rfl⟩ := okWide_slice Tryd.underlying41 hv
  obtain ⟨fuel, hf⟩ := h
  rcases open_slice1 Tryd.underlying41 (show Tryd.prog.cellsOf 50 = 1 by kernel_rfl) hf with ⟨hcs, _⟩ | ⟨a, len', cap', m, n, V, D, Pl, hcs, _, hl, hmx, hm, _, hx⟩
  · simp [Value.cells] at hcs
    obtain ⟨rfl, rfl, rfl⟩ := hcs
    exact ⟨[], none, 0, rfl, fun j hj => by simp at hj, Nat.zero_le _, fun s hs => by simp at hs⟩
  · simp [Value.cells] at hcs
    obtain ⟨rfl, rfl, rfl⟩ := hcs
    simp only [if_true] at hm
    have hex : ∀ i, i < len → ∃ ws : List Wd, (∃ q d, W.cell? (a.add i) = some (.slice q ws.length d) ∧ WIn W q ws) ∧ ws.length ≤ maxLen ∧ ∀ s ∈ ws, s.length ≤ maxLen := by
      intro i hi
      obtain ⟨h1, h2⟩ := hx i (by omega)
      obtain ⟨ws, q, d, hv2, h3, h4, h5⟩ := words_of h2
      exact ⟨ws, ⟨q, d, by rw [← hv2]; exact h1, h3⟩, h4, h5⟩
    obtain ⟨l, hll, hlp⟩ := list_of len hex
    subst hll
    refine ⟨l, some a, cap, rfl, ?_, by omega, fun s hs => ?_⟩
    · intro j hj
      obtain ⟨⟨q, d, h1, h2⟩, _⟩ := hlp j hj
      obtain ⟨⟨q0, d0, h0, _⟩, _⟩ := hlp 0 (by omega)
      obtain ⟨b, o, sp⟩ := a
      obtain rfl : sp = none := by simpa [Addr.add] using World.cell?_spot h0
      rw [add_plain] at h1
      exact ⟨b, o, q, d, rfl, h1, h2⟩
    · obtain ⟨i, hi, rfl⟩ := List.mem_iff_getElem.1 hs
      exact (hlp i hi).2
end Go.Proofs.YtcikelcecfapcaaDoor
