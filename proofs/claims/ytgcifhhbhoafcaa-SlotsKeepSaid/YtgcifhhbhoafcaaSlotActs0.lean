/-
  What came in: acts.
-/
import Derived.Test.YtgcifhhbhoafcaaSlotArgs
namespace Go.Proofs.Ytgcifhhbhoafcaa
open Go.RowKit Go.ChangeShapes Go.WideShapes

/-- An act that came in. -/
structure AArg where
  kind : Int
  n : Int
  stamp : Int
  bp : Option Addr
  bc : Nat
  body : List UInt8
  kp : Option Addr
  kc : Nat
  ks : List Int
def aCell (a : AArg) : List Value := [.int .i64 a.kind, .int .i64 a.n, .int .i64 a.stamp, .slice a.bp a.body.length a.bc, .slice a.kp a.ks.length a.kc]
def ActIn (w : World) (a : AArg) : Prop := InAt w a.bp a.body ∧ a.body.length ≤ a.bc ∧ a.bc ≤ 9223372036854775807 ∧ IntsAt w a.kp a.ks
def ActsAt (w : World) (p : Option Addr) (al : List AArg) : Prop := ∀ (j : Nat) (h : j < al.length), ActIn w al[j] ∧ ∃ b o, p = some ⟨b, o, none⟩ ∧ ∀ i, i < 5 → w.cell? ⟨b, o + j * 5 + i, none⟩ = (aCell al[j])[i]?

theorem cells_act8 : Try.prog.cellsOf 61 = 5 := by kernel_rfl
theorem cells_ent2 : Try.prog.cellsOf 48 = 2 := by kernel_rfl
theorem cells_si : Try.prog.cellsOf 59 = 1 := by kernel_rfl
section
variable {H : Type} {enc : TypeId × Value → H} {w : World}
set_option maxRecDepth 20000 in
theorem open_si {fuel : Nat} {cs : List Value} {x : DataW H × List MemPlace} (h : DataW.trod enc Try.prog w 0 (fun _ => true) true fuel 59 cs = some x) :
    ∃ p c ks, cs = [.slice p ks.length c] ∧ IntsAt w p ks := by
  rcases open_ints Try.underlying59 Try.underlying3 cells_int h with ⟨hcs, hx⟩ | ⟨a, len, cap, zs, hcs, _, hl, hm, hz, hx, hcell, hw⟩
  · exact ⟨none, 0, [], hcs, fun j hj => by simp at hj⟩
  · simp only [if_true] at hz
    have hlz : len ≤ zs.length := by omega
    exact ⟨some a, cap, zs.take len, by rw [List.length_take, Nat.min_eq_left hlz]; exact hcs, ints_at hlz hcell⟩
set_option maxRecDepth 20000 in
theorem open_entry {fuel : Nat} {cs : List Value} {x : DataW H × List MemPlace} (h : DataW.trod enc Try.prog w 0 (fun _ => true) true fuel 48 cs = some x) : ∃ (s : Int) (p : Option Addr) (c : Nat) (l : List UInt8), cs = [.int .i64 s, .slice p l.length c] ∧ InAt w p l ∧ l.length ≤ c ∧ c ≤ 9223372036854775807 := by
  obtain ⟨xs, n, rfl, _, hlen, hxl, hf⟩ := DataW.trod_struct Try.underlying48 h
  rw [cells_ent2] at hlen
  match cs, hlen with
  | [c0, c1], _ =>
    have hxl2 : xs.length = 2 := hxl
    match xs, hxl2 with
    | [y0, y1], _ =>
      have g0 : DataW.trod enc Try.prog w 0 (fun _ => true) true n 3 [c0] = some y0 := by simpa [cells_int] using hf 0 _ rfl
      have g1 : DataW.trod enc Try.prog w 0 (fun _ => true) true n 22 [c1] = some y1 := by simpa [cells_int, cells_sb] using hf 1 _ rfl
      obtain ⟨s, e0, _, w0⟩ := DataW.trod_int Try.underlying3 g0
      obtain ⟨bp, bc, l, e1, hb1, hb2, hb3⟩ := open_sb g1
      simp at e0 e1
      subst e0 e1
      exact ⟨s, bp, bc, l, rfl, hb1, hb2, hb3⟩
set_option maxRecDepth 20000 in
theorem open_act {fuel : Nat} {cs : List Value} {x : DataW H × List MemPlace} (h : DataW.trod enc Try.prog w 0 (fun _ => true) true fuel 61 cs = some x) : ∃ a, cs = aCell a ∧ ActIn w a := by
  obtain ⟨xs, n, rfl, _, hlen, hxl, hf⟩ := DataW.trod_struct Try.underlying61 h
  rw [cells_act8] at hlen
  match cs, hlen with
  | [c0, c1, c2, c3, c4], _ =>
    have hxl4 : xs.length = 4 := hxl
    match xs, hxl4 with
    | [y0, y1, y2, y3], _ =>
      have g0 : DataW.trod enc Try.prog w 0 (fun _ => true) true n 3 [c0] = some y0 := by simpa [cells_int] using hf 0 _ rfl
      have g1 : DataW.trod enc Try.prog w 0 (fun _ => true) true n 3 [c1] = some y1 := by simpa [cells_int] using hf 1 _ rfl
      have g2 : DataW.trod enc Try.prog w 0 (fun _ => true) true n 48 [c2, c3] = some y2 := by simpa [cells_int, cells_ent2] using hf 2 _ rfl
      have g3 : DataW.trod enc Try.prog w 0 (fun _ => true) true n 59 [c4] = some y3 := by simpa [cells_int, cells_ent2, cells_si] using hf 3 _ rfl
      obtain ⟨k, e0, _, w0⟩ := DataW.trod_int Try.underlying3 g0
      obtain ⟨s, e1, _, w1⟩ := DataW.trod_int Try.underlying3 g1
      obtain ⟨st, bp, bc, l, e2, hb1, hb2, hb3⟩ := open_entry g2
      obtain ⟨kp, kc, ks, e3, hk⟩ := open_si g3
      simp at e0 e1 e2 e3
      obtain ⟨e2, e4⟩ := e2
      subst e0 e1 e2 e3 e4
      exact ⟨⟨k, s, st, bp, bc, l, kp, kc, ks⟩, rfl, hb1, hb2, hb3, hk⟩
end
set_option maxRecDepth 20000 in
theorem open_acts8 {H : Type} {enc : TypeId × Value → H} {W : World} {r : Reach} {base : Nat} {v : Value} {d : DataW H} {ps : List MemPlace}
    (hv : Value.okWide Try.prog W r base 58 v) (h : DataW.Trod enc Try.prog W 0 (fun _ => true) true 58 v d ps) :
    ∃ p c al, v = .slice p al.length c ∧ ActsAt W p al := by
  obtain ⟨a0, len0, cap0, rfl⟩ := okWide_slice Try.underlying58 hv
  obtain ⟨fuel, hf⟩ := h
  rcases DataW.trod_slice Try.underlying58 hf with ⟨hcs, _⟩ | ⟨a, len, cap, elems, rest, m, hm, hcs, _, hb, hl, hc, hlen, hel, _, _⟩
  · simp [Value.cells] at hcs
    obtain ⟨rfl, rfl, rfl⟩ := hcs
    exact ⟨none, 0, [], rfl, fun j hj => by simp at hj⟩
  · simp [Value.cells] at hcs
    obtain ⟨rfl, rfl, rfl⟩ := hcs
    have hex : ∀ i, i < len0 → ∃ x : AArg, ActIn W x ∧ ∀ j, j < 5 → W.cell? ((a.add (i * 5)).add j) = (aCell x)[j]? := by
      intro i hi
      have h1 := hel i hi
      rw [cells_act8, List.getElem?_eq_getElem (by omega)] at h1
      obtain ⟨cs', h2, h3⟩ := Option.bind_eq_some_iff.1 h1
      obtain ⟨x, rfl, hx⟩ := open_act h3
      obtain ⟨_, _, hat⟩ := World.cells?_some h2
      exact ⟨x, hx, hat⟩
    obtain ⟨l, hll, hlp⟩ := list_of len0 hex
    subst hll
    refine ⟨some a, cap0, l, rfl, fun j hj => ?_⟩
    obtain ⟨h1, h2⟩ := hlp j hj
    obtain ⟨b, o, s⟩ := a
    obtain rfl : s = none := by
      have h5 : W.cell? (((⟨b, o, s⟩ : Addr).add (0 * 5)).add 0) = some (.int .i64 (l[0]'(by omega)).kind) := (hlp 0 (by omega)).2 0 (by omega)
      simpa [Addr.add] using World.cell?_spot h5
    refine ⟨h1, b, o, rfl, fun i hi => ?_⟩
    have := h2 i hi
    rwa [add_plain, add_plain] at this
end Go.Proofs.Ytgcifhhbhoafcaa
