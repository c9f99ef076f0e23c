/-
  What acts are in memory.
-/
import Derived.Test.YtnnpfehfoaojfaaLogArgs
import Derived.Deep.Matrix
namespace Go.Proofs.Ytnnpfehfoaojfaa
open Go.RowKit Go.ChangeShapes Go.WideShapes

/-- An act that came in. -/
structure AArg where
  kind : Int
  stamp : Int
  bp : Option Addr
  bc : Nat
  body : List UInt8
  kp : Option Addr
  kc : Nat
  ks : List Int
def aCell (a : AArg) : List Value := [.int .i64 a.kind, .int .i64 a.stamp, .slice a.bp a.body.length a.bc, .slice a.kp a.ks.length a.kc]
def ActIn (w : World) (a : AArg) : Prop := InAt w a.bp a.body ∧ a.body.length ≤ a.bc ∧ a.bc ≤ 9223372036854775807 ∧ IntsAt w a.kp a.ks
def ActsAt (w : World) (p : Option Addr) (al : List AArg) : Prop := ∀ (j : Nat) (h : j < al.length), ActIn w al[j] ∧ ∃ b o, p = some ⟨b, o, none⟩ ∧ ∀ i, i < 4 → w.cell? ⟨b, o + j * 4 + i, none⟩ = (aCell al[j])[i]?

theorem cells_act : Try.prog.cellsOf 49 = 4 := by kernel_rfl
theorem cells_sb : Try.prog.cellsOf 22 = 1 := by kernel_rfl
theorem cells_si : Try.prog.cellsOf 47 = 1 := by kernel_rfl
theorem list_of {α : Type} {p : Nat → α → Prop} : ∀ (n : Nat), (∀ i, i < n → ∃ x, p i x) → ∃ l : List α, l.length = n ∧ ∀ i (h : i < l.length), p i l[i]
  | 0, _ => ⟨[], rfl, fun i h => by simp at h⟩
  | n + 1, h => by
    obtain ⟨l, hl, hp⟩ := list_of n (fun i hi => h i (by omega))
    obtain ⟨x, hx⟩ := h n (by omega)
    refine ⟨l ++ [x], by simp [hl], fun i hi => ?_⟩
    by_cases hin : i < l.length
    · rw [List.getElem_append_left hin]; exact hp i hin
    · have : i = l.length := by simp at hi; omega
      subst this
      rw [List.getElem_append_right (Nat.le_refl _)]
      simp only [Nat.sub_self, List.getElem_cons_zero]
      rw [hl]; exact hx
section
variable {H : Type} {enc : TypeId × Value → H} {w : World}

set_option maxRecDepth 20000 in
theorem open_sb {fuel : Nat} {cs : List Value} {x : DataW H × List MemPlace} (h : DataW.trod enc Try.prog w 0 (fun _ => true) true fuel 22 cs = some x) :
    ∃ p c l, cs = [.slice p l.length c] ∧ InAt w p l ∧ l.length ≤ c ∧ c ≤ 9223372036854775807 := by
  rcases open_ints Try.underlying22 Try.underlying5 cells_u8 h with ⟨hcs, hx⟩ | ⟨a, len, cap, zs, hcs, _, hl, hm, hz, hx, hcell, hw⟩
  · exact ⟨none, 0, [], hcs, fun hj => by simp at hj, Nat.le_refl _, by decide⟩
  · simp only [if_true] at hz
    have hlz : len ≤ zs.length := by omega
    have hll : ((zs.take len).map (fun z => UInt8.ofNat z.toNat)).length = len := by rw [List.length_map, List.length_take, Nat.min_eq_left hlz]
    refine ⟨some a, cap, (zs.take len).map (fun z => UInt8.ofNat z.toNat), by rw [hll]; exact hcs, fun h0 => ?_, by rw [hll]; exact hl, by unfold maxLen at hm; omega⟩
    rw [hll] at h0
    obtain ⟨b, o, s⟩ := a
    obtain rfl : s = none := by simpa [Addr.add] using World.cell?_spot (hcell 0 (by omega))
    refine ⟨b, o, rfl, fun j u hu => ?_⟩
    have hj : j < len := by
      have := (List.getElem?_eq_some_iff.1 hu).1
      rwa [bCells_len, hll] at this
    have h1 := hcell j (by omega)
    rw [add_plain] at h1
    have hzj := u8_bounds (hw (zs[j]'(by omega)) (List.getElem_mem _))
    have e : (UInt8.ofNat (zs[j]'(by omega)).toNat).toNat = (zs[j]'(by omega)).toNat := UInt8.toNat_ofNat_of_lt' (by show (zs[j]'(by omega)).toNat < 256; omega)
    have hu2 : (bCells ((zs.take len).map (fun z => UInt8.ofNat z.toNat)))[j]? = some (.int .u8 (zs[j]'(by omega))) := by
      unfold bCells
      rw [List.getElem?_map, List.getElem?_map, List.getElem?_take_of_lt hj, List.getElem?_eq_getElem (by omega)]
      simp only [Option.map_some, Option.some.injEq, Value.int.injEq, true_and]
      rw [e, Int.toNat_of_nonneg hzj.1]
    rw [hu2] at hu
    rw [h1, ← hu, List.getD_eq_getElem?_getD, List.getElem?_eq_getElem (by omega)]
    rfl
set_option maxRecDepth 20000 in
theorem open_si {fuel : Nat} {cs : List Value} {x : DataW H × List MemPlace} (h : DataW.trod enc Try.prog w 0 (fun _ => true) true fuel 47 cs = some x) :
    ∃ p c ks, cs = [.slice p ks.length c] ∧ IntsAt w p ks := by
  rcases open_ints Try.underlying47 Try.underlying3 cells_int h with ⟨hcs, hx⟩ | ⟨a, len, cap, zs, hcs, _, hl, hm, hz, hx, hcell, hw⟩
  · exact ⟨none, 0, [], hcs, fun j hj => by simp at hj⟩
  · simp only [if_true] at hz
    have hlz : len ≤ zs.length := by omega
    exact ⟨some a, cap, zs.take len, by rw [List.length_take, Nat.min_eq_left hlz]; exact hcs, ints_at hlz hcell⟩
set_option maxRecDepth 20000 in
theorem open_act {fuel : Nat} {cs : List Value} {x : DataW H × List MemPlace} (h : DataW.trod enc Try.prog w 0 (fun _ => true) true fuel 49 cs = some x) : ∃ a, cs = aCell a ∧ ActIn w a := by
  obtain ⟨xs, n, rfl, _, hlen, hxl, hf⟩ := DataW.trod_struct Try.underlying49 h
  rw [cells_act] at hlen
  match cs, hlen with
  | [c0, c1, c2, c3], _ =>
    have hxl4 : xs.length = 4 := hxl
    match xs, hxl4 with
    | [y0, y1, y2, y3], _ =>
      have g0 : DataW.trod enc Try.prog w 0 (fun _ => true) true n 3 [c0] = some y0 := by simpa [cells_int] using hf 0 _ rfl
      have g1 : DataW.trod enc Try.prog w 0 (fun _ => true) true n 3 [c1] = some y1 := by simpa [cells_int] using hf 1 _ rfl
      have g2 : DataW.trod enc Try.prog w 0 (fun _ => true) true n 22 [c2] = some y2 := by simpa [cells_int, cells_sb] using hf 2 _ rfl
      have g3 : DataW.trod enc Try.prog w 0 (fun _ => true) true n 47 [c3] = some y3 := by simpa [cells_int, cells_sb, cells_si] using hf 3 _ rfl
      obtain ⟨k, e0, _, w0⟩ := DataW.trod_int Try.underlying3 g0
      obtain ⟨s, e1, _, w1⟩ := DataW.trod_int Try.underlying3 g1
      obtain ⟨bp, bc, l, e2, hb1, hb2, hb3⟩ := open_sb g2
      obtain ⟨kp, kc, ks, e3, hk⟩ := open_si g3
      simp at e0 e1 e2 e3
      subst e0 e1 e2 e3
      exact ⟨⟨k, s, bp, bc, l, kp, kc, ks⟩, rfl, hb1, hb2, hb3, hk⟩
end
set_option maxRecDepth 20000 in
theorem open_acts {H : Type} {enc : TypeId × Value → H} {W : World} {r : Reach} {base : Nat} {v : Value} {d : DataW H} {ps : List MemPlace}
    (hv : Value.okWide Try.prog W r base 46 v) (h : DataW.Trod enc Try.prog W 0 (fun _ => true) true 46 v d ps) :
    ∃ p c al, v = .slice p al.length c ∧ ActsAt W p al := by
  obtain ⟨a0, len0, cap0, rfl⟩ := okWide_slice Try.underlying46 hv
  obtain ⟨fuel, hf⟩ := h
  rcases DataW.trod_slice Try.underlying46 hf with ⟨hcs, _⟩ | ⟨a, len, cap, elems, rest, m, hm, hcs, _, hb, hl, hc, hlen, hel, _, _⟩
  · simp [Value.cells] at hcs
    obtain ⟨rfl, rfl, rfl⟩ := hcs
    exact ⟨none, 0, [], rfl, fun j hj => by simp at hj⟩
  · simp [Value.cells] at hcs
    obtain ⟨rfl, rfl, rfl⟩ := hcs
    have hex : ∀ i, i < len0 → ∃ x : AArg, ActIn W x ∧ ∀ j, j < 4 → W.cell? ((a.add (i * 4)).add j) = (aCell x)[j]? := by
      intro i hi
      have h1 := hel i hi
      rw [cells_act, List.getElem?_eq_getElem (by omega)] at h1
      obtain ⟨cs', h2, h3⟩ := Option.bind_eq_some_iff.1 h1
      obtain ⟨x, rfl, hx⟩ := open_act h3
      obtain ⟨_, _, hat⟩ := World.cells?_some h2
      exact ⟨x, hx, hat⟩
    obtain ⟨l, hll, hlp⟩ := list_of len0 hex
    subst hll
    refine ⟨some a, cap0, l, rfl, fun j hj => ?_⟩
    obtain ⟨h1, h2⟩ := hlp j hj
    obtain ⟨b, o, s⟩ := a
    obtain rfl : s = none := by
      have h5 : W.cell? (((⟨b, o, s⟩ : Addr).add (0 * 4)).add 0) = some (.int .i64 (l[0]'(by omega)).kind) := (hlp 0 (by omega)).2 0 (by omega)
      simpa [Addr.add] using World.cell?_spot h5
    refine ⟨h1, b, o, rfl, fun i hi => ?_⟩
    have := h2 i hi
    rwa [add_plain, add_plain] at this
end Go.Proofs.Ytnnpfehfoaojfaa
