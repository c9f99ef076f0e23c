/-
  What a statement's arguments are in memory: replies, slices of replies.
-/
import Derived.Test.YtcikelcecfapcaaDoorRespEnc
import Derived.ProofKit
import Derived.OpenShut
import Derived.Carry
import Derived.Deep.Matrix
namespace Go.Proofs.YtcikelcecfapcaaDoor
open Go.RowKit Go.ChangeShapes Go.WideShapes Rp

theorem laidOut : laidOutB Tryd.prog = true := by kernel_rfl
theorem cells_rep : Tryd.prog.cellsOf 26 = 4 := by kernel_rfl
theorem cells_int : Tryd.prog.cellsOf 3 = 1 := by kernel_rfl
theorem cells_str : Tryd.prog.cellsOf 9 = 1 := by kernel_rfl
theorem cells_row : Tryd.prog.cellsOf 24 = 1 := by kernel_rfl

theorem list_of {α : Type} {p : Nat → α → Prop} : ∀ (n : Nat), (∀ i, i < n → ∃ x, p i x) → ∃ l : List α, l.length = n ∧ ∀ i (h : i < l.length), p i l[i]
  | 0, _ => ⟨[], rfl, fun i h => by simp at h⟩
  | n + 1, h => by
    obtain ⟨l, hl, hp⟩ := list_of n (fun i hi => h i (by omega))
    obtain ⟨x, hx⟩ := h n (by omega)
    refine ⟨l ++ [x], by simp [hl], fun i hi => ?_⟩
    by_cases hin : i < l.length
    · rw [List.getElem_append_left hin]; exact hp i hin
    · have : i = l.length := by simp at hi; omega
      subst this
      rw [List.getElem_append_right (Nat.le_refl _)]
      simp only [Nat.sub_self, List.getElem_cons_zero]
      rw [hl]; exact hx

theorem fits_lit {n : Int} (h : (Lit.int .i64 n).wf = true) : Fits n := by
  have e1 : IntKind.i64.min = -9223372036854775808 := rfl
  have e2 : IntKind.i64.max = 9223372036854775807 := rfl
  have : -9223372036854775808 ≤ n ∧ n ≤ 9223372036854775807 := by simpa [Lit.wf, e1, e2] using h
  exact this

section
variable {H : Type} {enc : TypeId × Value → H} {w : World} {base : Nat} {spare : Nat → Bool} {held : Bool}

/-- A slice of replies, given its elements' reading. -/
theorem open_row {n : Nat} (ih : ∀ cs x, DataW.trod enc Tryd.prog w base spare held n 26 cs = some x → ∃ r p c, cs = (repCs r p c).toList ∧ RepIn w r p c) {cs : List Value} {x : DataW H × List MemPlace} (h : DataW.trod enc Tryd.prog w base spare held (n + 1) 24 cs = some x) :
    ∃ (l : List Rep) (p : Option Addr) (c : Nat), cs = [.slice p l.length c] ∧ l.length ≤ c ∧ c ≤ maxLen ∧ SliceIn w l p := by
  rcases DataW.trod_slice Tryd.underlying24 h with ⟨rfl, _⟩ | ⟨a, len, cap, elems, rest, m, hm, rfl, _, hb, hl, hc, hlen, hel, _, _⟩
  · exact ⟨[], none, 0, rfl, Nat.le_refl _, by simp [maxLen], .inl rfl⟩
  · obtain rfl : n = m := by omega
    have hex : ∀ i, i < len → ∃ r : Rep, ∃ p c, (∀ j, j < 4 → w.cell? ((a.add (i * 4)).add j) = (repCs r p c).toList[j]?) ∧ RepIn w r p c := by
      intro i hi
      have h1 := hel i hi
      rw [cells_rep, List.getElem?_eq_getElem (by omega)] at h1
      obtain ⟨cs', h2, h3⟩ := Option.bind_eq_some_iff.1 h1
      obtain ⟨r, p, c, rfl, hr⟩ := ih _ _ h3
      obtain ⟨_, _, hat⟩ := World.cells?_some h2
      exact ⟨r, p, c, hat, hr⟩
    obtain ⟨l, hll, hlp⟩ := list_of len hex
    subst hll
    refine ⟨l, some a, cap, rfl, hl, hc, ?_⟩
    by_cases hz : l = []
    · exact .inl hz
    · have h0 : 0 < l.length := List.length_pos_iff.2 hz
      obtain ⟨b, o, s⟩ := a
      obtain ⟨p, c, hp, _⟩ := hlp 0 h0
      have hp0 := hp 0 (by omega)
      obtain rfl : s = none := by
        have h5 : w.cell? (((⟨b, o, s⟩ : Addr).add (0 * 4)).add 0) = some (.int .i64 l[0].kind) := hp0
        simpa [Addr.add] using World.cell?_spot h5
      refine .inr ⟨b, o, rfl, row_mk fun j hj => ?_⟩
      obtain ⟨p, c, hp, hr⟩ := hlp j hj
      have hq : ∀ k, k < 4 → w.cell? ⟨b, o + j * 4 + k, none⟩ = (repCs l[j] p c).toList[k]? := fun k hk => by
        have := hp k hk
        rwa [add_plain, add_plain] at this
      refine ⟨p, c, ⟨?_, ?_, ?_, ?_⟩, hr⟩
      · have := hq 0 (by omega); rw [Nat.add_zero] at this; exact this
      · exact hq 1 (by omega)
      · exact hq 2 (by omega)
      · exact hq 3 (by omega)

set_option maxRecDepth 20000 in
theorem open_rep_cells : ∀ (fuel : Nat) (cs : List Value) (x : DataW H × List MemPlace), DataW.trod enc Tryd.prog w base spare held fuel 26 cs = some x → ∃ r p c, cs = (repCs r p c).toList ∧ RepIn w r p c := by
  intro fuel
  induction fuel using Nat.strongRecOn with
  | _ fuel ih =>
    intro cs x h
    obtain ⟨xs, n, rfl, _, hlen, hxl, hf⟩ := DataW.trod_struct Tryd.underlying26 h
    rw [cells_rep] at hlen
    match cs, hlen with
    | [c0, c1, c2, c3], _ =>
      have hxl4 : xs.length = 4 := hxl
      match xs, hxl4 with
      | [y0, y1, y2, y3], _ =>
        have g0 : DataW.trod enc Tryd.prog w base spare held n 3 [c0] = some y0 := by simpa [cells_int] using hf 0 _ rfl
        have g1 : DataW.trod enc Tryd.prog w base spare held n 9 [c1] = some y1 := by simpa [cells_str] using hf 1 _ rfl
        have g2 : DataW.trod enc Tryd.prog w base spare held n 3 [c2] = some y2 := by simpa [cells_int] using hf 2 _ rfl
        have g3 : DataW.trod enc Tryd.prog w base spare held n 24 [c3] = some y3 := by simpa [cells_row] using hf 3 _ rfl
        obtain ⟨k, e0, _, w0⟩ := DataW.trod_int Tryd.underlying3 g0
        obtain ⟨s, e1, _, w1⟩ := DataW.trod_string Tryd.underlying9 g1
        obtain ⟨m, e2, _, w2⟩ := DataW.trod_int Tryd.underlying3 g2
        cases n with
        | zero => simp [DataW.trod] at g3
        | succ n =>
          obtain ⟨l, p, c, e3, hl, hc, hs⟩ := open_row (fun cs x h => ih n (by omega) cs x h) g3
          simp at e0 e1 e2 e3
          subst e0 e1 e2 e3
          refine ⟨.mk k s.data.toList m l, p, c, by simp [repCs, Rep.kind, Rep.str, Rep.num, Rep.kids, bs_list], ?_⟩
          rw [RepIn]
          exact ⟨fits_lit w0, fits_lit w2, by simpa using w1, hl, hc, hs⟩
end

set_option maxRecDepth 20000 in
theorem open_reply {H : Type} {enc : TypeId × Value → H} {W : World} {r : Reach} {base : Nat} {v : Value} {d : DataW H} {ps : List MemPlace}
    (hv : Value.okWide Tryd.prog W r base 26 v) (h : DataW.Trod enc Tryd.prog W 0 (fun _ => true) true 26 v d ps) : ∃ a p c, v = .agg (repCs a p c) ∧ RepIn W a p c := by
  obtain ⟨cs, rfl, hsz⟩ := okWide_struct Tryd.underlying26 hv
  obtain ⟨fuel, hf⟩ := h
  obtain ⟨a, p, c, hcs, hr⟩ := open_rep_cells fuel _ _ hf
  refine ⟨a, p, c, ?_, hr⟩
  congr 1
  have : cs.toList = (repCs a p c).toList := by simpa [Value.cells] using hcs
  exact Array.toList_inj.1 this

set_option maxRecDepth 20000 in
theorem open_replies {H : Type} {enc : TypeId × Value → H} {W : World} {r : Reach} {base : Nat} {v : Value} {d : DataW H} {ps : List MemPlace}
    (hv : Value.okWide Tryd.prog W r base 24 v) (h : DataW.Trod enc Tryd.prog W 0 (fun _ => true) true 24 v d ps) : ∃ l p c, v = .slice p l.length c ∧ l.length ≤ c ∧ c ≤ maxLen ∧ SliceIn W l p := by
  obtain ⟨a0, len, cap, rfl⟩ := okWide_slice Tryd.underlying24 hv
  obtain ⟨fuel, hf⟩ := h
  cases fuel with
  | zero => simp [DataW.trod] at hf
  | succ n =>
    obtain ⟨l, p, c, hcs, hl, hc, hs⟩ := open_row (open_rep_cells n) hf
    simp [Value.cells] at hcs
    obtain ⟨rfl, rfl, rfl⟩ := hcs
    exact ⟨l, _, _, rfl, hl, hc, hs⟩
end Go.Proofs.YtcikelcecfapcaaDoor
