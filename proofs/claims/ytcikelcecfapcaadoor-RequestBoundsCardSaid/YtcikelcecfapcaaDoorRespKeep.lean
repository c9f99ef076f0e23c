/-
  Rows of replies that are kept beside other memory; the bytes that are left.
-/
import Derived.Test.YtcikelcecfapcaaDoorRespTake
import Derived.Test.YtcikelcecfapcaaDoorRespHeld
namespace Go.Proofs.YtcikelcecfapcaaDoor
open Go.RowKit Rp

theorem slice_at {w : World} {rs : List Rep} {p : Option Addr} (h : SliceIn w rs p) (j : Nat) (hj : j < rs.length) : ∃ b o q d, p = some ⟨b, o, none⟩ ∧ CellsAt w b (o + j * 4) rs[j] q d ∧ RepIn w rs[j] q d := by
  rcases h with rfl | ⟨b, o, hp, hr⟩
  · simp at hj
  · obtain ⟨q, d, h1, h2⟩ := row_at hr j hj
    exact ⟨b, o, q, d, hp, h1, h2⟩

/-- What stands at the head of a round of the first loop. -/
structure Wants (w : World) (rs : List Rep) (i : Nat) (v : Value) (ys : List Held) (wr : World) : Prop where
  row : wr.ownsRow w.heap.size 26 4 v ys.length (flatK ys)
  eq : ys.map (·.1) = (rs.take i).filter (right 4)
  kids : ∀ y ∈ ys, RepIn w y.1 y.2.1 y.2.2
  below : Below w.heap.size w wr
  small : ∀ (j : Nat) (h : j < rs.length), j < i → size 9 rs[j] ≤ 100
  few : ys.length ≤ i

theorem written_filter : ∀ rs : List Rep, written rs = encL (rs.filter (right 4))
  | [] => rfl
  | r :: rs => by
    rw [written, List.filter_cons, written_filter rs]
    cases h : right 4 r <;> simp [encL]
theorem encL_len (M : Nat) : ∀ (l : List Rep), (∀ x ∈ l, (enc x).length ≤ M) → (encL l).length ≤ M * l.length
  | [], _ => by simp [encL]
  | x :: l, h => by
    have h1 := encL_len M l (fun y hy => h y (List.mem_cons_of_mem _ hy))
    have h2 := h x List.mem_cons_self
    rw [encL, List.length_append, List.length_cons, Nat.mul_succ]
    omega
theorem own_rest {w : World} {B : Nat} {v : Value} {l : List UInt8} (h : w.ownsRow B 5 1 v l.length (sCells l)) : ∃ q d, v = .slice q l.length d ∧ Rest w q d l := by
  have h0 := h
  rcases h.2 with ⟨rfl, hn⟩ | ⟨g, cap, cur, rfl, hB, hg, hn, hm, hs, ht⟩
  · have : l = [] := List.eq_nil_of_length_eq_zero hn
    subst this
    exact ⟨none, 0, rfl, .inl ⟨rfl, rfl, rfl⟩⟩
  · refine ⟨_, _, rfl, .inr ⟨g, 0, rfl, hn, hm, fun j hj => ?_⟩⟩
    have := h0.cellAt j (by omega)
    rw [Nat.zero_add, this]
    simp [sCells, hj]
theorem wants_at {w : World} {B : Nat} {va : Option Addr} {vc : Nat} {ys : List Held} (h : w.ownsRow B 26 4 (.slice va ys.length vc) ys.length (flatK ys)) (j : Nat) (hj : j < ys.length) :
    ∃ g, va = some ⟨g, 0, none⟩ ∧ CellsAt w g (j * 4) ys[j].1 ys[j].2.1 ys[j].2.2 := by
  have h0 := h
  rcases h.2 with ⟨hv, hn⟩ | ⟨g, cap, cur, hv, hB, hg, hn, hm, hs, ht⟩
  · omega
  · simp only [Value.slice.injEq, true_and] at hv
    obtain ⟨rfl, rfl⟩ := hv
    obtain ⟨f0, f1, f2, f3⟩ := flatK_at ys j hj
    refine ⟨g, rfl, (h0.cellAt (j * 4) (by omega)).trans f0, (h0.cellAt (j * 4 + 1) (by omega)).trans f1, (h0.cellAt (j * 4 + 2) (by omega)).trans f2, (h0.cellAt (j * 4 + 3) (by omega)).trans f3⟩

/-- What stands at the head of a round of the second loop. -/
structure Left (wb : World) (ys : List Held) (j : Nat) (l : List UInt8) (q : Option Addr) (d : Nat) (wr : World) : Prop where
  eq : l = encL ((ys.map (·.1)).drop j)
  rest : Rest wb q d l
  below : Below wb.heap.size wb wr
  short : l.length ≤ 1000000000
end Go.Proofs.YtcikelcecfapcaaDoor
