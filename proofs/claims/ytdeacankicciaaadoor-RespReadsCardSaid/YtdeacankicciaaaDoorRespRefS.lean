/-
  How the reference's Read looks for the end of a line, and what it answers: plain mathematics.
-/
import Derived.Test.YtdeacankicciaaaDoorRespRefR
namespace Go.Proofs.YtdeacankicciaaaDoor
open Go.RowKit Rp

/-- A line whose first bytes have been passed. -/
def pre (x : List UInt8) (o : Option (List UInt8 × List UInt8)) : Option (List UInt8 × List UInt8) := match o with | none => none | some (u, r) => some (x ++ u, r)
/-- From at on, up to e no line has ended. -/
def Scan (l : List UInt8) (a e : Nat) : Prop := lineR (l.drop a) = pre ((l.drop a).take (e - a)) (lineR (l.drop e))
theorem scan_start (l : List UInt8) (a : Nat) : Scan l a a := by
  unfold Scan pre
  rw [Nat.sub_self, List.take_zero]
  cases lineR (l.drop a) <;> rfl
theorem lineR_step {l : List UInt8} {e : Nat} (h : e + 1 < l.length) (hn : ¬ (l[e] = 13 ∧ l[e + 1] = 10)) : lineR (l.drop e) = pre [l[e]] (lineR (l.drop (e + 1))) := by
  rw [List.drop_eq_getElem_cons (by omega : e < l.length), List.drop_eq_getElem_cons h, lineR, if_neg hn]
  cases lineR (l[e + 1] :: l.drop (e + 1 + 1)) <;> rfl
theorem Scan.next {l : List UInt8} {a e : Nat} (hs : Scan l a e) (hae : a ≤ e) (h : e + 1 < l.length) (hn : ¬ (l[e] = 13 ∧ l[e + 1] = 10)) : Scan l a (e + 1) := by
  unfold Scan at hs ⊢
  rw [hs, lineR_step h hn]
  have e1 : (l.drop a).take (e + 1 - a) = (l.drop a).take (e - a) ++ [l[e]] := by
    rw [show e + 1 - a = (e - a) + 1 by omega, List.take_succ_eq_append_getElem (by rw [List.length_drop]; omega), List.getElem_drop]
    congr 3
    omega
  rw [e1]
  cases lineR (l.drop (e + 1)) with
  | none => rfl
  | some z => simp [pre]
theorem Scan.found {l : List UInt8} {a e : Nat} (hs : Scan l a e) (h : e + 1 < l.length) (h13 : l[e] = 13) (h10 : l[e + 1] = 10) : lineR (l.drop a) = some ((l.drop a).take (e - a), l.drop (e + 2)) := by
  unfold Scan at hs
  rw [hs, List.drop_eq_getElem_cons (by omega : e < l.length), List.drop_eq_getElem_cons h, lineR, if_pos ⟨h13, h10⟩]
  simp [pre]
theorem Scan.none {l : List UInt8} {a e : Nat} (hs : Scan l a e) (h : ¬ e + 1 < l.length) : lineR (l.drop a) = none := by
  unfold Scan at hs
  rw [hs]
  have hl : (l.drop e).length ≤ 1 := by rw [List.length_drop]; omega
  match hd : l.drop e, hl with
  | [], _ => rfl
  | [x], _ => rfl
  | x :: y :: t, hl => rw [List.length_cons, List.length_cons] at hl; omega

/-- Where a line that is found lies. -/
theorem line_where {l : List UInt8} {a e : Nat} {u r : List UInt8} (hs : Scan l a e) (hae : a ≤ e) (h : e + 1 < l.length) (h13 : l[e] = 13) (h10 : l[e + 1] = 10) (hl : lineR (l.drop a) = some (u, r)) : e = a + u.length ∧ u = (l.drop a).take u.length ∧ r = l.drop (a + u.length + 2) ∧ l.length = a + u.length + 2 + r.length := by
  have h1 := hs.found h h13 h10
  rw [hl] at h1
  simp only [Option.some.injEq, Prod.mk.injEq] at h1
  obtain ⟨h1, h2⟩ := h1
  have h3 : u.length = e - a := by rw [h1, List.length_take, List.length_drop]; omega
  refine ⟨by omega, by rw [h3]; exact h1, by rw [h2]; congr 1; omega, ?_⟩
  rw [h2, List.length_drop]
  omega

/-- What the reference's Read answers. -/
def RefV (lo : Nat) (w' : World) (n : Nat) (e : Ending) (a : Option (Rep × List UInt8)) : Prop :=
  match a with
  | some (r, s) => ∃ q d, e = .returned (.tuple #[.agg (repCs r q d), .int .i64 ((n - s.length : Nat) : Int)]) ∧ RepFrom lo w' r q d
  | none => e = .returned (.tuple #[.agg #[.int .i64 0, .string ⟨#[]⟩, .int .i64 0, .slice none 0 0], .int .i64 (-1)])

/-- The reference's Read, arrays nested at most d deep. -/
def RefAt (d : Nat) : Prop := ∀ (l : List UInt8), l.length ≤ 1000000000 → ∀ (a : Nat), a ≤ l.length → ∀ (p : Option Addr) (c : Nat) (w : World), Rest w p c l →
  Calls Tryd.prog 11 #[.slice p l.length c, .int .i64 a, .int .i64 d] w fun e w' => RefV w.heap.size w' l.length e (rd d (l.drop a)) ∧ Below w.heap.size w w'
end Go.Proofs.YtdeacankicciaaaDoor
