/-
  The reference's number and cut.
-/
import Derived.Test.YtdeacankicciaaaDoorReqRefL
namespace Go.Proofs.YtdeacankicciaaaDoor
open Go.RowKit Rp Rq

set_option maxHeartbeats 1000000 in
theorem rnum_empty (g a b : Int) (w : World) :
    Calls Tryd.prog 43 #[.string (bs []), .int .u8 g, .int .i64 a, .int .i64 b] w fun e w' => e = .returned (.tuple #[.int .i64 0, .int .i64 10]) ∧ w = w' := by
  have h0 : (bs []).size = 0 := rfl
  go_enter Tryd.func43, Tryd.ntmps43
  go_wp2
  go_ret2
  exact ⟨rfl, rfl⟩

set_option maxHeartbeats 1000000 in
theorem rnum_sign (s : ByteArray) (h0 : 0 < s.size) (g a b : Int) (hg : ((s[0].toNat : Int) != g) = true) (w : World) :
    Calls Tryd.prog 43 #[.string s, .int .u8 g, .int .i64 a, .int .i64 b] w fun e w' => e = .returned (.tuple #[.int .i64 0, .int .i64 10]) ∧ w = w' := by
  have hz : ((s.size : Int) == 0) = false := by rw [beq_eq_false_iff_ne]; omega
  go_enter Tryd.func43, Tryd.ntmps43
  go_wp2
  go_ret2
  exact ⟨rfl, rfl⟩

set_option maxHeartbeats 1000000 in
theorem rnum_none (s : ByteArray) (t : List UInt8) (htl : t.length ≤ 281474976710656) (h0 : 0 < s.size) (hx : s.extract 1 s.size = bs t) (hp : parseL t = none) (g a b : Int) (hg : ((s[0].toNat : Int) != g) = false) (w : World) :
    Calls Tryd.prog 43 #[.string s, .int .u8 g, .int .i64 a, .int .i64 b] w fun e w' => e = .returned (.tuple #[.int .i64 0, .int .i64 10]) ∧ Below w.heap.size w w' := by
  have HP := Lib.hid (refparse_any t htl w)
  rw [hp] at HP
  clear hp
  have hz : ((s.size : Int) == 0) = false := by rw [beq_eq_false_iff_ne]; omega
  have h1 : 1 ≤ s.size := h0
  go_enter Tryd.func43, Tryd.ntmps43
  go_wp2_with fail
  refine HP.out.mono ?_
  rintro e w1 ⟨rfl, hb1⟩
  go_wp2
  go_ret2
  exact ⟨rfl, hb1⟩

set_option maxHeartbeats 1000000 in
theorem rnum_some (s : ByteArray) (t : List UInt8) (htl : t.length ≤ 281474976710656) (h0 : 0 < s.size) (hx : s.extract 1 s.size = bs t) (n : Int) (hp : parseL t = some n) (g a b : Int) (hg : ((s[0].toNat : Int) != g) = false) (v : Int) (x : Int) (hv : (n < a ∧ v = 0 ∧ x = 10) ∨ (¬ n < a ∧ b < n ∧ v = 0 ∧ x = 12) ∨ (¬ n < a ∧ ¬ b < n ∧ v = n ∧ x = 0)) (w : World) :
    Calls Tryd.prog 43 #[.string s, .int .u8 g, .int .i64 a, .int .i64 b] w fun e w' => e = .returned (.tuple #[.int .i64 v, .int .i64 x]) ∧ Below w.heap.size w w' := by
  have HP := Lib.hid (refparse_any t htl w)
  rw [hp] at HP
  clear hp
  have hz : ((s.size : Int) == 0) = false := by rw [beq_eq_false_iff_ne]; omega
  have h1 : 1 ≤ s.size := h0
  rcases hv with ⟨h3, rfl, rfl⟩ | ⟨h3, h4, rfl, rfl⟩ | ⟨h3, h4, rfl, rfl⟩
  · have d1 : decide (n < a) = true := decide_eq_true h3
    go_enter Tryd.func43, Tryd.ntmps43
    go_wp2_with fail
    refine HP.out.mono ?_
    rintro e w1 ⟨rfl, hb1⟩
    go_wp2
    go_ret2
    exact ⟨rfl, hb1⟩
  · have d1 : decide (n < a) = false := decide_eq_false h3
    have d2 : decide (b < n) = true := decide_eq_true h4
    go_enter Tryd.func43, Tryd.ntmps43
    go_wp2_with fail
    refine HP.out.mono ?_
    rintro e w1 ⟨rfl, hb1⟩
    go_wp2
    go_ret2
    exact ⟨rfl, hb1⟩
  · have d1 : decide (v < a) = false := decide_eq_false h3
    have d2 : decide (b < v) = false := decide_eq_false h4
    go_enter Tryd.func43, Tryd.ntmps43
    go_wp2_with fail
    refine HP.out.mono ?_
    rintro e w1 ⟨rfl, hb1⟩
    go_wp2
    go_ret2
    exact ⟨rfl, hb1⟩

/-- A number behind a sign. -/
def numS (t : List UInt8) (g : Int) (a b : Int) : Except Int Int :=
  match t with
  | [] => .error 10
  | x :: s => if (x.toNat : Int) = g then numQ s a b else .error 10
theorem bs_first (x : UInt8) (t : List UInt8) (h : 0 < (bs (x :: t)).size) : (bs (x :: t))[0] = x := rfl

/-- The reference's number. -/
theorem rnum_any (t : List UInt8) (htl : t.length ≤ 281474976710656) (g a b : Int) (w : World) :
    Calls Tryd.prog 43 #[.string (bs t), .int .u8 g, .int .i64 a, .int .i64 b] w fun e w' => NumV e (numS t g a b) ∧ Below w.heap.size w w' := by
  cases t with
  | nil => exact (rnum_empty g a b w).mono fun e w' ⟨h1, h2⟩ => ⟨h1, h2 ▸ Below.refl _ _⟩
  | cons y t =>
    have h0 : 0 < (bs (y :: t)).size := by rw [bs_size]; simp
    have htl2 : t.length ≤ 281474976710656 := by simp at htl; omega
    unfold numS
    by_cases hy : (y.toNat : Int) = g
    · simp only [if_pos hy]
      have hg : (((bs (y :: t))[0].toNat : Int) != g) = false := by
        rw [bs_first, bne_eq_false_iff_eq]
        exact hy
      unfold numQ
      cases hp : parseL t with
      | none => exact rnum_none _ t htl2 h0 (bs_from1 y t) hp g a b hg w
      | some n =>
        simp only
        by_cases h1 : n < a
        · rw [if_pos h1]
          exact rnum_some _ t htl2 h0 (bs_from1 y t) n hp g a b hg 0 10 (.inl ⟨h1, rfl, rfl⟩) w
        rw [if_neg h1]
        by_cases h2 : b < n
        · rw [if_pos h2]
          exact rnum_some _ t htl2 h0 (bs_from1 y t) n hp g a b hg 0 12 (.inr (.inl ⟨h1, h2, rfl, rfl⟩)) w
        rw [if_neg h2]
        exact rnum_some _ t htl2 h0 (bs_from1 y t) n hp g a b hg n 0 (.inr (.inr ⟨h1, h2, rfl, rfl⟩)) w
    · simp only [if_neg hy]
      refine (rnum_sign _ h0 g a b ?_ w).mono fun e w' ⟨h1, h2⟩ => ⟨h1, h2 ▸ Below.refl _ _⟩
      rw [bs_first, bne_iff_ne]
      exact hy
end Go.Proofs.YtdeacankicciaaaDoor
