/-
  What num.Place, num.Span and the reference's two answer: the index of an element, and the range of the elements from start to stop. Conditions: 64-bit integers; the reference: at most 2000 elements.
-/
import Derived.Test.YtgccdhlbepbpeaaDoorNumWalksA
namespace Go.Proofs.YtgccdhlbepbpeaaDoor
open Go.RowKit

/-- An index that may count from the end, counted from the beginning. -/
def front (i n : Int) : Int := if i < 0 then i + n else i
theorem front_neg {i n : Int} (h : i < 0) : front i n = i + n := if_pos h
theorem front_pos {i n : Int} (h : ¬ i < 0) : front i n = i := if_neg h

set_option maxHeartbeats 400000 in
theorem place_yes (i n : Int) (hi : Fits i) (hn0 : 0 ≤ n) (hn : Fits n) (w : World) (h0 : 0 ≤ front i n) (h1 : front i n < n) :
    Calls Tryd.prog 17 #[.int .i64 i, .int .i64 n] w fun e w' => e = .returned (.tuple #[.int .i64 (front i n), .bool true]) ∧ w = w' := by
  obtain ⟨hi0, hi1⟩ := hi
  obtain ⟨hm0, hm1⟩ := hn
  by_cases hc : i < 0
  · rw [front_neg hc] at h0 h1 ⊢
    go_enter Tryd.func17, Tryd.ntmps17
    go_wp2
    go_ret2
    exact ⟨rfl, rfl⟩
  · rw [front_pos hc] at h0 h1 ⊢
    go_enter Tryd.func17, Tryd.ntmps17
    go_wp2
    go_ret2
    exact ⟨rfl, rfl⟩

set_option maxHeartbeats 400000 in
theorem place_no (i n : Int) (hi : Fits i) (hn0 : 0 ≤ n) (hn : Fits n) (w : World) (h : ¬ (0 ≤ front i n ∧ front i n < n)) :
    Calls Tryd.prog 17 #[.int .i64 i, .int .i64 n] w fun e w' => e = .returned (.tuple #[.int .i64 0, .bool false]) ∧ w = w' := by
  obtain ⟨hi0, hi1⟩ := hi
  obtain ⟨hm0, hm1⟩ := hn
  by_cases hc : i < 0
  · rw [front_neg hc] at h
    have h' : i + n < 0 := by omega
    clear h
    go_enter Tryd.func17, Tryd.ntmps17
    go_wp2
    go_ret2
    exact ⟨rfl, rfl⟩
  · rw [front_pos hc] at h
    have h' : n ≤ i := by omega
    clear h
    go_enter Tryd.func17, Tryd.ntmps17
    go_wp2
    go_ret2
    exact ⟨rfl, rfl⟩

set_option maxHeartbeats 400000 in
theorem place_under (i n : Int) (hi : Fits i) (hn0 : n < 0) (w : World) :
    Calls Tryd.prog 17 #[.int .i64 i, .int .i64 n] w fun e w' => e = .returned (.tuple #[.int .i64 0, .bool false]) ∧ w = w' := by
  obtain ⟨hi0, hi1⟩ := hi
  by_cases hc : i < 0
  · go_enter Tryd.func17, Tryd.ntmps17
    go_wp2
    go_ret2
    exact ⟨rfl, rfl⟩
  · go_enter Tryd.func17, Tryd.ntmps17
    go_wp2
    go_ret2
    exact ⟨rfl, rfl⟩

/-- The first and the last index of a range. -/
def first (a n : Int) : Int := if front a n < 0 then 0 else front a n
def last (b n : Int) : Int := if n - 1 < front b n then n - 1 else front b n
theorem first_zero {a n : Int} (h : front a n < 0) : first a n = 0 := if_pos h
theorem first_at {a n : Int} (h : ¬ front a n < 0) : first a n = front a n := if_neg h
theorem last_end {b n : Int} (h : n - 1 < front b n) : last b n = n - 1 := if_pos h
theorem last_at {b n : Int} (h : ¬ n - 1 < front b n) : last b n = front b n := if_neg h

set_option maxHeartbeats 1600000 in
theorem span_some (a b n : Int) (ha : Fits a) (hb : Fits b) (hn0 : 0 ≤ n) (hn : Fits n) (w : World) (h : first a n ≤ last b n) :
    Calls Tryd.prog 19 #[.int .i64 a, .int .i64 b, .int .i64 n] w fun e w' => e = .returned (.tuple #[.int .i64 (first a n), .int .i64 (last b n + 1)]) ∧ w = w' := by
  obtain ⟨ha0, ha1⟩ := ha
  obtain ⟨hb0, hb1⟩ := hb
  obtain ⟨hm0, hm1⟩ := hn
  by_cases hca : a < 0 <;> by_cases hcb : b < 0 <;> by_cases hf : front a n < 0 <;> by_cases hl : n - 1 < front b n
  all_goals
    first | rw [first_zero hf] at h ⊢ | rw [first_at hf] at h ⊢
    first | rw [last_end hl] at h ⊢ | rw [last_at hl] at h ⊢
    first | rw [front_neg hca] at hf | rw [front_pos hca] at hf
    first | rw [front_neg hcb] at hl | rw [front_pos hcb] at hl
    try first | rw [front_neg hca] at h ⊢ | rw [front_pos hca] at h ⊢
    try first | rw [front_neg hcb] at h ⊢ | rw [front_pos hcb] at h ⊢
  all_goals first | (exfalso; omega) | skip
  all_goals
    go_enter Tryd.func19, Tryd.ntmps19
    go_wp2
    go_ret2
    exact ⟨rfl, rfl⟩

set_option maxHeartbeats 1600000 in
theorem span_none (a b n : Int) (ha : Fits a) (hb : Fits b) (hn0 : 0 ≤ n) (hn : Fits n) (w : World) (h : last b n < first a n) :
    Calls Tryd.prog 19 #[.int .i64 a, .int .i64 b, .int .i64 n] w fun e w' => e = .returned (.tuple #[.int .i64 0, .int .i64 0]) ∧ w = w' := by
  obtain ⟨ha0, ha1⟩ := ha
  obtain ⟨hb0, hb1⟩ := hb
  obtain ⟨hm0, hm1⟩ := hn
  by_cases hca : a < 0 <;> by_cases hcb : b < 0 <;> by_cases hf : front a n < 0 <;> by_cases hl : n - 1 < front b n
  all_goals
    first | rw [first_zero hf] at h | rw [first_at hf] at h
    first | rw [last_end hl] at h | rw [last_at hl] at h
    first | rw [front_neg hca] at hf | rw [front_pos hca] at hf
    first | rw [front_neg hcb] at hl | rw [front_pos hcb] at hl
    try first | rw [front_neg hca] at h | rw [front_pos hca] at h
    try first | rw [front_neg hcb] at h | rw [front_pos hcb] at h
  all_goals first | (exfalso; omega) | skip
  all_goals
    go_enter Tryd.func19, Tryd.ntmps19
    go_wp2
    go_ret2
    exact ⟨rfl, rfl⟩

set_option maxHeartbeats 1600000 in
theorem span_under (a b n : Int) (ha : Fits a) (hb : Fits b) (hn0 : n < 0) (w : World) :
    Calls Tryd.prog 19 #[.int .i64 a, .int .i64 b, .int .i64 n] w fun e w' => e = .returned (.tuple #[.int .i64 0, .int .i64 0]) ∧ w = w' := by
  obtain ⟨ha0, ha1⟩ := ha
  obtain ⟨hb0, hb1⟩ := hb
  by_cases hca : a < 0 <;> by_cases hcb : b < 0 <;> by_cases hl : -1 < b
  all_goals first | (exfalso; omega) | skip
  all_goals
    go_enter Tryd.func19, Tryd.ntmps19
    go_wp2
    go_ret2
    exact ⟨rfl, rfl⟩

set_option maxHeartbeats 800000 in
theorem refplace_yes (i n : Int) (hi : Fits i) (hn0 : 0 ≤ n) (hn : n ≤ 2000) (w : World) (h0 : 0 ≤ front i n) (h1 : front i n < n) :
    Calls Tryd.prog 18 #[.int .i64 i, .int .i64 n] w fun e w' => e = .returned (.tuple #[.int .i64 (front i n), .bool true]) ∧ w = w' := by
  obtain ⟨hi0, hi1⟩ := hi
  by_cases hc : i < 0
  · rw [front_neg hc] at h0 h1 ⊢
    go_enter Tryd.func18, Tryd.ntmps18
    go_wp2
    go_loop [6] (fun c => ∃ k : Nat, (k : Int) ≤ i + n ∧ c = .int .i64 k) (fun c => (n - intOf c).toNat)
    case atStart => exact ⟨0, by omega, rfl⟩
    case round =>
      obtain ⟨k, hk, rfl⟩ := hrel
      have t1 : (i == (k : Int)) = false := by rw [beq_eq_false_iff_ne]; omega
      by_cases he : (k : Int) = i + n
      · have t2 : (i == (k : Int) - n) = true := by rw [beq_iff_eq]; omega
        have HE := Lib.hid he
        clear he
        go_wp2
        go_ret2
        exact ⟨by rw [← HE.out]; rfl, rfl⟩
      · have t2 : (i == (k : Int) - n) = false := by rw [beq_eq_false_iff_ne]; omega
        have hk' : (k : Int) < i + n := by omega
        clear he
        go_wp2
        go_round
        case rel => exact ⟨k + 1, by omega, by go_num⟩
        case measure => simp [intOf]; omega
  · rw [front_pos hc] at h0 h1 ⊢
    go_enter Tryd.func18, Tryd.ntmps18
    go_wp2
    go_loop [6] (fun c => ∃ k : Nat, (k : Int) ≤ i ∧ c = .int .i64 k) (fun c => (n - intOf c).toNat)
    case atStart => exact ⟨0, by omega, rfl⟩
    case round =>
      obtain ⟨k, hk, rfl⟩ := hrel
      by_cases he : (k : Int) = i
      · have t1 : (i == (k : Int)) = true := by rw [beq_iff_eq]; omega
        have HE := Lib.hid he
        clear he
        go_wp2
        go_ret2
        exact ⟨by rw [← HE.out]; rfl, rfl⟩
      · have t1 : (i == (k : Int)) = false := by rw [beq_eq_false_iff_ne]; omega
        have t2 : (i == (k : Int) - n) = false := by rw [beq_eq_false_iff_ne]; omega
        have hk' : (k : Int) < i := by omega
        clear he
        go_wp2
        go_round
        case rel => exact ⟨k + 1, by omega, by go_num⟩
        case measure => simp [intOf]; omega

set_option maxHeartbeats 800000 in
theorem refplace_no (i n : Int) (hi : Fits i) (hn0 : 0 ≤ n) (hn : n ≤ 2000) (w : World) (h : ¬ (0 ≤ front i n ∧ front i n < n)) :
    Calls Tryd.prog 18 #[.int .i64 i, .int .i64 n] w fun e w' => e = .returned (.tuple #[.int .i64 0, .bool false]) ∧ w = w' := by
  obtain ⟨hi0, hi1⟩ := hi
  have hno : (i < 0 ∧ i + n < 0) ∨ (0 ≤ i ∧ n ≤ i) := by
    by_cases hc : i < 0
    · rw [front_neg hc] at h; omega
    · rw [front_pos hc] at h; omega
  have HNO := Lib.hid hno
  clear h hno
  go_enter Tryd.func18, Tryd.ntmps18
  go_wp2
  go_loop [6] (fun c => ∃ k : Nat, (k : Int) ≤ n ∧ c = .int .i64 k) (fun c => (n - intOf c).toNat)
  case atStart => exact ⟨0, by omega, rfl⟩
  case round =>
    obtain ⟨k, hk, rfl⟩ := hrel
    by_cases hlt : (k : Int) < n
    · have t1 : (i == (k : Int)) = false := by have := HNO.out; rw [beq_eq_false_iff_ne]; omega
      have t2 : (i == (k : Int) - n) = false := by have := HNO.out; rw [beq_eq_false_iff_ne]; omega
      go_wp2
      go_round
      case rel => exact ⟨k + 1, by omega, by go_num⟩
      case measure => simp [intOf]; omega
    · go_wp2
      go_ret2
      exact ⟨rfl, rfl⟩
end Go.Proofs.YtgccdhlbepbpeaaDoor
