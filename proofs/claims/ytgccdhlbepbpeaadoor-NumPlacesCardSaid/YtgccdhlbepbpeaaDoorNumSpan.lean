/-
  What the reference's Span answers: the range of the elements from start to stop, found by going through at most 2000 elements. Conditions: 64-bit integers, at most 2000 elements.
-/
import Derived.Test.YtgccdhlbepbpeaaDoorNumPlace
namespace Go.Proofs.YtgccdhlbepbpeaaDoor
open Go.RowKit

/-- Where the reference's loop stands when it comes to element k: nothing found yet, between the last and the first, or behind the first. -/
def SpanAt (f l k p q : Int) : Prop :=
  (l ≤ k ∧ p = 0 ∧ q = 0) ∨ (f - 1 ≤ k ∧ k < l ∧ p = k + 1 ∧ q = l + 1) ∨ (k < f - 1 ∧ p = f ∧ q = l + 1)

/-- What the range's ends are: A and B are start and stop counted from the beginning. -/
structure Ends (A B n f l : Int) : Prop where
  f0 : 0 ≤ f
  fA : A ≤ f
  lB : l ≤ B
  ln : l ≤ n - 1
  fl : f ≤ l
  fOr : f = A ∨ f = 0
  lOr : l = B ∨ l = n - 1

theorem ends_mk (a b n : Int) (h : first a n ≤ last b n) : Ends (front a n) (front b n) n (first a n) (last b n) := by
  refine ⟨?_, ?_, ?_, ?_, h, ?_, ?_⟩
  · unfold first; split <;> omega
  · unfold first; split <;> omega
  · unfold last; split <;> omega
  · unfold last; split <;> omega
  · unfold first; split
    · exact Or.inr rfl
    · exact Or.inl rfl
  · unfold last; split
    · exact Or.inr rfl
    · exact Or.inl rfl

set_option maxHeartbeats 4000000 in
theorem refspan_some (a b n : Int) (ha : Fits a) (hb : Fits b) (hn0 : 0 ≤ n) (hn : n ≤ 2000) (w : World) (h : first a n ≤ last b n) :
    Calls Tryd.prog 20 #[.int .i64 a, .int .i64 b, .int .i64 n] w fun e w' => e = .returned (.tuple #[.int .i64 (first a n), .int .i64 (last b n + 1)]) ∧ w = w' := by
  obtain ⟨ha0, ha1⟩ := ha
  obtain ⟨hb0, hb1⟩ := hb
  have hE := ends_mk a b n h
  generalize first a n = f at hE ⊢
  generalize last b n = l at hE ⊢
  clear h
  by_cases hca : a < 0 <;> by_cases hcb : b < 0
  all_goals
    first | rw [front_neg hca] at hE | rw [front_pos hca] at hE
    first | rw [front_neg hcb] at hE | rw [front_pos hcb] at hE
    obtain ⟨hf0, hfA, hlB, hln, hfl, hfo, hlo⟩ := hE
    have HF := Lib.hid hfo
    have HL := Lib.hid hlo
    clear hfo hlo
    go_enter Tryd.func20, Tryd.ntmps20
    go_wp2
    go_loop [8, 9, 10] (fun p q c => ∃ (x y k : Int), -1 ≤ k ∧ k ≤ n - 1 ∧ c = .int .i64 k ∧ p = .int .i64 x ∧ q = .int .i64 y ∧ SpanAt f l k x y) (fun _ _ c => (intOf c + 1).toNat)
    case atStart => exact ⟨0, 0, n - 1, by omega, by omega, rfl, rfl, rfl, Or.inl ⟨by omega, rfl, rfl⟩⟩
    case round =>
      obtain ⟨x, y, k, hk0, hk1, rfl, rfl, rfl, hs⟩ := hrel
      by_cases hk : 0 ≤ k
      · by_cases hlo : k < f
        · -- ahead of the range
          have hA : k < f - 1 + 1 := by omega
          have HS : Hid (SpanAt f l (k - 1) x y) := by unfold SpanAt at hs; show SpanAt f l (k - 1) x y; unfold SpanAt; omega
          have h1 := HF.out
          try have h2 : k < a + n := by omega
          try have h3 : k < a := by omega
          clear h1 hs hA
          go_wp2
          go_round
          case rel => exact ⟨x, y, k - 1, by omega, by omega, by go_num, rfl, rfl, HS.out⟩
          case measure => simp [intOf]; omega
        · by_cases hhi : l < k
          · have HS : Hid (SpanAt f l (k - 1) x y) := by unfold SpanAt at hs; show SpanAt f l (k - 1) x y; unfold SpanAt; omega
            have h1 := HL.out
            try have h2 : b + n < k := by omega
            try have h3 : b < k := by omega
            clear h1 hs
            go_wp2
            go_round
            case rel => exact ⟨x, y, k - 1, by omega, by omega, by go_num, rfl, rfl, HS.out⟩
            case measure => simp [intOf]; omega
          · by_cases hat : l = k
            · have hx : x = 0 ∧ y = 0 := by unfold SpanAt at hs; omega
              obtain ⟨rfl, rfl⟩ := hx
              have HS : Hid (SpanAt f l (k - 1) k (k + 1)) := by show SpanAt f l (k - 1) k (k + 1); unfold SpanAt; omega
              have hlk : l ≤ k := by omega
              try have dA1 : decide (k - n < a) = false := by simp; omega
              try have dA2 : decide (k < a) = false := by simp; omega
              try have dB1 : decide (b < k - n) = false := by simp; omega
              try have dB2 : decide (b < k) = false := by simp; omega
              clear hs hat
              go_wp2
              go_round
              case rel => exact ⟨k, k + 1, k - 1, by omega, by omega, by go_num, rfl, by go_num, HS.out⟩
              case measure => simp [intOf]; omega
            · have hlk : k < l := by omega
              have HS : Hid (SpanAt f l (k - 1) k y) := by unfold SpanAt at hs; show SpanAt f l (k - 1) k y; unfold SpanAt; omega
              have hy : (y == 0) = false := by unfold SpanAt at hs; rw [beq_eq_false_iff_ne]; omega
              try have dA1 : decide (k - n < a) = false := by simp; omega
              try have dA2 : decide (k < a) = false := by simp; omega
              try have dB1 : decide (b < k - n) = false := by simp; omega
              try have dB2 : decide (b < k) = false := by simp; omega
              clear hs hat hhi
              go_wp2
              go_round
              case rel => exact ⟨k, y, k - 1, by omega, by omega, by go_num, rfl, rfl, HS.out⟩
              case measure => simp [intOf]; omega
      · have hx : x = f ∧ y = l + 1 := by unfold SpanAt at hs; omega
        have HX := Lib.hid hx
        clear hs hx
        go_wp2
        go_ret2
        obtain ⟨rfl, rfl⟩ := HX.out
        exact ⟨rfl, rfl⟩

/-- No element lies in the range. -/
structure NoEnds (A B n : Int) : Prop where
  out : ∀ k : Int, 0 ≤ k → k ≤ n - 1 → k < A ∨ B < k

theorem noEnds_mk (a b n : Int) (h : last b n < first a n) : NoEnds (front a n) (front b n) n := by
  refine ⟨fun k h0 h1 => ?_⟩
  unfold first last at h
  split at h <;> split at h <;> omega

set_option maxHeartbeats 4000000 in
theorem refspan_none (a b n : Int) (ha : Fits a) (hb : Fits b) (hn0 : 0 ≤ n) (hn : n ≤ 2000) (w : World) (h : last b n < first a n) :
    Calls Tryd.prog 20 #[.int .i64 a, .int .i64 b, .int .i64 n] w fun e w' => e = .returned (.tuple #[.int .i64 0, .int .i64 0]) ∧ w = w' := by
  obtain ⟨ha0, ha1⟩ := ha
  obtain ⟨hb0, hb1⟩ := hb
  have hE := noEnds_mk a b n h
  clear h
  by_cases hca : a < 0 <;> by_cases hcb : b < 0
  all_goals
    first | rw [front_neg hca] at hE | rw [front_pos hca] at hE
    first | rw [front_neg hcb] at hE | rw [front_pos hcb] at hE
    go_enter Tryd.func20, Tryd.ntmps20
    go_wp2
    go_loop [8, 9, 10] (fun p q c => ∃ (k : Int), -1 ≤ k ∧ k ≤ n - 1 ∧ c = .int .i64 k ∧ p = .int .i64 0 ∧ q = .int .i64 0) (fun _ _ c => (intOf c + 1).toNat)
    case atStart => exact ⟨n - 1, by omega, by omega, rfl, rfl, rfl⟩
    case round =>
      obtain ⟨k, hk0, hk1, rfl, rfl, rfl⟩ := hrel
      by_cases hk : 0 ≤ k
      · rcases hE.out k hk hk1 with h2 | h2
        · try have h3 : k - n < a := by omega
          go_wp2
          all_goals
            go_round
            case rel => exact ⟨k - 1, by omega, by omega, by go_num, rfl, rfl⟩
            case measure => simp [intOf]; omega
        · try have h3 : b < k - n := by omega
          by_cases h4 : k - n < a <;> by_cases h5 : k < a
          all_goals first | (exfalso; omega) | skip
          all_goals
            go_wp2
            go_round
            case rel => exact ⟨k - 1, by omega, by omega, by go_num, rfl, rfl⟩
            case measure => simp [intOf]; omega
      · go_wp2
        go_ret2
        exact ⟨rfl, rfl⟩
end Go.Proofs.YtgccdhlbepbpeaaDoor
