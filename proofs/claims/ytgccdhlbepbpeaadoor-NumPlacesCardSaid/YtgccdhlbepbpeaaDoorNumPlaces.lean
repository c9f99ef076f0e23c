/-
  The walk of the statement NumPlaces: for every three 64-bit integers it answers true. Conditions: strconv's variables read as they are laid.
-/
import Derived.Test.YtgccdhlbepbpeaaDoorNumAwake
import Derived.Test.YtgccdhlbepbpeaaDoorNumSpan
namespace Go.Proofs.YtgccdhlbepbpeaaDoor
open Go.RowKit

theorem count_neg {n : Int} (h : n < 0) : max n 0 = 0 := by omega
theorem count_pos {n : Int} (h : ¬ n < 0) : max n 0 = n := by omega

theorem place_both (i n : Int) (hi : Fits i) (hf : Fits n) (hn : n ≤ 2000) : ∃ (x : Int) (t : Bool),
    (∀ w, Calls Tryd.prog 17 #[.int .i64 i, .int .i64 n] w fun e w' => e = .returned (.tuple #[.int .i64 x, .bool t]) ∧ w = w') ∧
    (∀ w, Calls Tryd.prog 18 #[.int .i64 i, .int .i64 (max n 0)] w fun e w' => e = .returned (.tuple #[.int .i64 x, .bool t]) ∧ w = w') := by
  by_cases h : n < 0
  · rw [count_neg h]
    exact ⟨0, false, fun w => place_under i n hi h w, fun w => refplace_no i 0 hi (by omega) (by omega) w (by unfold front; split <;> omega)⟩
  · rw [count_pos h]
    by_cases hr : 0 ≤ front i n ∧ front i n < n
    · exact ⟨front i n, true, fun w => place_yes i n hi (by omega) hf w hr.1 hr.2, fun w => refplace_yes i n hi (by omega) hn w hr.1 hr.2⟩
    · exact ⟨0, false, fun w => place_no i n hi (by omega) hf w hr, fun w => refplace_no i n hi (by omega) hn w hr⟩

theorem span_both (a b n : Int) (ha : Fits a) (hb : Fits b) (hf : Fits n) (hn : n ≤ 2000) : ∃ (c d : Int), 0 ≤ c ∧ d ≤ max n 0 ∧ (c < d ∨ (c = 0 ∧ d = 0)) ∧
    (∀ w, Calls Tryd.prog 19 #[.int .i64 a, .int .i64 b, .int .i64 n] w fun e w' => e = .returned (.tuple #[.int .i64 c, .int .i64 d]) ∧ w = w') ∧
    (∀ w, Calls Tryd.prog 20 #[.int .i64 a, .int .i64 b, .int .i64 (max n 0)] w fun e w' => e = .returned (.tuple #[.int .i64 c, .int .i64 d]) ∧ w = w') := by
  by_cases h : n < 0
  · rw [count_neg h]
    exact ⟨0, 0, by omega, by omega, Or.inr ⟨rfl, rfl⟩, fun w => span_under a b n ha hb h w, fun w => refspan_none a b 0 ha hb (by omega) (by omega) w (by
      unfold first last; split <;> split <;> omega)⟩
  · rw [count_pos h]
    by_cases hr : first a n ≤ last b n
    · have hE := ends_mk a b n hr
      exact ⟨first a n, last b n + 1, hE.f0, by have := hE.ln; omega, Or.inl (by omega), fun w => span_some a b n ha hb (by omega) hf w hr, fun w => refspan_some a b n ha hb (by omega) hn w hr⟩
    · exact ⟨0, 0, by omega, by omega, Or.inr ⟨rfl, rfl⟩, fun w => span_none a b n ha hb (by omega) hf w (by omega), fun w => refspan_none a b n ha hb (by omega) hn w (by omega)⟩

set_option maxHeartbeats 400000 in
theorem numPlaces_big (a b n : Int) (w : World) (hn : 2000 < n) (hL : Laid w) :
    Calls Tryd.prog 5 #[.int .i64 a, .int .i64 b, .int .i64 n] w fun e w' => e = .returned (.bool true) ∧ Below w.heap.size w w' := by
  go_enter Tryd.func5, Tryd.ntmps5
  go_wp2_with fail
  refine (awake_any _ hL).mono ?_
  rintro e w1 ⟨rfl, hb1⟩
  go_wp2_with fail
  refine (awake_any _ (hL.on hb1)).mono ?_
  rintro e w2 ⟨rfl, hb2⟩
  go_wp2
  go_ret
  exact ⟨rfl, hb1.trans (hb2.mono hb1.size)⟩

set_option maxHeartbeats 1600000 in
theorem numPlaces_none (a b n : Int) (w : World) (hn : ¬ 2000 < n) (x : Int) (t : Bool)
    (hp1 : ∀ w, Calls Tryd.prog 17 #[.int .i64 a, .int .i64 n] w fun e w' => e = .returned (.tuple #[.int .i64 x, .bool t]) ∧ w = w')
    (hp2 : ∀ w, Calls Tryd.prog 18 #[.int .i64 a, .int .i64 (max n 0)] w fun e w' => e = .returned (.tuple #[.int .i64 x, .bool t]) ∧ w = w')
    (hs1 : ∀ w, Calls Tryd.prog 19 #[.int .i64 a, .int .i64 b, .int .i64 n] w fun e w' => e = .returned (.tuple #[.int .i64 0, .int .i64 0]) ∧ w = w')
    (hs2 : ∀ w, Calls Tryd.prog 20 #[.int .i64 a, .int .i64 b, .int .i64 (max n 0)] w fun e w' => e = .returned (.tuple #[.int .i64 0, .int .i64 0]) ∧ w = w') (hk : 0 ≤ max n 0) (hL : Laid w) :
    Calls Tryd.prog 5 #[.int .i64 a, .int .i64 b, .int .i64 n] w fun e w' => e = .returned (.bool true) ∧ Below w.heap.size w w' := by
  have P1 := Lib.hid hp1
  have P2 := Lib.hid hp2
  have S1 := Lib.hid hs1
  have S2 := Lib.hid hs2
  clear hp1 hp2 hs1 hs2
  go_enter Tryd.func5, Tryd.ntmps5
  go_wp2_with fail
  refine (awake_any _ hL).mono ?_
  rintro e w1 ⟨rfl, hb1⟩
  go_wp2_with fail
  refine (P1.out _).mono ?_
  rintro e w2 ⟨rfl, rfl⟩
  go_wp2_with fail
  refine (P2.out _).mono ?_
  rintro e w2 ⟨rfl, rfl⟩
  go_wp2_with fail
  refine (S1.out _).mono ?_
  rintro e w2 ⟨rfl, rfl⟩
  go_wp2_with fail
  refine (S2.out _).mono ?_
  rintro e w2 ⟨rfl, rfl⟩
  go_wp2
  go_ret
  exact ⟨rfl, hb1⟩

set_option maxHeartbeats 1600000 in
theorem numPlaces_some (a b n : Int) (w : World) (hn : ¬ 2000 < n) (c d : Int) (hc0 : 0 ≤ c) (hcd : c < d) (hdn : d ≤ max n 0) (x : Int) (t : Bool)
    (hp1 : ∀ w, Calls Tryd.prog 17 #[.int .i64 a, .int .i64 n] w fun e w' => e = .returned (.tuple #[.int .i64 x, .bool t]) ∧ w = w')
    (hp2 : ∀ w, Calls Tryd.prog 18 #[.int .i64 a, .int .i64 (max n 0)] w fun e w' => e = .returned (.tuple #[.int .i64 x, .bool t]) ∧ w = w')
    (hs1 : ∀ w, Calls Tryd.prog 19 #[.int .i64 a, .int .i64 b, .int .i64 n] w fun e w' => e = .returned (.tuple #[.int .i64 c, .int .i64 d]) ∧ w = w')
    (hs2 : ∀ w, Calls Tryd.prog 20 #[.int .i64 a, .int .i64 b, .int .i64 (max n 0)] w fun e w' => e = .returned (.tuple #[.int .i64 c, .int .i64 d]) ∧ w = w') (hL : Laid w) :
    Calls Tryd.prog 5 #[.int .i64 a, .int .i64 b, .int .i64 n] w fun e w' => e = .returned (.bool true) ∧ Below w.heap.size w w' := by
  have P1 := Lib.hid hp1
  have P2 := Lib.hid hp2
  have S1 := Lib.hid hs1
  have S2 := Lib.hid hs2
  clear hp1 hp2 hs1 hs2
  go_enter Tryd.func5, Tryd.ntmps5
  go_wp2_with fail
  refine (awake_any _ hL).mono ?_
  rintro e w1 ⟨rfl, hb1⟩
  go_wp2_with fail
  refine (P1.out _).mono ?_
  rintro e w2 ⟨rfl, rfl⟩
  go_wp2_with fail
  refine (P2.out _).mono ?_
  rintro e w2 ⟨rfl, rfl⟩
  go_wp2_with fail
  refine (S1.out _).mono ?_
  rintro e w2 ⟨rfl, rfl⟩
  go_wp2_with fail
  refine (S2.out _).mono ?_
  rintro e w2 ⟨rfl, rfl⟩
  go_wp2
  go_ret
  exact ⟨rfl, hb1⟩

theorem numPlaces_walk (a b n : Int) (w : World) (ha : Fits a) (hb : Fits b) (hf : Fits n) (hL : Laid w) :
    Calls Tryd.prog 5 #[.int .i64 a, .int .i64 b, .int .i64 n] w fun e w' => e = .returned (.bool true) ∧ Below w.heap.size w w' := by
  by_cases hn : 2000 < n
  · exact numPlaces_big a b n w hn hL
  obtain ⟨x, t, hp1, hp2⟩ := place_both a n ha hf (by omega)
  obtain ⟨c, d, hc0, hdn, hcd, hs1, hs2⟩ := span_both a b n ha hb hf (by omega)
  rcases hcd with hcd | ⟨rfl, rfl⟩
  · exact numPlaces_some a b n w hn c d hc0 hcd hdn x t hp1 hp2 hs1 hs2 hL
  · exact numPlaces_none a b n w hn x t hp1 hp2 hs1 hs2 (by omega) hL
end Go.Proofs.YtgccdhlbepbpeaaDoor
