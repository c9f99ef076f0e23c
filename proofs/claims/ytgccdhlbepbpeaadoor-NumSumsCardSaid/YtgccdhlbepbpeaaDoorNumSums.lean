/-
  The walk of the statement NumSums: for every three 64-bit integers it answers true. Conditions: strconv's variables read as they are laid.
-/
import Derived.Test.YtgccdhlbepbpeaaDoorNumBack
namespace Go.Proofs.YtgccdhlbepbpeaaDoor
open Go.RowKit

theorem addAll_two_yes {a b c : Int} (h : Fits (a + b)) (h2 : Fits (a + b + c)) : addAll a [b, c] = some (a + b + c) := by simp [addAll, h, h2]
theorem addAll_two_no {a b c : Int} (h : Fits (a + b)) (h2 : ¬ Fits (a + b + c)) : addAll a [b, c] = none := by simp [addAll, h, h2]
theorem addAll_two_no1 {a b c : Int} (h : ¬ Fits (a + b)) : addAll a [b, c] = none := by simp [addAll, h]

/-- num.Add with two further numbers, in a new block of the caller's. -/
theorem add_two (a b c : Int) (w : World) (p : Nat) (ha : Fits a) (hb : Fits b) (hc : Fits c) (h0 : w.cell? ⟨p, 0, none⟩ = some (.int .i64 b)) (h1 : w.cell? ⟨p, 1, none⟩ = some (.int .i64 c)) :
    Calls Tryd.prog 13 #[.int .i64 a, .slice (some ⟨p, 0, none⟩) 2 2] w fun e w' => e = sumOf (addAll a [b, c]) ∧ w = w' :=
  (add_some a [b, c] p w ha (by simp; exact ⟨hb, hc⟩) (by simp) (fun k hk => by
    have : k = 0 ∨ k = 1 := by simp at hk; omega
    rcases this with rfl | rfl
    · exact h0
    · exact h1)).mono fun _ _ ⟨he, hw⟩ => ⟨he, hw⟩

theorem add_two_yes (a b c : Int) (w : World) (p : Nat) (ha : Fits a) (hb : Fits b) (hc : Fits c) (h : addAll a [b, c] = some (a + b + c)) (h0 : w.cell? ⟨p, 0, none⟩ = some (.int .i64 b)) (h1 : w.cell? ⟨p, 1, none⟩ = some (.int .i64 c)) :
    Calls Tryd.prog 13 #[.int .i64 a, .slice (some ⟨p, 0, none⟩) 2 2] w fun e w' => e = .returned (.tuple #[.int .i64 (a + b + c), .bool true]) ∧ w = w' :=
  (add_two a b c w p ha hb hc h0 h1).mono fun _ _ ⟨he, hw⟩ => ⟨by rw [he, h]; rfl, hw⟩
theorem add_two_no (a b c : Int) (w : World) (p : Nat) (ha : Fits a) (hb : Fits b) (hc : Fits c) (h : addAll a [b, c] = none) (h0 : w.cell? ⟨p, 0, none⟩ = some (.int .i64 b)) (h1 : w.cell? ⟨p, 1, none⟩ = some (.int .i64 c)) :
    Calls Tryd.prog 13 #[.int .i64 a, .slice (some ⟨p, 0, none⟩) 2 2] w fun e w' => e = .returned (.tuple #[.int .i64 0, .bool false]) ∧ w = w' :=
  (add_two a b c w p ha hb hc h0 h1).mono fun _ _ ⟨he, hw⟩ => ⟨by rw [he, h]; rfl, hw⟩

theorem add_lone (a : Int) (w : World) :
    Calls Tryd.prog 13 #[.int .i64 a, .slice none 0 0] w fun e w' => e = .returned (.tuple #[.int .i64 a, .bool true]) ∧ w = w' :=
  (add_none a w).mono fun _ _ ⟨he, hw⟩ => ⟨he, hw⟩

theorem cell_two0 (w : World) (b c : Int) : (w.alloc (.cells #[.int .i64 b, .int .i64 c] 3)).cell? ⟨w.heap.size, 0, none⟩ = some (.int .i64 b) := by rw [World.cell?_alloc_new]; rfl
theorem cell_two1 (w : World) (b c : Int) : (w.alloc (.cells #[.int .i64 b, .int .i64 c] 3)).cell? ⟨w.heap.size, 1, none⟩ = some (.int .i64 c) := by rw [World.cell?_alloc_new]; rfl

/-- Both differences, whether they fit or not. -/
theorem sub_both (a b : Int) (ha : Fits a) (hb : Fits b) : ∃ (x : Int) (t : Bool),
    (∀ w, Calls Tryd.prog 15 #[.int .i64 a, .int .i64 b] w fun e w' => e = .returned (.tuple #[.int .i64 x, .bool t]) ∧ w = w') ∧
    (∀ w, Calls Tryd.prog 16 #[.int .i64 a, .int .i64 b] w fun e w' => e = .returned (.tuple #[.int .i64 x, .bool t]) ∧ w = w') := by
  by_cases h : Fits (a - b)
  · exact ⟨a - b, true, fun w => sub_yes a b w ha hb h, fun w => (refsub_yes a b w ha hb h).mono fun _ _ ⟨he, hw⟩ => ⟨he, hw⟩⟩
  · exact ⟨0, false, fun w => sub_no a b w ha hb h, fun w => refsub_no a b w ha hb h⟩

set_option maxHeartbeats 1600000 in
theorem numSums_walk (a b c : Int) (w : World) (ha : Fits a) (hb : Fits b) (hc : Fits c) (hL : Laid w) :
    Calls Tryd.prog 4 #[.int .i64 a, .int .i64 b, .int .i64 c] w fun e w' => e = .returned (.bool true) ∧ Below w.heap.size w w' := by
  obtain ⟨x, t, hs1, hs2⟩ := sub_both a b ha hb
  have H1 := Lib.hid hs1
  have H2 := Lib.hid hs2
  clear hs1 hs2
  by_cases h : Fits (a + b)
  · by_cases h2 : Fits (a + b + c)
    · have HA := Lib.hid (addAll_two_yes h h2)
      go_enter Tryd.func4, Tryd.ntmps4
      go_wp2_with fail
      refine (awake_any _ hL).mono ?_
      rintro e w1 ⟨rfl, hb1⟩
      go_wp2_with fail
      refine (add_one_yes a b _ _ ha hb h (cell_new _ _)).mono ?_
      rintro e w2 ⟨rfl, rfl⟩
      go_wp2_with fail
      refine (refadd_yes a b _ ha hb h).mono ?_
      rintro e w2 ⟨rfl, rfl⟩
      go_wp2_with fail
      refine (H1.out _).mono ?_
      rintro e w2 ⟨rfl, rfl⟩
      go_wp2_with fail
      refine (H2.out _).mono ?_
      rintro e w2 ⟨rfl, rfl⟩
      go_wp2_with fail
      refine (add_two_yes a b c _ _ ha hb hc HA.out (by simp) (by simp)).mono ?_
      rintro e w2 ⟨rfl, rfl⟩
      go_wp2_with fail
      refine (refadd_yes (a + b) c _ h hc h2).mono ?_
      rintro e w2 ⟨rfl, rfl⟩
      go_wp2_with fail
      refine (add_lone a _).mono ?_
      rintro e w2 ⟨rfl, rfl⟩
      go_wp2
      go_ret
      exact ⟨rfl, (hb1.alloc hb1.size _).alloc (by have := hb1.size; simp; omega) _⟩
    · have HA := Lib.hid (addAll_two_no h h2)
      go_enter Tryd.func4, Tryd.ntmps4
      go_wp2_with fail
      refine (awake_any _ hL).mono ?_
      rintro e w1 ⟨rfl, hb1⟩
      go_wp2_with fail
      refine (add_one_yes a b _ _ ha hb h (cell_new _ _)).mono ?_
      rintro e w2 ⟨rfl, rfl⟩
      go_wp2_with fail
      refine (refadd_yes a b _ ha hb h).mono ?_
      rintro e w2 ⟨rfl, rfl⟩
      go_wp2_with fail
      refine (H1.out _).mono ?_
      rintro e w2 ⟨rfl, rfl⟩
      go_wp2_with fail
      refine (H2.out _).mono ?_
      rintro e w2 ⟨rfl, rfl⟩
      go_wp2_with fail
      refine (add_two_no a b c _ _ ha hb hc HA.out (by simp) (by simp)).mono ?_
      rintro e w2 ⟨rfl, rfl⟩
      go_wp2_with fail
      refine (refadd_no (a + b) c _ h hc h2).mono ?_
      rintro e w2 ⟨rfl, rfl⟩
      go_wp2
      go_ret
      exact ⟨rfl, (hb1.alloc hb1.size _).alloc (by have := hb1.size; simp; omega) _⟩
  · have HA := Lib.hid (addAll_two_no1 (c := c) h)
    have hz : Fits (0 + c) := by rw [Int.zero_add]; exact hc
    go_enter Tryd.func4, Tryd.ntmps4
    go_wp2_with fail
    refine (awake_any _ hL).mono ?_
    rintro e w1 ⟨rfl, hb1⟩
    go_wp2_with fail
    refine (add_one_no a b _ _ ha hb h (cell_new _ _)).mono ?_
    rintro e w2 ⟨rfl, rfl⟩
    go_wp2_with fail
    refine (refadd_no a b _ ha hb h).mono ?_
    rintro e w2 ⟨rfl, rfl⟩
    go_wp2_with fail
    refine (H1.out _).mono ?_
    rintro e w2 ⟨rfl, rfl⟩
    go_wp2_with fail
    refine (H2.out _).mono ?_
    rintro e w2 ⟨rfl, rfl⟩
    go_wp2_with fail
    refine (add_two_no a b c _ _ ha hb hc HA.out (by simp) (by simp)).mono ?_
    rintro e w2 ⟨rfl, rfl⟩
    go_wp2_with fail
    refine (refadd_yes 0 c _ (by decide) hc hz).mono ?_
    rintro e w2 ⟨rfl, rfl⟩
    go_wp2
    go_ret
    exact ⟨rfl, (hb1.alloc hb1.size _).alloc (by have := hb1.size; simp; omega) _⟩
end Go.Proofs.YtgccdhlbepbpeaaDoor
