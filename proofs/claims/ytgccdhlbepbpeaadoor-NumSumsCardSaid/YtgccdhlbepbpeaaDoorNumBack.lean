/-
  The walk of the statement NumBack: for every two 64-bit integers it answers true. Conditions: strconv's variables read as they are laid.
-/
import Derived.Test.YtgccdhlbepbpeaaDoorNumAwake
namespace Go.Proofs.YtgccdhlbepbpeaaDoor
open Go.RowKit

theorem below_cell {w w1 : World} {p : Addr} {v : Value} (hb : Below w.heap.size w w1) (h : w.cell? p = some v) (hp : p.block < w.heap.size) : w1.cell? p = some v := by rw [hb.cell hp]; exact h

theorem addAll_one_yes {a b : Int} (h : Fits (a + b)) : addAll a [b] = some (a + b) := by simp [addAll, h]
theorem addAll_one_no {a b : Int} (h : ¬ Fits (a + b)) : addAll a [b] = none := by simp [addAll, h]

/-- num.Add with one further number, in a new block of the caller's. -/
theorem add_one_yes (a b : Int) (c : World) (p : Nat) (ha : Fits a) (hb : Fits b) (h : Fits (a + b)) (hc : c.cell? ⟨p, 0, none⟩ = some (.int .i64 b)) :
    Calls Tryd.prog 13 #[.int .i64 a, .slice (some ⟨p, 0, none⟩) 1 1] c fun e w' => e = .returned (.tuple #[.int .i64 (a + b), .bool true]) ∧ c = w' :=
  (add_some a [b] p c ha (by simp; exact hb) (by simp) (fun k hk => by
    have : k = 0 := by simp at hk; exact hk
    subst this
    exact hc)).mono fun _ _ ⟨he, hw⟩ => ⟨by rw [he, addAll_one_yes h]; rfl, hw⟩
theorem add_one_no (a b : Int) (c : World) (p : Nat) (ha : Fits a) (hb : Fits b) (h : ¬ Fits (a + b)) (hc : c.cell? ⟨p, 0, none⟩ = some (.int .i64 b)) :
    Calls Tryd.prog 13 #[.int .i64 a, .slice (some ⟨p, 0, none⟩) 1 1] c fun e w' => e = .returned (.tuple #[.int .i64 0, .bool false]) ∧ c = w' :=
  (add_some a [b] p c ha (by simp; exact hb) (by simp) (fun k hk => by
    have : k = 0 := by simp at hk; exact hk
    subst this
    exact hc)).mono fun _ _ ⟨he, hw⟩ => ⟨by rw [he, addAll_one_no h]; rfl, hw⟩

theorem cell_new (w : World) (b : Int) : (w.alloc (.cells #[.int .i64 b] 3)).cell? ⟨w.heap.size, 0, none⟩ = some (.int .i64 b) := by rw [World.cell?_alloc_new]; rfl

set_option maxHeartbeats 1600000 in
theorem numBack_walk (a b : Int) (w : World) (ha : Fits a) (hb : Fits b) (hL : Laid w) :
    Calls Tryd.prog 6 #[.int .i64 a, .int .i64 b] w fun e w' => e = .returned (.bool true) ∧ Below w.heap.size w w' := by
  by_cases h : Fits (a + b)
  · have h2 : Fits (b + a) := by rw [Int.add_comm]; exact h
    have h3 : Fits (a + b - b) := by rw [Int.add_sub_cancel]; exact ha
    go_enter Tryd.func6, Tryd.ntmps6
    go_wp2_with fail
    refine (awake_any _ hL).mono ?_
    rintro e w1 ⟨rfl, hb1⟩
    go_wp2_with fail
    refine (add_one_yes a b _ _ ha hb h (cell_new _ _)).mono ?_
    rintro e w2 ⟨rfl, rfl⟩
    go_wp2_with fail
    refine (add_one_yes b a _ _ hb ha h2 (by simp)).mono ?_
    rw [Int.add_comm b a]
    rintro e w2 ⟨rfl, rfl⟩
    go_wp2_with fail
    refine (sub_yes (a + b) b _ h hb h3).mono ?_
    rw [Int.add_sub_cancel]
    rintro e w2 ⟨rfl, rfl⟩
    go_wp2
    go_ret
    exact ⟨rfl, (hb1.alloc hb1.size _).alloc (by have := hb1.size; simp; omega) _⟩
  · have h2 : ¬ Fits (b + a) := by rw [Int.add_comm]; exact h
    go_enter Tryd.func6, Tryd.ntmps6
    go_wp2_with fail
    refine (awake_any _ hL).mono ?_
    rintro e w1 ⟨rfl, hb1⟩
    go_wp2_with fail
    refine (add_one_no a b _ _ ha hb h (cell_new _ _)).mono ?_
    rintro e w2 ⟨rfl, rfl⟩
    go_wp2_with fail
    refine (add_one_no b a _ _ hb ha h2 (by simp)).mono ?_
    rintro e w2 ⟨rfl, rfl⟩
    go_wp2
    go_ret
    exact ⟨rfl, (hb1.alloc hb1.size _).alloc (by have := hb1.size; simp; omega) _⟩
end Go.Proofs.YtgccdhlbepbpeaaDoor
