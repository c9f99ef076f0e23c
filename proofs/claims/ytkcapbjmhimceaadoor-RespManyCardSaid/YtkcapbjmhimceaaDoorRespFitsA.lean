/-
  What resp.fits answers of replies that are no arrays.
-/
import Derived.Test.YtkcapbjmhimceaaDoorRespAny
import Derived.Test.YtkcapbjmhimceaaDoorRespSameA
namespace Go.Proofs.YtkcapbjmhimceaaDoor
open Go.RowKit Rp

theorem len_zero {l : List Rep} (h : l ≠ []) : ((l.length : Int) == 0) = false := beq_eq_false_iff_ne.2 (by have := List.length_pos_iff.2 h; omega)

set_option maxRecDepth 20000 in
set_option maxHeartbeats 400000 in
theorem rf_off (k : Int) (n : Int) (L : Nat) (c : Nat) (p : Option Addr) (S : ByteArray) (d : Int) (w : World) (h0 : (k == 0) = false) (h1 : (k == 1) = false) (h2 : (k == 2) = false) (h3 : (k == 3) = false) (h4 : (k == 4) = false) (h5 : (k == 5) = false) :
    Calls Tryd.prog 29 #[.agg #[.int .i64 k, .string S, .int .i64 n, .slice p L c], .int .i64 d] w fun e w' => e = .returned (.bool false) ∧ Below w.heap.size w w' := by
  go_enter Tryd.func29, Tryd.ntmps29
  go_wp2
  all_goals
    go_ret
    exact ⟨rfl, bA (bA (Below.refl _ _) _) _⟩

set_option maxRecDepth 20000 in
set_option maxHeartbeats 400000 in
theorem rf_0n (n : Int) (L : Nat) (c : Nat) (p : Option Addr) (S : ByteArray) (d : Int) (w : World) (h2 : (n == 0) = false) :
    Calls Tryd.prog 29 #[.agg #[.int .i64 0, .string S, .int .i64 n, .slice p L c], .int .i64 d] w fun e w' => e = .returned (.bool false) ∧ Below w.heap.size w w' := by
  go_enter Tryd.func29, Tryd.ntmps29
  go_wp2
  all_goals
    go_ret
    exact ⟨rfl, bA (bA (Below.refl _ _) _) _⟩

set_option maxRecDepth 20000 in
set_option maxHeartbeats 400000 in
theorem rf_0l (L : Nat) (c : Nat) (p : Option Addr) (S : ByteArray) (d : Int) (w : World) (h1 : ((L : Int) == 0) = false) :
    Calls Tryd.prog 29 #[.agg #[.int .i64 0, .string S, .int .i64 0, .slice p L c], .int .i64 d] w fun e w' => e = .returned (.bool false) ∧ Below w.heap.size w w' := by
  go_enter Tryd.func29, Tryd.ntmps29
  go_wp2
  all_goals
    go_ret
    exact ⟨rfl, bA (bA (Below.refl _ _) _) _⟩

set_option maxRecDepth 20000 in
set_option maxHeartbeats 400000 in
theorem rf_1n (n : Int) (L : Nat) (c : Nat) (p : Option Addr) (S : ByteArray) (d : Int) (w : World) (h2 : (n == 0) = false) :
    Calls Tryd.prog 29 #[.agg #[.int .i64 1, .string S, .int .i64 n, .slice p L c], .int .i64 d] w fun e w' => e = .returned (.bool false) ∧ Below w.heap.size w w' := by
  go_enter Tryd.func29, Tryd.ntmps29
  go_wp2
  all_goals
    go_ret
    exact ⟨rfl, bA (bA (Below.refl _ _) _) _⟩

set_option maxRecDepth 20000 in
set_option maxHeartbeats 400000 in
theorem rf_1l (L : Nat) (c : Nat) (p : Option Addr) (S : ByteArray) (d : Int) (w : World) (h1 : ((L : Int) == 0) = false) :
    Calls Tryd.prog 29 #[.agg #[.int .i64 1, .string S, .int .i64 0, .slice p L c], .int .i64 d] w fun e w' => e = .returned (.bool false) ∧ Below w.heap.size w w' := by
  go_enter Tryd.func29, Tryd.ntmps29
  go_wp2
  all_goals
    go_ret
    exact ⟨rfl, bA (bA (Below.refl _ _) _) _⟩

set_option maxRecDepth 20000 in
set_option maxHeartbeats 400000 in
theorem rf_3n (n : Int) (L : Nat) (c : Nat) (p : Option Addr) (S : ByteArray) (d : Int) (w : World) (h2 : (n == 0) = false) :
    Calls Tryd.prog 29 #[.agg #[.int .i64 3, .string S, .int .i64 n, .slice p L c], .int .i64 d] w fun e w' => e = .returned (.bool false) ∧ Below w.heap.size w w' := by
  go_enter Tryd.func29, Tryd.ntmps29
  go_wp2
  all_goals
    go_ret
    exact ⟨rfl, bA (bA (Below.refl _ _) _) _⟩

set_option maxRecDepth 20000 in
set_option maxHeartbeats 400000 in
theorem rf_3l (L : Nat) (c : Nat) (p : Option Addr) (S : ByteArray) (d : Int) (w : World) (h1 : ((L : Int) == 0) = false) :
    Calls Tryd.prog 29 #[.agg #[.int .i64 3, .string S, .int .i64 0, .slice p L c], .int .i64 d] w fun e w' => e = .returned (.bool false) ∧ Below w.heap.size w w' := by
  go_enter Tryd.func29, Tryd.ntmps29
  go_wp2
  all_goals
    go_ret
    exact ⟨rfl, bA (bA (Below.refl _ _) _) _⟩

set_option maxRecDepth 20000 in
set_option maxHeartbeats 400000 in
theorem rf_0 (c : Nat) (p : Option Addr) (S : ByteArray) (d : Int) (w : World) (hs : S.size < 4294967281) (z : Bool) (hz : calm S.data.toList = z) :
    Calls Tryd.prog 29 #[.agg #[.int .i64 0, .string S, .int .i64 0, .slice p 0 c], .int .i64 d] w fun e w' => e = .returned (.bool z) ∧ Below w.heap.size w w' := by
  have HC := Lib.hid (fun W => contains_any S hs W)
  rw [hz] at HC
  clear hz
  go_enter Tryd.func29, Tryd.ntmps29
  go_wp2_with fail
  refine (HC.out _).mono ?_
  rintro e w1 ⟨rfl, hb⟩
  cases z
  all_goals
    go_wp2
    go_ret
    exact ⟨rfl, bT (bA (bA (Below.refl _ _) _) _) hb⟩

set_option maxRecDepth 20000 in
set_option maxHeartbeats 400000 in
theorem rf_1 (c : Nat) (p : Option Addr) (S : ByteArray) (d : Int) (w : World) (hs : S.size < 4294967281) (z : Bool) (hz : calm S.data.toList = z) :
    Calls Tryd.prog 29 #[.agg #[.int .i64 1, .string S, .int .i64 0, .slice p 0 c], .int .i64 d] w fun e w' => e = .returned (.bool z) ∧ Below w.heap.size w w' := by
  have HC := Lib.hid (fun W => contains_any S hs W)
  rw [hz] at HC
  clear hz
  go_enter Tryd.func29, Tryd.ntmps29
  go_wp2_with fail
  refine (HC.out _).mono ?_
  rintro e w1 ⟨rfl, hb⟩
  cases z
  all_goals
    go_wp2
    go_ret
    exact ⟨rfl, bT (bA (bA (Below.refl _ _) _) _) hb⟩

set_option maxRecDepth 20000 in
set_option maxHeartbeats 400000 in
theorem rf_2s (n : Int) (L : Nat) (c : Nat) (p : Option Addr) (S : ByteArray) (d : Int) (w : World) (h3 : S.toList.isEmpty = false) :
    Calls Tryd.prog 29 #[.agg #[.int .i64 2, .string S, .int .i64 n, .slice p L c], .int .i64 d] w fun e w' => e = .returned (.bool false) ∧ Below w.heap.size w w' := by
  go_enter Tryd.func29, Tryd.ntmps29
  go_wp2
  all_goals
    go_ret
    exact ⟨rfl, bA (bA (Below.refl _ _) _) _⟩

set_option maxRecDepth 20000 in
set_option maxHeartbeats 400000 in
theorem rf_2l (n : Int) (L : Nat) (c : Nat) (p : Option Addr) (d : Int) (w : World) (h1 : ((L : Int) == 0) = false) :
    Calls Tryd.prog 29 #[.agg #[.int .i64 2, .string (bs []), .int .i64 n, .slice p L c], .int .i64 d] w fun e w' => e = .returned (.bool false) ∧ Below w.heap.size w w' := by
  have hn := bytes_nil
  go_enter Tryd.func29, Tryd.ntmps29
  go_wp2
  all_goals
    go_ret
    exact ⟨rfl, bA (bA (Below.refl _ _) _) _⟩

set_option maxRecDepth 20000 in
set_option maxHeartbeats 400000 in
theorem rf_2 (n : Int) (c : Nat) (p : Option Addr) (d : Int) (w : World) :
    Calls Tryd.prog 29 #[.agg #[.int .i64 2, .string (bs []), .int .i64 n, .slice p 0 c], .int .i64 d] w fun e w' => e = .returned (.bool true) ∧ Below w.heap.size w w' := by
  have hn := bytes_nil
  go_enter Tryd.func29, Tryd.ntmps29
  go_wp2
  all_goals
    go_ret
    exact ⟨rfl, bA (bA (Below.refl _ _) _) _⟩

set_option maxRecDepth 20000 in
set_option maxHeartbeats 400000 in
theorem rf_3 (c : Nat) (p : Option Addr) (S : ByteArray) (d : Int) (w : World) :
    Calls Tryd.prog 29 #[.agg #[.int .i64 3, .string S, .int .i64 0, .slice p 0 c], .int .i64 d] w fun e w' => e = .returned (.bool true) ∧ Below w.heap.size w w' := by
  go_enter Tryd.func29, Tryd.ntmps29
  go_wp2
  all_goals
    go_ret
    exact ⟨rfl, bA (bA (Below.refl _ _) _) _⟩

set_option maxRecDepth 20000 in
set_option maxHeartbeats 400000 in
theorem rf_4s (n : Int) (L : Nat) (c : Nat) (p : Option Addr) (S : ByteArray) (d : Int) (w : World) (h3 : S.toList.isEmpty = false) :
    Calls Tryd.prog 29 #[.agg #[.int .i64 4, .string S, .int .i64 n, .slice p L c], .int .i64 d] w fun e w' => e = .returned (.bool false) ∧ Below w.heap.size w w' := by
  go_enter Tryd.func29, Tryd.ntmps29
  go_wp2
  all_goals
    go_ret
    exact ⟨rfl, bA (bA (Below.refl _ _) _) _⟩

set_option maxRecDepth 20000 in
set_option maxHeartbeats 400000 in
theorem rf_4n (n : Int) (L : Nat) (c : Nat) (p : Option Addr) (d : Int) (w : World) (h2 : (n == 0) = false) :
    Calls Tryd.prog 29 #[.agg #[.int .i64 4, .string (bs []), .int .i64 n, .slice p L c], .int .i64 d] w fun e w' => e = .returned (.bool false) ∧ Below w.heap.size w w' := by
  have hn := bytes_nil
  go_enter Tryd.func29, Tryd.ntmps29
  go_wp2
  all_goals
    go_ret
    exact ⟨rfl, bA (bA (Below.refl _ _) _) _⟩

set_option maxRecDepth 20000 in
set_option maxHeartbeats 400000 in
theorem rf_4l (L : Nat) (c : Nat) (p : Option Addr) (d : Int) (w : World) (h1 : ((L : Int) == 0) = false) :
    Calls Tryd.prog 29 #[.agg #[.int .i64 4, .string (bs []), .int .i64 0, .slice p L c], .int .i64 d] w fun e w' => e = .returned (.bool false) ∧ Below w.heap.size w w' := by
  have hn := bytes_nil
  go_enter Tryd.func29, Tryd.ntmps29
  go_wp2
  all_goals
    go_ret
    exact ⟨rfl, bA (bA (Below.refl _ _) _) _⟩

set_option maxRecDepth 20000 in
set_option maxHeartbeats 400000 in
theorem rf_4 (c : Nat) (p : Option Addr) (d : Int) (w : World) :
    Calls Tryd.prog 29 #[.agg #[.int .i64 4, .string (bs []), .int .i64 0, .slice p 0 c], .int .i64 d] w fun e w' => e = .returned (.bool true) ∧ Below w.heap.size w w' := by
  have hn := bytes_nil
  go_enter Tryd.func29, Tryd.ntmps29
  go_wp2
  all_goals
    go_ret
    exact ⟨rfl, bA (bA (Below.refl _ _) _) _⟩

set_option maxRecDepth 20000 in
set_option maxHeartbeats 400000 in
theorem rf_5s (n : Int) (L : Nat) (c : Nat) (p : Option Addr) (S : ByteArray) (d : Int) (w : World) (h3 : S.toList.isEmpty = false) :
    Calls Tryd.prog 29 #[.agg #[.int .i64 5, .string S, .int .i64 n, .slice p L c], .int .i64 d] w fun e w' => e = .returned (.bool false) ∧ Below w.heap.size w w' := by
  go_enter Tryd.func29, Tryd.ntmps29
  go_wp2
  all_goals
    go_ret
    exact ⟨rfl, bA (bA (Below.refl _ _) _) _⟩

set_option maxRecDepth 20000 in
set_option maxHeartbeats 400000 in
theorem rf_5n (n : Int) (L : Nat) (c : Nat) (p : Option Addr) (d : Int) (w : World) (h2 : (n == 0) = false) :
    Calls Tryd.prog 29 #[.agg #[.int .i64 5, .string (bs []), .int .i64 n, .slice p L c], .int .i64 d] w fun e w' => e = .returned (.bool false) ∧ Below w.heap.size w w' := by
  have hn := bytes_nil
  go_enter Tryd.func29, Tryd.ntmps29
  go_wp2
  all_goals
    go_ret
    exact ⟨rfl, bA (bA (Below.refl _ _) _) _⟩

set_option maxRecDepth 20000 in
set_option maxHeartbeats 400000 in
theorem rf_5z (L c : Nat) (p : Option Addr) (w : World) :
    Calls Tryd.prog 29 #[.agg #[.int .i64 5, .string (bs []), .int .i64 0, .slice p L c], .int .i64 0] w fun e w' => e = .returned (.bool false) ∧ Below w.heap.size w w' := by
  have hn := bytes_nil
  go_enter Tryd.func29, Tryd.ntmps29
  go_wp2
  all_goals
    go_ret
    exact ⟨rfl, bA (bA (Below.refl _ _) _) _⟩
end Go.Proofs.YtkcapbjmhimceaaDoor
