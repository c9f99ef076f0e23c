/-
  What the reference's Right answers: is a reply right?
-/
import Derived.Test.YtcikelcecfapcaaDoorRespMem
import Derived.Lib.Builder
import Derived.Lib.Strings
namespace Go.Proofs.YtcikelcecfapcaaDoor
open Go.RowKit Rp

theorem bs_toList (l : List UInt8) : (bs l).toList = l := by rw [Lib.toList_data]; rfl
theorem bytes_ne (s : List UInt8) (h : s ≠ []) : (bs s).toList.isEmpty = false := by
  rw [bs_toList]
  cases s with
  | nil => exact absurd rfl h
  | cons _ _ => rfl
theorem bytes_nil : (bs []).toList.isEmpty = true := by rw [bs_toList]; rfl

set_option maxRecDepth 20000 in
set_option maxHeartbeats 400000 in
theorem rr_neg (k : Int) (n : Int) (L : Nat) (c : Nat) (p : Option Addr) (S : ByteArray) (d : Int) (w : World) (h1 : decide (k < 0) = true) :
    Calls Tryd.prog 15 #[.agg #[.int .i64 k, .string S, .int .i64 n, .slice p L c], .int .i64 d] w fun e w' => e = .returned (.bool false) ∧ Below w.heap.size w w' := by
  go_enter Tryd.func15, Tryd.ntmps15
  go_wp2
  all_goals
    go_ret
    exact ⟨rfl, (Below.refl _ _).alloc (Nat.le_refl _) _⟩

set_option maxRecDepth 20000 in
set_option maxHeartbeats 400000 in
theorem rr_big (k : Int) (n : Int) (L : Nat) (c : Nat) (p : Option Addr) (S : ByteArray) (d : Int) (w : World) (h1 : decide (k < 0) = false) (h2 : decide (5 < k) = true) :
    Calls Tryd.prog 15 #[.agg #[.int .i64 k, .string S, .int .i64 n, .slice p L c], .int .i64 d] w fun e w' => e = .returned (.bool false) ∧ Below w.heap.size w w' := by
  go_enter Tryd.func15, Tryd.ntmps15
  go_wp2
  all_goals
    go_ret
    exact ⟨rfl, (Below.refl _ _).alloc (Nat.le_refl _) _⟩

set_option maxRecDepth 20000 in
set_option maxHeartbeats 400000 in
theorem rr_0l  (n : Int) (L : Nat) (c : Nat) (p : Option Addr) (S : ByteArray) (d : Int) (w : World) (h1 : decide (0 < L) = true) :
    Calls Tryd.prog 15 #[.agg #[.int .i64 0, .string S, .int .i64 n, .slice p L c], .int .i64 d] w fun e w' => e = .returned (.bool false) ∧ Below w.heap.size w w' := by
  go_enter Tryd.func15, Tryd.ntmps15
  go_wp2
  all_goals
    go_ret
    exact ⟨rfl, (Below.refl _ _).alloc (Nat.le_refl _) _⟩

set_option maxRecDepth 20000 in
set_option maxHeartbeats 400000 in
theorem rr_1l  (n : Int) (L : Nat) (c : Nat) (p : Option Addr) (S : ByteArray) (d : Int) (w : World) (h1 : decide (0 < L) = true) :
    Calls Tryd.prog 15 #[.agg #[.int .i64 1, .string S, .int .i64 n, .slice p L c], .int .i64 d] w fun e w' => e = .returned (.bool false) ∧ Below w.heap.size w w' := by
  go_enter Tryd.func15, Tryd.ntmps15
  go_wp2
  all_goals
    go_ret
    exact ⟨rfl, (Below.refl _ _).alloc (Nat.le_refl _) _⟩

set_option maxRecDepth 20000 in
set_option maxHeartbeats 400000 in
theorem rr_2l  (n : Int) (L : Nat) (c : Nat) (p : Option Addr) (S : ByteArray) (d : Int) (w : World) (h1 : decide (0 < L) = true) :
    Calls Tryd.prog 15 #[.agg #[.int .i64 2, .string S, .int .i64 n, .slice p L c], .int .i64 d] w fun e w' => e = .returned (.bool false) ∧ Below w.heap.size w w' := by
  go_enter Tryd.func15, Tryd.ntmps15
  go_wp2
  all_goals
    go_ret
    exact ⟨rfl, (Below.refl _ _).alloc (Nat.le_refl _) _⟩

set_option maxRecDepth 20000 in
set_option maxHeartbeats 400000 in
theorem rr_3l  (n : Int) (L : Nat) (c : Nat) (p : Option Addr) (S : ByteArray) (d : Int) (w : World) (h1 : decide (0 < L) = true) :
    Calls Tryd.prog 15 #[.agg #[.int .i64 3, .string S, .int .i64 n, .slice p L c], .int .i64 d] w fun e w' => e = .returned (.bool false) ∧ Below w.heap.size w w' := by
  go_enter Tryd.func15, Tryd.ntmps15
  go_wp2
  all_goals
    go_ret
    exact ⟨rfl, (Below.refl _ _).alloc (Nat.le_refl _) _⟩

set_option maxRecDepth 20000 in
set_option maxHeartbeats 400000 in
theorem rr_4l  (n : Int) (L : Nat) (c : Nat) (p : Option Addr) (S : ByteArray) (d : Int) (w : World) (h1 : decide (0 < L) = true) :
    Calls Tryd.prog 15 #[.agg #[.int .i64 4, .string S, .int .i64 n, .slice p L c], .int .i64 d] w fun e w' => e = .returned (.bool false) ∧ Below w.heap.size w w' := by
  go_enter Tryd.func15, Tryd.ntmps15
  go_wp2
  all_goals
    go_ret
    exact ⟨rfl, (Below.refl _ _).alloc (Nat.le_refl _) _⟩

set_option maxRecDepth 20000 in
set_option maxHeartbeats 400000 in
theorem rr_0n  (n : Int) (c : Nat) (p : Option Addr) (S : ByteArray) (d : Int) (w : World) (h2 : (n != 0) = true) :
    Calls Tryd.prog 15 #[.agg #[.int .i64 0, .string S, .int .i64 n, .slice p 0 c], .int .i64 d] w fun e w' => e = .returned (.bool false) ∧ Below w.heap.size w w' := by
  go_enter Tryd.func15, Tryd.ntmps15
  go_wp2
  all_goals
    go_ret
    exact ⟨rfl, (Below.refl _ _).alloc (Nat.le_refl _) _⟩

set_option maxRecDepth 20000 in
set_option maxHeartbeats 400000 in
theorem rr_1n  (n : Int) (c : Nat) (p : Option Addr) (S : ByteArray) (d : Int) (w : World) (h2 : (n != 0) = true) :
    Calls Tryd.prog 15 #[.agg #[.int .i64 1, .string S, .int .i64 n, .slice p 0 c], .int .i64 d] w fun e w' => e = .returned (.bool false) ∧ Below w.heap.size w w' := by
  go_enter Tryd.func15, Tryd.ntmps15
  go_wp2
  all_goals
    go_ret
    exact ⟨rfl, (Below.refl _ _).alloc (Nat.le_refl _) _⟩

set_option maxRecDepth 20000 in
set_option maxHeartbeats 400000 in
theorem rr_3n  (n : Int) (c : Nat) (p : Option Addr) (S : ByteArray) (d : Int) (w : World) (h2 : (n != 0) = true) :
    Calls Tryd.prog 15 #[.agg #[.int .i64 3, .string S, .int .i64 n, .slice p 0 c], .int .i64 d] w fun e w' => e = .returned (.bool false) ∧ Below w.heap.size w w' := by
  go_enter Tryd.func15, Tryd.ntmps15
  go_wp2
  all_goals
    go_ret
    exact ⟨rfl, (Below.refl _ _).alloc (Nat.le_refl _) _⟩

set_option maxRecDepth 20000 in
set_option maxHeartbeats 400000 in
theorem rr_4n  (n : Int) (c : Nat) (p : Option Addr) (S : ByteArray) (d : Int) (w : World) (h2 : (n != 0) = true) :
    Calls Tryd.prog 15 #[.agg #[.int .i64 4, .string S, .int .i64 n, .slice p 0 c], .int .i64 d] w fun e w' => e = .returned (.bool false) ∧ Below w.heap.size w w' := by
  go_enter Tryd.func15, Tryd.ntmps15
  go_wp2
  all_goals
    go_ret
    exact ⟨rfl, (Below.refl _ _).alloc (Nat.le_refl _) _⟩

set_option maxRecDepth 20000 in
set_option maxHeartbeats 400000 in
theorem rr_5n  (n : Int) (L : Nat) (c : Nat) (p : Option Addr) (S : ByteArray) (d : Int) (w : World) (h2 : (n != 0) = true) :
    Calls Tryd.prog 15 #[.agg #[.int .i64 5, .string S, .int .i64 n, .slice p L c], .int .i64 d] w fun e w' => e = .returned (.bool false) ∧ Below w.heap.size w w' := by
  go_enter Tryd.func15, Tryd.ntmps15
  go_wp2
  all_goals
    go_ret
    exact ⟨rfl, (Below.refl _ _).alloc (Nat.le_refl _) _⟩

set_option maxRecDepth 20000 in
set_option maxHeartbeats 400000 in
theorem rr_2s  (n : Int) (c : Nat) (p : Option Addr) (S : ByteArray) (d : Int) (w : World) (h3 : S.toList.isEmpty = false) :
    Calls Tryd.prog 15 #[.agg #[.int .i64 2, .string S, .int .i64 n, .slice p 0 c], .int .i64 d] w fun e w' => e = .returned (.bool false) ∧ Below w.heap.size w w' := by
  go_enter Tryd.func15, Tryd.ntmps15
  go_wp2
  all_goals
    go_ret
    exact ⟨rfl, (Below.refl _ _).alloc (Nat.le_refl _) _⟩

set_option maxRecDepth 20000 in
set_option maxHeartbeats 400000 in
theorem rr_4s  (c : Nat) (p : Option Addr) (S : ByteArray) (d : Int) (w : World) (h3 : S.toList.isEmpty = false) :
    Calls Tryd.prog 15 #[.agg #[.int .i64 4, .string S, .int .i64 0, .slice p 0 c], .int .i64 d] w fun e w' => e = .returned (.bool false) ∧ Below w.heap.size w w' := by
  go_enter Tryd.func15, Tryd.ntmps15
  go_wp2
  all_goals
    go_ret
    exact ⟨rfl, (Below.refl _ _).alloc (Nat.le_refl _) _⟩

set_option maxRecDepth 20000 in
set_option maxHeartbeats 400000 in
theorem rr_5s  (L : Nat) (c : Nat) (p : Option Addr) (S : ByteArray) (d : Int) (w : World) (h3 : S.toList.isEmpty = false) :
    Calls Tryd.prog 15 #[.agg #[.int .i64 5, .string S, .int .i64 0, .slice p L c], .int .i64 d] w fun e w' => e = .returned (.bool false) ∧ Below w.heap.size w w' := by
  go_enter Tryd.func15, Tryd.ntmps15
  go_wp2
  all_goals
    go_ret
    exact ⟨rfl, (Below.refl _ _).alloc (Nat.le_refl _) _⟩
end Go.Proofs.YtcikelcecfapcaaDoor
