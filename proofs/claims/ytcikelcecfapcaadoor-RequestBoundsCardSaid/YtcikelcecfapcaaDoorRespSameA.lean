/-
  What the reference's Same answers: are two replies the same?
-/
import Derived.Test.YtcikelcecfapcaaDoorRespRight5
import Derived.Deep.RegionHeld3
namespace Go.Proofs.YtcikelcecfapcaaDoor
open Go.RowKit Rp

theorem bD {a w : World} (h : Below a.heap.size a w) : Below a.heap.size a w.drew := h.drew
theorem bA {a w : World} (h : Below a.heap.size a w) (o : Obj) : Below a.heap.size a (w.alloc o) := h.alloc h.size o
theorem bT {a w w' : World} (h : Below a.heap.size a w) (hb : Below w.heap.size w w') : Below a.heap.size a w' := h.trans (hb.mono h.size)

theorem strs_eq (s t : List UInt8) : ((bs s).toList == (bs t).toList) = (s == t) := by rw [bs_toList, bs_toList]

set_option maxRecDepth 20000 in
set_option maxHeartbeats 400000 in
theorem rs_k (k k' n n' : Int) (L L' c c' : Nat) (p p' : Option Addr) (S S' : ByteArray) (w : World) (h : (k != k') = true) :
    Calls Tryd.prog 12 #[.agg #[.int .i64 k, .string S, .int .i64 n, .slice p L c], .agg #[.int .i64 k', .string S', .int .i64 n', .slice p' L' c']] w fun e w' => e = .returned (.bool false) ∧ Below w.heap.size w w' := by
  go_enter Tryd.func12, Tryd.ntmps12
  go_wp2
  go_ret
  exact ⟨rfl, bA (bA (Below.refl _ _) _) _⟩

set_option maxRecDepth 20000 in
set_option maxHeartbeats 400000 in
theorem rs_s (k n n' : Int) (L L' c c' : Nat) (p p' : Option Addr) (S S' : ByteArray) (w : World) (h : (S.toList == S'.toList) = false) :
    Calls Tryd.prog 12 #[.agg #[.int .i64 k, .string S, .int .i64 n, .slice p L c], .agg #[.int .i64 k, .string S', .int .i64 n', .slice p' L' c']] w fun e w' => e = .returned (.bool false) ∧ Below w.heap.size w w' := by
  go_enter Tryd.func12, Tryd.ntmps12
  go_wp2
  go_ret
  exact ⟨rfl, bA (bA (Below.refl _ _) _) _⟩

set_option maxRecDepth 20000 in
set_option maxHeartbeats 400000 in
theorem rs_n (k n n' : Int) (L L' c c' : Nat) (p p' : Option Addr) (S : ByteArray) (w : World) (h : (n != n') = true) :
    Calls Tryd.prog 12 #[.agg #[.int .i64 k, .string S, .int .i64 n, .slice p L c], .agg #[.int .i64 k, .string S, .int .i64 n', .slice p' L' c']] w fun e w' => e = .returned (.bool false) ∧ Below w.heap.size w w' := by
  go_enter Tryd.func12, Tryd.ntmps12
  go_wp2
  go_ret
  exact ⟨rfl, bA (bA (Below.refl _ _) _) _⟩

set_option maxRecDepth 20000 in
set_option maxHeartbeats 400000 in
theorem rs_l (k n : Int) (L L' c c' : Nat) (p p' : Option Addr) (S : ByteArray) (w : World) (h2 : ((L : Int) != (L' : Int)) = true) :
    Calls Tryd.prog 12 #[.agg #[.int .i64 k, .string S, .int .i64 n, .slice p L c], .agg #[.int .i64 k, .string S, .int .i64 n, .slice p' L' c']] w fun e w' => e = .returned (.bool false) ∧ Below w.heap.size w w' := by
  go_enter Tryd.func12, Tryd.ntmps12
  go_wp2
  go_ret
  exact ⟨rfl, bA (bA (Below.refl _ _) _) _⟩
end Go.Proofs.YtcikelcecfapcaaDoor
