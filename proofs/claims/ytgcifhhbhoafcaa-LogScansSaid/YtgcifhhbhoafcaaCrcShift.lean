/-
  What crc.shift and crc.nibbles answer.
-/
import Derived.Test.YtgcifhhbhoafcaaChecked
import Derived.Test.YtgcifhhbhoafcaaCrcPure
import Derived.WalkKit
import Derived.LoopTactic
import Derived.Below
import Derived.Lib.Hide
import Derived.Lib.Builder
import Derived.IntWalk
import Derived.BigQuiet
import Derived.Deep.QuietTactic
import Derived.Laws.Bits64b
import Derived.Laws.BitsAllLaws
namespace Go.Proofs.Ytgcifhhbhoafcaa
open Go.RowKit

set_option maxHeartbeats 400000 in
theorem shift_any (x : Nat) (hx : x < 4294967296) (w : World) :
    Calls Try.prog 78 #[.int .u32 x] w fun e w' => e = .returned (.int .u32 (Crc.sh x : Nat)) ∧ w = w' := by
  have ha : bits .and .u32 (x : Int) 1 = ((x % 2 : Nat) : Int) := (u32_and_nat x 1 hx (by decide)).trans (by rw [nat_mask1])
  obtain ⟨y, hy⟩ : ∃ y, y = x / 2 := ⟨_, rfl⟩
  have hd : (x : Int) / 2 = (y : Int) := by omega
  have hxo : bits .xor .u32 (y : Int) 3988292384 = ((y ^^^ Crc.poly : Nat) : Int) := u32_xor_nat y 3988292384 (by omega) (by decide)
  have hS : Crc.sh x = if x % 2 = 1 then y ^^^ Crc.poly else y := by rw [hy]; rfl
  rcases Nat.mod_two_eq_zero_or_one x with h | h
  · rw [h] at ha
    rw [hS, if_neg (by omega)]
    clear hS hy h
    go_enter Try.func78, Try.ntmps78
    go_wp2
    go_ret
    exact ⟨rfl, rfl⟩
  · rw [h] at ha
    rw [hS, if_pos h]
    clear hS hy h
    go_enter Try.func78, Try.ntmps78
    go_wp2
    go_ret
    exact ⟨rfl, rfl⟩
end Go.Proofs.Ytgcifhhbhoafcaa
