/-
  The walk of the statement NumOrder: for every two 64-bit integers it answers true. Conditions: strconv's variables read as they are laid.
-/
import Derived.Test.YtgccdhlbepbpeaaDoorNumAwake
import Derived.Test.YtgccdhlbepbpeaaDoorNumLess
namespace Go.Proofs.YtgccdhlbepbpeaaDoor
open Go.RowKit

set_option maxHeartbeats 800000 in
theorem numOrder_aneg (a b : Int) (w : World) (ha : Fits a) (hb : Fits b) (t : Bool) (e1 : ((numText a).toList == (numText b).toList) = t) (e2 : (a == b) = t) (hc : a < 0) (hL : Laid w) :
    Calls Tryd.prog 7 #[.int .i64 a, .int .i64 b] w fun e w' => e = .returned (.bool true) ∧ Below w.heap.size w w' := by
  go_enter Tryd.func7, Tryd.ntmps7
  go_wp2_with fail
  refine (awake_any _ hL).mono ?_
  rintro e w1 ⟨rfl, hb1⟩
  have hL1 := hL.on hb1
  go_wp2_with fail
  refine (print_any a ha _ hL1).mono ?_
  rintro e w2 ⟨rfl, hb2⟩
  have hL2 := hL1.on hb2
  go_wp2_with fail
  refine (print_any b hb _ hL2).mono ?_
  rintro e w3 ⟨rfl, hb3⟩
  have c2 := hb1.trans (hb2.mono hb1.size)
  go_wp2
  go_ret
  exact ⟨rfl, c2.trans (hb3.mono c2.size)⟩

set_option maxHeartbeats 800000 in
theorem numOrder_bneg (a b : Int) (w : World) (ha : Fits a) (hb : Fits b) (t : Bool) (e1 : ((numText a).toList == (numText b).toList) = t) (e2 : (a == b) = t) (hc0 : 0 ≤ a) (hc : b < 0) (hL : Laid w) :
    Calls Tryd.prog 7 #[.int .i64 a, .int .i64 b] w fun e w' => e = .returned (.bool true) ∧ Below w.heap.size w w' := by
  go_enter Tryd.func7, Tryd.ntmps7
  go_wp2_with fail
  refine (awake_any _ hL).mono ?_
  rintro e w1 ⟨rfl, hb1⟩
  have hL1 := hL.on hb1
  go_wp2_with fail
  refine (print_any a ha _ hL1).mono ?_
  rintro e w2 ⟨rfl, hb2⟩
  have hL2 := hL1.on hb2
  go_wp2_with fail
  refine (print_any b hb _ hL2).mono ?_
  rintro e w3 ⟨rfl, hb3⟩
  have c2 := hb1.trans (hb2.mono hb1.size)
  go_wp2
  go_ret
  exact ⟨rfl, c2.trans (hb3.mono c2.size)⟩

set_option maxHeartbeats 800000 in
theorem numOrder_len (a b : Int) (w : World) (ha : Fits a) (hb : Fits b) (t : Bool) (e1 : ((numText a).toList == (numText b).toList) = t) (e2 : (a == b) = t) (hc0 : 0 ≤ a) (hc : 0 ≤ b) (hl : (((numText a).size : Int) != ((numText b).size : Int)) = true) (hL : Laid w) :
    Calls Tryd.prog 7 #[.int .i64 a, .int .i64 b] w fun e w' => e = .returned (.bool true) ∧ Below w.heap.size w w' := by
  go_enter Tryd.func7, Tryd.ntmps7
  go_wp2_with fail
  refine (awake_any _ hL).mono ?_
  rintro e w1 ⟨rfl, hb1⟩
  have hL1 := hL.on hb1
  go_wp2_with fail
  refine (print_any a ha _ hL1).mono ?_
  rintro e w2 ⟨rfl, hb2⟩
  have hL2 := hL1.on hb2
  go_wp2_with fail
  refine (print_any b hb _ hL2).mono ?_
  rintro e w3 ⟨rfl, hb3⟩
  have c2 := hb1.trans (hb2.mono hb1.size)
  go_wp2
  go_ret
  exact ⟨rfl, c2.trans (hb3.mono c2.size)⟩

set_option maxHeartbeats 800000 in
theorem numOrder_cmp (a b : Int) (w : World) (ha : Fits a) (hb : Fits b) (t : Bool) (e1 : ((numText a).toList == (numText b).toList) = t) (e2 : (a == b) = t) (hc0 : 0 ≤ a) (hc : 0 ≤ b) (hl : ((numText a).size : Int) = ((numText b).size : Int)) (r : Bool) (h1 : Op.bytesLess (numText a).toList (numText b).toList = r) (h2 : decide (a < b) = r) (hL : Laid w) :
    Calls Tryd.prog 7 #[.int .i64 a, .int .i64 b] w fun e w' => e = .returned (.bool true) ∧ Below w.heap.size w w' := by
  go_enter Tryd.func7, Tryd.ntmps7
  go_wp2_with fail
  refine (awake_any _ hL).mono ?_
  rintro e w1 ⟨rfl, hb1⟩
  have hL1 := hL.on hb1
  go_wp2_with fail
  refine (print_any a ha _ hL1).mono ?_
  rintro e w2 ⟨rfl, hb2⟩
  have hL2 := hL1.on hb2
  go_wp2_with fail
  refine (print_any b hb _ hL2).mono ?_
  rintro e w3 ⟨rfl, hb3⟩
  have c2 := hb1.trans (hb2.mono hb1.size)
  go_wp2
  go_ret
  exact ⟨rfl, c2.trans (hb3.mono c2.size)⟩

theorem numText_less (a b : Int) (ha : Fits a) (hb : Fits b) (ha0 : 0 ≤ a) (hb0 : 0 ≤ b) (hl : (numText a).size = (numText b).size) : Op.bytesLess (numText a).toList (numText b).toList = decide (a < b) := by
  obtain ⟨m, rfl⟩ : ∃ m : Nat, a = m := ⟨a.toNat, by omega⟩
  obtain ⟨k, rfl⟩ : ∃ k : Nat, b = k := ⟨b.toNat, by omega⟩
  have hm := ha.2
  have hk := hb.2
  rw [size_bytes (numText_nat m), size_bytes (numText_nat k), Lib.decDigits_length, Lib.decDigits_length] at hl
  rw [numText_nat, numText_nat, ByteArray.toList_eq, ByteArray.toList_eq]
  have := Num.less_digits m k (by omega) (by omega) hl
  refine this.trans ?_
  rw [decide_eq_decide]
  omega

theorem numOrder_walk (a b : Int) (w : World) (ha : Fits a) (hb : Fits b) (hL : Laid w) :
    Calls Tryd.prog 7 #[.int .i64 a, .int .i64 b] w fun e w' => e = .returned (.bool true) ∧ Below w.heap.size w w' := by
  have heq : ((numText a).toList == (numText b).toList) = (a == b) := by
    by_cases h : a = b
    · subst h; simp
    · rw [str_ne (fun e => h (numText_inj ha hb e))]
      symm
      simp [h]
  by_cases h1 : a < 0
  · exact numOrder_aneg a b w ha hb _ heq rfl h1 hL
  by_cases h2 : b < 0
  · exact numOrder_bneg a b w ha hb _ heq rfl (by omega) h2 hL
  by_cases hl : (numText a).size = (numText b).size
  · exact numOrder_cmp a b w ha hb _ heq rfl (by omega) (by omega) (by rw [hl]) _ (numText_less a b ha hb (by omega) (by omega) hl) rfl hL
  · exact numOrder_len a b w ha hb _ heq rfl (by omega) (by omega) (by rw [bne_iff_ne]; omega) hL
end Go.Proofs.YtgccdhlbepbpeaaDoor
