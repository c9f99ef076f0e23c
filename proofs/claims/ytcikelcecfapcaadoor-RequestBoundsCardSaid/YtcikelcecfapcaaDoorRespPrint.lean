/-
  What num.Print and the reference's Print answer: the decimal form of a 64-bit integer. Conditions: the table of the powers of ten reads as it is laid.
-/
import Derived.Test.YtcikelcecfapcaaDoorNumFits
import Derived.Test.YtcikelcecfapcaaDoorShelf
import Derived.WalkSmall
import Derived.Lib.SlBytesConst
import Derived.WalkSpells
import Derived.Lib.AtoiErrMem
import Derived.Lib.ItoaLen
namespace Go.Proofs.YtcikelcecfapcaaDoor
open Go.RowKit Go.Sort

/-- The table of the powers of ten. -/
def Tens (w : World) : Prop := Lib.TabIs Tryd.prog w "internal/strconv.uint64pow10" .u64 Lib.pow10Tab

theorem gPow : Tryd.prog.globalNamed "internal/strconv.uint64pow10" = some 5 := by kernel_rfl

theorem var_lt {w : World} {n : String} {g : Nat} {cs : Array Value} (hg : Tryd.prog.globalNamed n = some g) (h : w.var? Tryd.prog n = some cs) : g < w.heap.size := by
  unfold World.var? at h
  simp only [hg, Option.bind_some] at h
  rcases Nat.lt_or_ge g w.heap.size with h' | h'
  · exact h'
  · rw [Array.getElem?_eq_none h'] at h; simp at h

theorem Tens.on {w w' : World} (h : Tens w) (hb : Below w.heap.size w w') : Tens w' := by
  unfold Tens Lib.TabIs at h ⊢
  exact var?_below hb gPow (var_lt gPow h) h

theorem below_grow (w : World) (k : Nat) (os : Array Obj) : Below w.heap.size w (grow (w.drewN k) os) := by
  refine ⟨rfl, rfl, rfl, by simp [grow, World.drewN], fun j hj => ?_⟩
  show (w.heap ++ os)[j]? = w.heap[j]?
  rw [Array.getElem?_append_left hj]

/-- n's decimal form. -/
def numText (n : Int) : ByteArray := ⟨(Lib.itoa n).toArray⟩

theorem itoa_call (n : Int) (hn : Fits n) (w : World) (hL : Tens w) :
    Calls Tryd.prog 64 #[.int .i64 n] w fun e w' => e = .returned (.string (numText n)) ∧ Below w.heap.size w w' :=
  (Tryd.strconv_Itoa n hn.1 hn.2 w hL).mono fun _ _ ⟨he, k, os, hw⟩ => ⟨he, hw ▸ below_grow w k os⟩

set_option maxHeartbeats 400000 in
theorem print_any (n : Int) (hn : Fits n) (w : World) (hL : Tens w) :
    Calls Tryd.prog 50 #[.int .i64 n] w fun e w' => e = .returned (.string (numText n)) ∧ Below w.heap.size w w' := by
  go_enter Tryd.func50, Tryd.ntmps50
  go_wp2_with (go_at_call 64; refine (itoa_call n hn _ hL).mono ?_; rintro e w' ⟨rfl, hb⟩)
  go_ret
  exact ⟨rfl, hb⟩

/-- The digit of k's last place, as a byte. -/
def lastDigit (k : Nat) : UInt8 := UInt8.ofNat (48 + k % 10)

theorem decDigits_ten {k : Nat} (h : ¬ k < 10) : Lib.decDigits k = Lib.decDigits (k / 10) ++ [lastDigit k] := by rw [Lib.decDigits, dif_neg h]; rfl
theorem decDigits_last {k : Nat} (h : k < 10) : Lib.decDigits k = [lastDigit k] := by rw [Lib.decDigits_one h, lastDigit, Nat.mod_eq_of_lt h]

/-- 'string([]byte{c})'. -/
theorem one_byte (k : Nat) (w : World) :
    (convert 22 9 (.slice (some ⟨w.heap.size, 0, none⟩) 1 1)).run Tryd.prog (w.alloc (.cells #[.int .u8 (48 + (k : Int) % 10)] 5)) =
      .ok (.string ⟨#[lastDigit k]⟩) (w.alloc (.cells #[.int .u8 (48 + (k : Int) % 10)] 5)) := by
  have h := run_convert_bytes_back (P := Tryd.prog) (w.alloc (.cells #[.int .u8 (48 + (k : Int) % 10)] 5)) 22 9 5 ⟨w.heap.size, 0, none⟩ 1 [lastDigit k] Tryd.underlying22 Tryd.underlying5 Tryd.underlying9
    (fun j hj => by
      have : j = 0 := by simp at hj; exact hj
      subst this
      have e : ((lastDigit k).toNat : Int) = 48 + (k : Int) % 10 := by
        unfold lastDigit
        rw [UInt8.toNat_ofNat_of_lt' (by show 48 + k % 10 < 256; omega)]
        omega
      simp only [List.getElem_cons_zero, e]
      rw [Lib.add_plain, World.cell?_alloc_new]
      rfl)
  exact h

theorem str_join (a : UInt8) (l : List UInt8) : (⟨#[a]⟩ : ByteArray) ++ ⟨l.toArray⟩ = ⟨(a :: l).toArray⟩ := by
  apply ByteArray.ext
  simp

theorem str_nil (l : List UInt8) : (⟨#[]⟩ : ByteArray) ++ ⟨l.toArray⟩ = ⟨l.toArray⟩ := by
  apply ByteArray.ext
  simp

theorem decDigits_le (m : Nat) (h : m < 18446744073709551616) : (Lib.decDigits m).length ≤ 20 := by rw [Lib.decDigits_length]; exact Lib.nDigits_le20 m h

theorem tail_le {m k : Nat} {l : List UInt8} (h : m < 18446744073709551616) (hd : Lib.decDigits m = Lib.decDigits k ++ l) : l.length ≤ 20 := by
  have h1 := decDigits_le m h
  rw [hd, List.length_append] at h1
  omega

theorem numText_nat (m : Nat) : numText (m : Int) = ⟨(Lib.decDigits m).toArray⟩ := by
  unfold numText Lib.itoa
  rw [if_neg (by omega)]
  rfl
theorem numText_neg (m : Nat) (h : 0 < m) : numText (-(m : Int)) = ⟨(45 :: Lib.decDigits m).toArray⟩ := by
  unfold numText Lib.itoa
  rw [if_pos (by omega), Int.natAbs_neg, Int.natAbs_natCast]

set_option maxHeartbeats 800000 in
theorem refprint_pos (m : Nat) (hm : m ≤ 9223372036854775807) (w : World) :
    Calls Tryd.prog 35 #[.int .i64 m] w fun e w' => e = .returned (.string (numText m)) ∧ Below w.heap.size w w' := by
  go_enter Tryd.func35, Tryd.ntmps35
  go_wp2
  go_loopw [3, 5] (fun u s wr => ∃ (k : Nat) (l : List UInt8), k < 18446744073709551616 ∧ u = .int .u64 k ∧ s = .string ⟨l.toArray⟩ ∧ Lib.decDigits m = Lib.decDigits k ++ l ∧ Below w.heap.size w wr) (fun u _ _ => (intOf u).toNat)
  case atStart => exact ⟨m, [], by omega, rfl, rfl, by simp, Below.refl _ _⟩
  case round =>
    obtain ⟨k, l, hk, rfl, rfl, hd, hb⟩ := hrel
    have hl := tail_le (by omega) hd
    have HD := Lib.hid hd
    clear hd
    have hconv := one_byte k wr
    by_cases h10 : k < 10
    · have hq : ((k : Int) / 10 == 0) = true := by rw [beq_iff_eq]; omega
      go_wp2
      go_ret
      refine ⟨?_, hb.alloc hb.size _⟩
      rw [str_nil, str_join, numText_nat, HD.out, decDigits_last h10]
      rfl
    · have hq : ((k : Int) / 10 == 0) = false := by rw [beq_eq_false_iff_ne]; omega
      go_wp2
      go_roundw
      case rel => exact ⟨k / 10, lastDigit k :: l, by omega, by go_num, by rw [str_join], by rw [HD.out, decDigits_ten h10, List.append_assoc]; rfl, hb.alloc hb.size _⟩
      case measure => simp [intOf]; omega

theorem u64_minus (m : Nat) (hm0 : 0 < m) (hm : m ≤ 9223372036854775808) : IntKind.u64.wrap (-IntKind.u64.wrap (-(m : Int))) = m := by
  have e : ∀ n, IntKind.u64.wrap n = n % 18446744073709551616 := fun n => by simp [IntKind.wrap, IntKind.bits, IntKind.signed]
  rw [e, e]; omega

set_option maxHeartbeats 800000 in
theorem refprint_neg (m : Nat) (hm0 : 0 < m) (hm : m ≤ 9223372036854775808) (w : World) :
    Calls Tryd.prog 35 #[.int .i64 (-(m : Int))] w fun e w' => e = .returned (.string (numText (-(m : Int)))) ∧ Below w.heap.size w w' := by
  have HU := Lib.hid (u64_minus m hm0 hm)
  go_enter Tryd.func35, Tryd.ntmps35
  go_wp2
  go_loopw [3, 5] (fun u s wr => ∃ (k : Nat) (l : List UInt8), k < 18446744073709551616 ∧ u = .int .u64 k ∧ s = .string ⟨l.toArray⟩ ∧ Lib.decDigits m = Lib.decDigits k ++ l ∧ Below w.heap.size w wr) (fun u _ _ => (intOf u).toNat)
  case atStart => exact ⟨m, [], by omega, by rw [HU.out], rfl, by simp, Below.refl _ _⟩
  case round =>
    obtain ⟨k, l, hk, rfl, rfl, hd, hb⟩ := hrel
    have hl := tail_le (by omega) hd
    have HD := Lib.hid hd
    clear hd
    have hconv := one_byte k wr
    by_cases h10 : k < 10
    · have hq : ((k : Int) / 10 == 0) = true := by rw [beq_iff_eq]; omega
      go_wp2
      go_ret
      refine ⟨?_, hb.alloc hb.size _⟩
      rw [str_join, numText_neg m hm0, HD.out, decDigits_last h10]
      exact congrArg (fun t : ByteArray => Ending.returned (.string t)) (str_join 45 (lastDigit k :: l))
    · have hq : ((k : Int) / 10 == 0) = false := by rw [beq_eq_false_iff_ne]; omega
      go_wp2
      go_roundw
      case rel => exact ⟨k / 10, lastDigit k :: l, by omega, by go_num, by rw [str_join], by rw [HD.out, decDigits_ten h10, List.append_assoc]; rfl, hb.alloc hb.size _⟩
      case measure => simp [intOf]; omega

/-- THE REFERENCE's Print: the decimal form. -/
theorem refprint_any (n : Int) (hn : Fits n) (w : World) :
    Calls Tryd.prog 35 #[.int .i64 n] w fun e w' => e = .returned (.string (numText n)) ∧ Below w.heap.size w w' := by
  obtain ⟨h0, h1⟩ := hn
  by_cases hneg : n < 0
  · obtain ⟨m, rfl⟩ : ∃ m : Nat, n = -(m : Int) := ⟨n.natAbs, by omega⟩
    exact refprint_neg m (by omega) (by omega) w
  · obtain ⟨m, rfl⟩ : ∃ m : Nat, n = m := ⟨n.toNat, by omega⟩
    exact refprint_pos m (by omega) w

end Go.Proofs.YtcikelcecfapcaaDoor
