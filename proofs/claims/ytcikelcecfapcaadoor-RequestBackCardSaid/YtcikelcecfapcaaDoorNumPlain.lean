/-
  Plain facts on decimal forms, of no program: the decimal form of a 64-bit number is parsed as that number; different numbers have different forms; forms of one length are ordered as their numbers.
-/
import Derived.Lib.AtoiAll
import Derived.Lib.ItoaNum
import Derived.Lib.ItoaLen
import Derived.Lib.AtoiAllCases
namespace Go.Proofs.YtcikelcecfapcaaDoor.Num
open Go

theorem digit_nat (d : Nat) (h : d < 10) : (UInt8.ofNat (48 + d)).toNat = 48 + d := by
  rw [UInt8.toNat_ofNat_of_lt' (by show 48 + d < 256; omega)]

theorem parse_digits (u : Nat) : u < 18446744073709551616 → ∀ r, Lib.parseUint10 0 (Lib.decDigits u ++ r) = Lib.parseUint10 u r := by
  induction u using Nat.strongRecOn with
  | _ u ih =>
    intro hu r
    by_cases h : u < 10
    · rw [Lib.decDigits, dif_pos h]
      show Lib.parseUint10 0 (UInt8.ofNat (48 + u) :: r) = _
      have e := digit_nat u h
      rw [Lib.parseUint10, e, if_pos (by omega), if_neg (by omega), if_neg (by omega)]
      congr 1
      omega
    · rw [Lib.decDigits, dif_neg h, List.append_assoc, ih (u / 10) (by omega) (by omega)]
      show Lib.parseUint10 (u / 10) (UInt8.ofNat (48 + u % 10) :: r) = _
      have e := digit_nat (u % 10) (by omega)
      rw [Lib.parseUint10, e, if_pos (by omega), if_neg (by omega), if_neg (by omega)]
      congr 1
      omega

theorem decDigits_ne (u : Nat) : Lib.decDigits u ≠ [] := by
  intro h
  have h1 := Lib.decDigits_length u
  have h2 := Lib.nDigits_pos u
  rw [h] at h1
  simp at h1
  omega

theorem decDigits_head (u : Nat) : ∃ c r, Lib.decDigits u = c :: r ∧ 48 ≤ c.toNat ∧ c.toNat ≤ 57 := by
  induction u using Nat.strongRecOn with
  | _ u ih =>
    by_cases h : u < 10
    · exact ⟨_, _, by rw [Lib.decDigits, dif_pos h], by rw [digit_nat u h]; omega, by rw [digit_nat u h]; omega⟩
    · obtain ⟨c, r, e, h1, h2⟩ := ih (u / 10) (by omega)
      exact ⟨c, r ++ [UInt8.ofNat (48 + u % 10)], by rw [Lib.decDigits, dif_neg h, e]; rfl, h1, h2⟩

theorem parseMag_digits (u : Nat) (h : u < 18446744073709551616) : Lib.parseMag (Lib.decDigits u) = .ok u := by
  unfold Lib.parseMag
  rw [if_neg (decDigits_ne u)]
  have := parse_digits u h []
  rw [List.append_nil] at this
  rw [this]
  rfl

/-- The decimal form of a number is parsed as that number. -/
theorem atoi_itoa (n : Int) (h0 : -9223372036854775808 ≤ n) (h1 : n ≤ 9223372036854775807) : Lib.atoiAll (Lib.itoa n) = .ok n := by
  unfold Lib.itoa
  by_cases hneg : n < 0
  · rw [if_pos hneg]
    unfold Lib.atoiAll
    simp only [show ((45 : UInt8).toNat = 43 ∨ (45 : UInt8).toNat = 45) = True by simp, if_true, parseMag_digits n.natAbs (by omega)]
    rw [if_neg (by simp), if_neg (by omega), if_pos (by rfl)]
    congr 1
    omega
  · rw [if_neg hneg]
    obtain ⟨c, r, e, hc0, hc1⟩ := decDigits_head n.toNat
    have hp := parseMag_digits n.toNat (by omega)
    rw [e] at hp ⊢
    unfold Lib.atoiAll
    simp only [show (c.toNat = 43 ∨ c.toNat = 45) = False by simp; omega, if_false, hp]
    rw [if_neg (by omega), if_neg (by omega), if_neg (by omega)]
    congr 1
    omega

theorem itoa_inj {a b : Int} (ha0 : -9223372036854775808 ≤ a) (ha1 : a ≤ 9223372036854775807) (hb0 : -9223372036854775808 ≤ b) (hb1 : b ≤ 9223372036854775807) (h : Lib.itoa a = Lib.itoa b) : a = b := by
  have e1 := atoi_itoa a ha0 ha1
  have e2 := atoi_itoa b hb0 hb1
  rw [h, e2] at e1
  injection e1 with e1
  exact e1.symm

/-- What the first k of m's digits spell. -/
def pre (m k : Nat) : Nat := m / 10 ^ (Lib.nDigits m - k)

theorem pre_zero (m : Nat) : pre m 0 = 0 := by
  unfold pre
  exact Nat.div_eq_of_lt (Lib.lt_pow_nDigits m)
theorem pre_all (m k : Nat) (h : Lib.nDigits m ≤ k) : pre m k = m := by
  unfold pre
  rw [show Lib.nDigits m - k = 0 by omega, Nat.pow_zero, Nat.div_one]
theorem pre_le (m k : Nat) : pre m k ≤ m := Nat.div_le_self _ _
theorem pre_step (m k : Nat) (h : k < Lib.nDigits m) : pre m (k + 1) = pre m k * 10 + m / 10 ^ (Lib.nDigits m - 1 - k) % 10 := by
  unfold pre
  rw [show Lib.nDigits m - (k + 1) = Lib.nDigits m - 1 - k by omega, show Lib.nDigits m - k = (Lib.nDigits m - 1 - k) + 1 by omega, Nat.pow_succ, ← Nat.div_div_eq_div_mul]
  omega

/-- m's k-th digit, and what it adds. -/
theorem digit_step (m k : Nat) (h : k < (Lib.decDigits m).length) : 48 ≤ (Lib.decDigits m)[k].toNat ∧ (Lib.decDigits m)[k].toNat ≤ 57 ∧ pre m (k + 1) = pre m k * 10 + ((Lib.decDigits m)[k].toNat - 48) := by
  have hl : k < Lib.nDigits m := by rw [Lib.decDigits_length] at h; exact h
  have e : (Lib.decDigits m)[k] = Lib.dg m (Lib.nDigits m - 1 - k) := by
    simp only [Lib.decDigits_eq m, List.getElem_map, List.getElem_range]
  have e2 : (Lib.dg m (Lib.nDigits m - 1 - k)).toNat = 48 + m / 10 ^ (Lib.nDigits m - 1 - k) % 10 := by
    unfold Lib.dg
    exact digit_nat _ (by omega)
  rw [e, e2]
  have := pre_step m k hl
  omega

theorem pow_le_of_digits (m k : Nat) : k + 1 = Lib.nDigits m → 0 < k → 10 ^ k ≤ m := by
  induction k generalizing m with
  | zero => intro _ h; omega
  | succ k ih =>
    intro h _
    by_cases h10 : m < 10
    · rw [Lib.nDigits_small h10] at h; omega
    · rw [Lib.nDigits_big h10] at h
      by_cases hk : 0 < k
      · have := ih (m / 10) (by omega) hk
        rw [Nat.pow_succ]; omega
      · have e : k = 0 := by omega
        subst e
        simp; omega

theorem nDigits_le19 (m : Nat) (h : m ≤ 9223372036854775808) : Lib.nDigits m ≤ 19 := by
  rcases Nat.lt_or_ge (Lib.nDigits m) 20 with h1 | h1
  · omega
  · have h2 : 10 ^ 19 ≤ m := by
      have := Lib.nDigits_big (u := m) (by
        intro h3
        rw [Lib.nDigits_small h3] at h1
        omega)
      by_cases h10 : 10 ^ 19 ≤ m
      · exact h10
      · exfalso
        have h4 := pow_le_of_digits m (Lib.nDigits m - 1) (by omega) (by omega)
        have h5 : 10 ^ 19 ≤ 10 ^ (Lib.nDigits m - 1) := Nat.pow_le_pow_right (by omega) (by omega)
        omega
    have e : (10 : Nat) ^ 19 = 10000000000000000000 := by decide
    omega

end Go.Proofs.YtcikelcecfapcaaDoor.Num
