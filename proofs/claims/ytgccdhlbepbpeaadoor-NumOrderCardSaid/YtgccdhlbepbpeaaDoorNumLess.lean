/-
  Plain facts, of no program: two decimal forms of one length are ordered, byte by byte, as their numbers. Conditions: numbers that 64 bits hold.
-/
import Derived.Test.YtgccdhlbepbpeaaDoorNumPlain
import Derived.WalkLawsBesides
namespace Go.Proofs.YtgccdhlbepbpeaaDoor.Num
open Go

theorem less_nil (x : List UInt8) : Op.bytesLess x [] = false := by cases x <;> rfl

theorem less_snoc : ∀ (x y : List UInt8) (c d : UInt8), x.length = y.length → Op.bytesLess (x ++ [c]) (y ++ [d]) = (Op.bytesLess x y || (x == y && decide (c < d)))
  | [], [], c, d, _ => by simp [Op.bytesLess]
  | [], _ :: _, _, _, h => by simp at h
  | _ :: _, [], _, _, h => by simp at h
  | a :: x, b :: y, c, d, h => by
    have ih := less_snoc x y c d (by simpa using h)
    simp only [List.cons_append, Op.bytesLess, ih]
    by_cases hab : a = b
    · subst hab
      simp
    · have e : (a == b) = false := by simp [hab]
      have e2 : ((a :: x) == (b :: y)) = false := by simp [hab]
      rw [e, e2]
      simp

theorem decDigits_inj {u v : Nat} (hu : u < 18446744073709551616) (hv : v < 18446744073709551616) (h : Lib.decDigits u = Lib.decDigits v) : u = v := by
  have e1 := parseMag_digits u hu
  have e2 := parseMag_digits v hv
  rw [h, e2] at e1
  injection e1 with e1
  exact e1.symm

theorem less_digit (a b : Nat) (ha : a < 10) (hb : b < 10) : decide (UInt8.ofNat (48 + a) < UInt8.ofNat (48 + b)) = decide (a < b) := by
  rw [decide_eq_decide, UInt8.lt_iff_toNat_lt, digit_nat a ha, digit_nat b hb]
  omega

theorem less_digits (a : Nat) : ∀ b, a < 18446744073709551616 → b < 18446744073709551616 → Lib.nDigits a = Lib.nDigits b → Op.bytesLess (Lib.decDigits a) (Lib.decDigits b) = decide (a < b) := by
  induction a using Nat.strongRecOn with
  | _ a ih =>
    intro b ha hb h
    by_cases h10 : a < 10
    · have hb10 : b < 10 := by
        rcases Nat.lt_or_ge b 10 with h2 | h2
        · exact h2
        · rw [Lib.nDigits_small h10, Lib.nDigits_big (by omega)] at h
          have := Lib.nDigits_pos (b / 10)
          omega
      rw [Lib.decDigits_one h10, Lib.decDigits_one hb10]
      have e := less_snoc [] [] (UInt8.ofNat (48 + a)) (UInt8.ofNat (48 + b)) rfl
      simp only [List.nil_append] at e
      rw [e, less_digit a b h10 hb10]
      simp [Op.bytesLess]
    · have hb10 : ¬ b < 10 := by
        intro h2
        rw [Lib.nDigits_small h2, Lib.nDigits_big h10] at h
        have := Lib.nDigits_pos (a / 10)
        omega
      rw [Lib.nDigits_big h10, Lib.nDigits_big hb10] at h
      have hq : Lib.nDigits (a / 10) = Lib.nDigits (b / 10) := by omega
      have e := ih (a / 10) (by omega) (b / 10) (by omega) (by omega) hq
      have ea : Lib.decDigits a = Lib.decDigits (a / 10) ++ [UInt8.ofNat (48 + a % 10)] := by rw [Lib.decDigits, dif_neg h10]
      have eb : Lib.decDigits b = Lib.decDigits (b / 10) ++ [UInt8.ofNat (48 + b % 10)] := by rw [Lib.decDigits, dif_neg hb10]
      rw [ea, eb, less_snoc _ _ _ _ (by rw [Lib.decDigits_length, Lib.decDigits_length, hq]), e, less_digit _ _ (by omega) (by omega)]
      by_cases hab : a / 10 = b / 10
      · rw [hab]
        simp only [beq_self_eq_true, Bool.true_and, Nat.lt_irrefl, decide_false, Bool.false_or]
        rw [decide_eq_decide]
        omega
      · have hne : (Lib.decDigits (a / 10) == Lib.decDigits (b / 10)) = false := by
          rw [beq_eq_false_iff_ne]
          exact fun he => hab (decDigits_inj (by omega) (by omega) he)
        rw [hne, Bool.false_and, Bool.or_false, decide_eq_decide]
        omega
end Go.Proofs.YtgccdhlbepbpeaaDoor.Num
