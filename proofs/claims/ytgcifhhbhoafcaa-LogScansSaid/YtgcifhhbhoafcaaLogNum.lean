/-
  Sectors, put, number.
-/
import Derived.Test.YtgcifhhbhoafcaaLogPure
namespace Go.Proofs.Ytgcifhhbhoafcaa
open Go.RowKit Go.Shelf

theorem sectors_any (n : Nat) (hn : n ≤ 9000000000000000000) (w : World) :
    Calls Try.prog 30 #[.int .i64 n] w fun e w' => e = .returned (.int .i64 (secs n)) ∧ w = w' := by
  by_cases h0 : n = 0
  · subst h0
    go_enter Try.func30, Try.ntmps30
    go_wp2
    go_ret
    exact ⟨rfl, rfl⟩
  · have d1 : decide ((n : Int) ≤ 0) = false := decide_eq_false (by omega)
    have d2 : decide (n = 0) = false := decide_eq_false h0
    have w1 : IntKind.i64.wrap ((n : Int) - 1) = (n : Int) - 1 := by rw [IntKind.wrap_i64]; omega
    obtain ⟨s, hs⟩ : ∃ s, s = (n - 1) / 63 := ⟨_, rfl⟩
    have q3 : ((n : Int) - 1).tdiv 63 = (s : Int) := by rw [Int.tdiv_eq_ediv_of_nonneg (by omega)]; omega
    have w2 : IntKind.i64.wrap (s : Int) = (s : Int) := by rw [IntKind.wrap_i64]; omega
    have w3 : IntKind.i64.wrap (2 + (s : Int)) = 2 + (s : Int) := by rw [IntKind.wrap_i64]; omega
    have e1 : ((secs n : Nat) : Int) = 2 + (s : Int) := by unfold secs; omega
    rw [e1]
    clear hs e1
    go_enter Try.func30, Try.ntmps30
    go_wp2
    go_ret
    exact ⟨rfl, rfl⟩

set_option maxHeartbeats 1000000 in
theorem put_any (B o m c : Nat) (n : Nat) (hm : m ≤ 8) (cur : List Value) (hcl : o + m ≤ cur.length) (w : World) (hB : w.heap[B]? = some (.cells cur.toArray 5 (0, 0))) :
    Calls Try.prog 76 #[.slice (some ⟨B, o, none⟩) m c, .int .i64 n] w fun e w' => e = .returned (.tuple #[]) ∧ w'.heap[B]? = some (.cells (cur.take o ++ bCells (be m n) ++ cur.drop (o + m)).toArray 5 (0, 0)) ∧ Chg (fun k => k = B) w w' := by
  have HCL := Lib.hid hcl
  go_enter Try.func76, Try.ntmps76
  go_wp2
  go_loopw [7] (fun s7 wr => ∃ i : Nat, i ≤ m ∧ s7 = .int .i64 i ∧ Hid (wr.heap[B]? = some (.cells (cur.take (o + m - i) ++ bCells (be i n) ++ cur.drop (o + m)).toArray 5 (0, 0))) ∧ Hid (Chg (fun k => k = B) w wr)) (fun s7 _ => m - (intOf s7).toNat)
  case atStart => exact ⟨0, Nat.zero_le _, rfl, Lib.hid (by rw [Nat.sub_zero]; simpa [be, bCells] using hB), Lib.hid (Chg.refl _ _)⟩
  case round =>
    obtain ⟨i, hi, rfl, HC, HK⟩ := hrel
    by_cases hlt : i < m
    · have d1 : decide ((i : Int) < (m : Int)) = true := decide_eq_true (by omega)
      have d1' : decide (i < m) = true := decide_eq_true hlt
      obtain ⟨y, hy⟩ : ∃ y, y = n / 256 ^ i := ⟨_, rfl⟩
      have hp : (2 : Int) ^ (8 * i) = ((256 ^ i : Nat) : Int) := by
        rw [show (256 : Nat) ^ i = 2 ^ (8 * i) by rw [Nat.pow_mul]]
        simp
      have hlen : (cur.take (o + m - i) ++ bCells (be i n) ++ cur.drop (o + m)).length = cur.length := by
        simp only [List.length_append, List.length_take, List.length_drop, bCells_len, be_len]
        omega
      obtain ⟨u, hu⟩ : ∃ u, (cur.take (o + m - i) ++ bCells (be i n) ++ cur.drop (o + m))[o + (m - 1 - i)]? = some u := ⟨_, List.getElem?_eq_getElem (by rw [hlen]; omega)⟩
      have kc : wr.cell? ⟨B, o + (m - 1 - i), none⟩ = some u := by rw [cell_in HC.out, List.getElem?_toArray]; exact hu
      have kf := frozen_in HC.out (o + (m - 1 - i))
      have hval : Value.int .u8 ((n : Int) / 256 ^ i % 256) = Value.int .u8 (((UInt8.ofNat (n / 256 ^ i % 256)).toNat : Nat) : Int) := by
        rw [show (UInt8.ofNat (n / 256 ^ i % 256)).toNat = n / 256 ^ i % 256 from UInt8.toNat_ofNat_of_lt' (Nat.mod_lt _ (by decide))]
        simp
      have HSTEP := Lib.hid (show (wr.setCell ⟨B, o + (m - 1 - i), none⟩ (.int .u8 (((UInt8.ofNat (n / 256 ^ i % 256)).toNat : Nat) : Int))).heap[B]? = some (.cells (cur.take (o + m - (i + 1)) ++ bCells (be (i + 1) n) ++ cur.drop (o + m)).toArray 5 (0, 0)) by
        rw [setCell_eq_setRow wr B _ _ _ _ _ HC.out, setRow_heap wr B _ _ _ _ HC.out]
        congr 3
        apply Array.toList_inj.1
        rw [Array.toList_setIfInBounds, List.toList_toArray, be_cons]
        apply List.ext_getElem?
        intro j
        have ht : (cur.take (o + m - i)).length = o + m - i := by rw [List.length_take]; omega
        have ht2 : (cur.take (o + m - (i + 1))).length = o + m - (i + 1) := by rw [List.length_take]; omega
        rw [List.getElem?_set, hlen]
        have hb : (bCells (be i n)).length = i := by rw [bCells_len, be_len]
        by_cases e : o + (m - 1 - i) = j
        · subst e
          rw [if_pos rfl, if_pos (by omega), List.append_assoc, List.getElem?_append_right (by omega), ht2, show o + (m - 1 - i) - (o + m - (i + 1)) = 0 by omega]
          rfl
        · rw [if_neg e]
          by_cases h1 : j < o + m - (i + 1)
          · rw [List.append_assoc, List.append_assoc, List.getElem?_append_left (by omega), List.getElem?_append_left (by omega), List.getElem?_take_of_lt (by omega), List.getElem?_take_of_lt (by omega)]
          · rw [List.toList_toArray, List.append_assoc, List.append_assoc, List.getElem?_append_right (l₁ := cur.take (o + m - i)) (by omega), List.getElem?_append_right (l₁ := cur.take (o + m - (i + 1))) (by omega), ht, ht2, show j - (o + m - (i + 1)) = (j - (o + m - i)) + 1 by omega]
            rfl)
      have HK2 := Lib.hid (HK.out.trans (Chg.setCell wr ⟨B, o + (m - 1 - i), none⟩ (.int .u8 (((UInt8.ofNat (n / 256 ^ i % 256)).toNat : Nat) : Int))))
      clear hu hlen
      go_wp2
      generalize wr.setCell ⟨B, o + (m - 1 - i), none⟩ (.int .u8 (((UInt8.ofNat (n / 256 ^ i % 256)).toNat : Nat) : Int)) = w2 at *
      go_roundw
      case rel => exact ⟨i + 1, by omega, by go_num, HSTEP, HK2⟩
      case measure => simp [intOf]; omega
    · have d1 : decide ((i : Int) < (m : Int)) = false := decide_eq_false (by omega)
      have d1' : decide (i < m) = false := decide_eq_false hlt
      obtain rfl : i = m := by omega
      have HC2 := Lib.hid (show wr.heap[B]? = some (.cells (cur.take o ++ bCells (be i n) ++ cur.drop (o + i)).toArray 5 (0, 0)) by
        have h := HC.out
        rwa [Nat.add_sub_cancel] at h)
      go_wp2
      go_end0
      exact ⟨rfl, HC2.out, HK.out⟩

theorem i64_or_nat (a b : Nat) (ha : a < 9223372036854775808) (hb : b < 9223372036854775808) : bits .or .i64 (a : Int) (b : Int) = ((a ||| b : Nat) : Int) := by
  have hx : a ||| b < 2 ^ 63 := Nat.or_lt_two_pow (by omega) (by omega)
  have e1 : (BitVec.ofInt 64 (a : Int)).toNat = a := by
    rw [BitVec.ofInt_natCast, BitVec.toNat_ofNat]; exact Nat.mod_eq_of_lt (by omega)
  have e2 : (BitVec.ofInt 64 (b : Int)).toNat = b := by
    rw [BitVec.ofInt_natCast, BitVec.toNat_ofNat]; exact Nat.mod_eq_of_lt (by omega)
  show IntKind.i64.wrap ((BitVec.ofInt 64 (a : Int) ||| BitVec.ofInt 64 (b : Int)).toNat : Int) = _
  rw [BitVec.toNat_or, e1, e2, IntKind.wrap_i64]
  omega
theorem or_byte (a b : Nat) (hb : b < 256) : a * 256 ||| b = a * 256 + b := by
  have h := Nat.two_pow_add_eq_or_of_lt (i := 8) (b := b) (by omega) a
  rw [Nat.mul_comm a 256]
  exact h.symm
set_option maxHeartbeats 1000000 in
theorem number_any (B o c : Nat) (l : List UInt8) (hl : l.length ≤ 7) (w : World) (hB : w.rangeAt B o (bCells l)) :
    Calls Try.prog 65 #[.slice (some ⟨B, o, none⟩) l.length c] w fun e w' => e = .returned (.int .i64 (num l)) ∧ w = w' := by
  obtain ⟨m, hm⟩ : ∃ m, m = l.length := ⟨_, rfl⟩
  have HM := Lib.hid hm
  rw [← hm] at hl ⊢
  have HB := Lib.hid hB
  clear hm hB
  go_enter Try.func65, Try.ntmps65
  go_wp2
  go_loopw [3, 8] (fun s3 s8 wr => ∃ i : Nat, i ≤ m ∧ s8 = .int .i64 i ∧ s3 = .int .i64 (num (l.take i)) ∧ wr = w) (fun _ s8 _ => m - (intOf s8).toNat)
  case atStart => exact ⟨0, Nat.zero_le _, rfl, rfl, rfl⟩
  case round =>
    obtain ⟨i, hi, rfl, rfl, rfl⟩ := hrel
    by_cases hlt : i < m
    · have d1 : decide ((i : Int) < (m : Int)) = true := decide_eq_true (by omega)
      have d1' : decide (i < m) = true := decide_eq_true hlt
      have hil : i < l.length := by have := HM.out; omega
      obtain ⟨x, hx⟩ : ∃ x, l[i] = x := ⟨_, rfl⟩
      have hx2 := x.toNat_lt
      have kc : wr.cell? ⟨B, o + i, none⟩ = some (.int .u8 ((x.toNat : Nat) : Int)) := HB.out i _ (by rw [← hx]; simp [bCells, List.getElem?_eq_getElem hil])
      have HN := Lib.hid (show num (l.take (i + 1)) = num (l.take i) * 256 + x.toNat by rw [num_take l i hil, hx])
      obtain ⟨N, hN⟩ : ∃ N, N = num (l.take i) := ⟨_, rfl⟩
      have hNl : N < 256 ^ 6 := by
        rw [hN]
        refine Nat.lt_of_lt_of_le (num_lt _) (Nat.pow_le_pow_right (by decide) ?_)
        rw [List.length_take]; omega
      rw [← hN] at HN ⊢
      generalize x.toNat = X at *
      have q1 : IntKind.i64.wrap ((N : Int) * 256) = ((N * 256 : Nat) : Int) := by rw [IntKind.wrap_i64]; omega
      have q2 : bits .or .i64 ((N * 256 : Nat) : Int) (X : Int) = ((N * 256 + X : Nat) : Int) := by rw [i64_or_nat _ _ (by omega) (by omega), or_byte N X hx2]
      have q3 : bits .or .i64 ((N : Int) * 256) (X : Int) = ((N * 256 + X : Nat) : Int) := by rw [← q2]; congr 1
      clear hN hx hil
      go_wp2
      go_roundw
      case rel => exact ⟨i + 1, by omega, by go_num, by rw [HN.out]; simp, trivial⟩
      case measure => simp [intOf]; omega
    · have d1 : decide ((i : Int) < (m : Int)) = false := decide_eq_false (by omega)
      have d1' : decide (i < m) = false := decide_eq_false hlt
      have HN := Lib.hid (show num (l.take i) = num l by rw [List.take_of_length_le (by have := HM.out; omega)])
      go_wp2
      rw [HN.out]
      go_ret
      exact ⟨rfl, rfl⟩
end Go.Proofs.Ytgcifhhbhoafcaa
