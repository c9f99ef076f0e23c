/-
  Slots: numbers as bytes; room, stamped, slot.
-/
import Derived.Test.YtgcifhhbhoafcaaSlotPure
import Derived.Test.YtgcifhhbhoafcaaLogHead
namespace Go.Proofs.Ytgcifhhbhoafcaa
open Go.RowKit Go.Shelf

set_option maxHeartbeats 1000000 in
theorem sput_any (t : TypeId) (B o m c : Nat) (n : Nat) (hm : m ≤ 8) (cur : List Value) (hcl : o + m ≤ cur.length) (w : World) (hB : w.heap[B]? = some (.cells cur.toArray t (0, 0))) :
    Calls Try.prog 74 #[.slice (some ⟨B, o, none⟩) m c, .int .i64 n] w fun e w' => e = .returned (.tuple #[]) ∧ w'.heap[B]? = some (.cells (cur.take o ++ bCells (be m n) ++ cur.drop (o + m)).toArray t (0, 0)) ∧ Chg (fun k => k = B) w w' := by
  have HCL := Lib.hid hcl
  go_enter Try.func74, Try.ntmps74
  go_wp2
  go_loopw [7] (fun s7 wr => ∃ i : Nat, i ≤ m ∧ s7 = .int .i64 i ∧ Hid (wr.heap[B]? = some (.cells (cur.take (o + m - i) ++ bCells (be i n) ++ cur.drop (o + m)).toArray t (0, 0))) ∧ Hid (Chg (fun k => k = B) w wr)) (fun s7 _ => m - (intOf s7).toNat)
  case atStart => exact ⟨0, Nat.zero_le _, rfl, Lib.hid (by rw [Nat.sub_zero]; simpa [be, bCells] using hB), Lib.hid (Chg.refl _ _)⟩
  case round =>
    obtain ⟨i, hi, rfl, HC, HK⟩ := hrel
    by_cases hlt : i < m
    · have d1 : decide ((i : Int) < (m : Int)) = true := decide_eq_true (by omega)
      have d1' : decide (i < m) = true := decide_eq_true hlt
      obtain ⟨y, hy⟩ : ∃ y, y = n / 256 ^ i := ⟨_, rfl⟩
      have hp : (2 : Int) ^ (8 * i) = ((256 ^ i : Nat) : Int) := by
        rw [show (256 : Nat) ^ i = 2 ^ (8 * i) by rw [Nat.pow_mul]]
        simp
      have hlen : (cur.take (o + m - i) ++ bCells (be i n) ++ cur.drop (o + m)).length = cur.length := by
        simp only [List.length_append, List.length_take, List.length_drop, bCells_len, be_len]
        omega
      obtain ⟨u, hu⟩ : ∃ u, (cur.take (o + m - i) ++ bCells (be i n) ++ cur.drop (o + m))[o + (m - 1 - i)]? = some u := ⟨_, List.getElem?_eq_getElem (by rw [hlen]; omega)⟩
      have kc : wr.cell? ⟨B, o + (m - 1 - i), none⟩ = some u := by rw [cell_in HC.out, List.getElem?_toArray]; exact hu
      have kf := frozen_in HC.out (o + (m - 1 - i))
      have hval : Value.int .u8 ((n : Int) / 256 ^ i % 256) = Value.int .u8 (((UInt8.ofNat (n / 256 ^ i % 256)).toNat : Nat) : Int) := by
        rw [show (UInt8.ofNat (n / 256 ^ i % 256)).toNat = n / 256 ^ i % 256 from UInt8.toNat_ofNat_of_lt' (Nat.mod_lt _ (by decide))]
        simp
      have HSTEP := Lib.hid (show (wr.setCell ⟨B, o + (m - 1 - i), none⟩ (.int .u8 (((UInt8.ofNat (n / 256 ^ i % 256)).toNat : Nat) : Int))).heap[B]? = some (.cells (cur.take (o + m - (i + 1)) ++ bCells (be (i + 1) n) ++ cur.drop (o + m)).toArray t (0, 0)) by
        rw [setCell_eq_setRow wr B _ _ _ _ _ HC.out, setRow_heap wr B _ _ _ _ HC.out]
        congr 3
        apply Array.toList_inj.1
        rw [Array.toList_setIfInBounds, List.toList_toArray, be_cons]
        apply List.ext_getElem?
        intro j
        have ht : (cur.take (o + m - i)).length = o + m - i := by rw [List.length_take]; omega
        have ht2 : (cur.take (o + m - (i + 1))).length = o + m - (i + 1) := by rw [List.length_take]; omega
        rw [List.getElem?_set, hlen]
        have hb : (bCells (be i n)).length = i := by rw [bCells_len, be_len]
        by_cases e : o + (m - 1 - i) = j
        · subst e
          rw [if_pos rfl, if_pos (by omega), List.append_assoc, List.getElem?_append_right (by omega), ht2, show o + (m - 1 - i) - (o + m - (i + 1)) = 0 by omega]
          rfl
        · rw [if_neg e]
          by_cases h1 : j < o + m - (i + 1)
          · rw [List.append_assoc, List.append_assoc, List.getElem?_append_left (by omega), List.getElem?_append_left (by omega), List.getElem?_take_of_lt (by omega), List.getElem?_take_of_lt (by omega)]
          · rw [List.toList_toArray, List.append_assoc, List.append_assoc, List.getElem?_append_right (l₁ := cur.take (o + m - i)) (by omega), List.getElem?_append_right (l₁ := cur.take (o + m - (i + 1))) (by omega), ht, ht2, show j - (o + m - (i + 1)) = (j - (o + m - i)) + 1 by omega]
            rfl)
      have HK2 := Lib.hid (HK.out.trans (Chg.setCell wr ⟨B, o + (m - 1 - i), none⟩ (.int .u8 (((UInt8.ofNat (n / 256 ^ i % 256)).toNat : Nat) : Int))))
      clear hu hlen
      go_wp2
      generalize wr.setCell ⟨B, o + (m - 1 - i), none⟩ (.int .u8 (((UInt8.ofNat (n / 256 ^ i % 256)).toNat : Nat) : Int)) = w2 at *
      go_roundw
      case rel => exact ⟨i + 1, by omega, by go_num, HSTEP, HK2⟩
      case measure => simp [intOf]; omega
    · have d1 : decide ((i : Int) < (m : Int)) = false := decide_eq_false (by omega)
      have d1' : decide (i < m) = false := decide_eq_false hlt
      obtain rfl : i = m := by omega
      have HC2 := Lib.hid (show wr.heap[B]? = some (.cells (cur.take o ++ bCells (be i n) ++ cur.drop (o + i)).toArray t (0, 0)) by
        have h := HC.out
        rwa [Nat.add_sub_cancel] at h)
      go_wp2
      go_end0
      exact ⟨rfl, HC2.out, HK.out⟩


theorem or_wrap (z : Int) (X : Nat) (hX : X < 256) : bits .or .i64 (IntKind.i64.wrap (z * 256)) (X : Int) = IntKind.i64.wrap (z * 256 + (X : Int)) := by
  obtain ⟨r, hr⟩ : ∃ r : Nat, (z * 256) % 18446744073709551616 = ((r * 256 : Nat) : Int) := ⟨((z * 256) % 18446744073709551616 / 256).toNat, by omega⟩
  have e1 : (BitVec.ofInt 64 (IntKind.i64.wrap (z * 256))).toNat = r * 256 := by
    rw [BitVec.toNat_ofInt, IntKind.wrap_i64]
    show (_ % (18446744073709551616 : Int)).toNat = _
    omega
  have e2 : (BitVec.ofInt 64 (X : Int)).toNat = X := by
    rw [BitVec.ofInt_natCast, BitVec.toNat_ofNat]; exact Nat.mod_eq_of_lt (by omega)
  show IntKind.i64.wrap ((BitVec.ofInt 64 (IntKind.i64.wrap (z * 256)) ||| BitVec.ofInt 64 (X : Int)).toNat : Int) = _
  rw [BitVec.toNat_or, e1, e2, or_byte r X hX, IntKind.wrap_i64, IntKind.wrap_i64]
  omega
theorem wrap_wrap (N : Nat) (X : Nat) : IntKind.i64.wrap (IntKind.i64.wrap (N : Int) * 256 + (X : Int)) = IntKind.i64.wrap ((N * 256 + X : Nat) : Int) := by
  simp only [IntKind.wrap_i64]
  omega
set_option maxHeartbeats 1000000 in
theorem snumber_any (B o c : Nat) (l : List UInt8) (hl : l.length ≤ 8) (w : World) (hB : w.rangeAt B o (bCells l)) :
    Calls Try.prog 71 #[.slice (some ⟨B, o, none⟩) l.length c] w fun e w' => e = .returned (.int .i64 (IntKind.i64.wrap (num l : Int))) ∧ w = w' := by
  obtain ⟨m, hm⟩ : ∃ m, m = l.length := ⟨_, rfl⟩
  have HM := Lib.hid hm
  rw [← hm] at hl ⊢
  have HB := Lib.hid hB
  clear hm hB
  go_enter Try.func71, Try.ntmps71
  go_wp2
  go_loopw [3, 8] (fun s3 s8 wr => ∃ i : Nat, ∃ z : Int, i ≤ m ∧ s8 = .int .i64 i ∧ s3 = .int .i64 z ∧ Hid (z = IntKind.i64.wrap (num (l.take i) : Int)) ∧ wr = w) (fun _ s8 _ => m - (intOf s8).toNat)
  case atStart => exact ⟨0, 0, Nat.zero_le _, rfl, rfl, Lib.hid (by rfl), rfl⟩
  case round =>
    obtain ⟨i, z, hi, rfl, rfl, HZ, rfl⟩ := hrel
    by_cases hlt : i < m
    · have d1 : decide ((i : Int) < (m : Int)) = true := decide_eq_true (by omega)
      have d1' : decide (i < m) = true := decide_eq_true hlt
      have hil : i < l.length := by have := HM.out; omega
      obtain ⟨x, hx⟩ : ∃ x, l[i] = x := ⟨_, rfl⟩
      have hx2 := x.toNat_lt
      have kc : wr.cell? ⟨B, o + i, none⟩ = some (.int .u8 ((x.toNat : Nat) : Int)) := HB.out i _ (by rw [← hx]; simp [bCells, List.getElem?_eq_getElem hil])
      have HN := Lib.hid (show num (l.take (i + 1)) = num (l.take i) * 256 + x.toNat by rw [num_take l i hil, hx])
      obtain ⟨z2, hz2⟩ : ∃ z2, IntKind.i64.wrap (z * 256 + (x.toNat : Int)) = z2 := ⟨_, rfl⟩
      have HZ2 := Lib.hid (show z2 = IntKind.i64.wrap (num (l.take (i + 1)) : Int) by rw [← hz2, HZ.out, HN.out, wrap_wrap])
      have q2 := or_wrap z x.toNat hx2
      rw [hz2] at q2
      have q3 : bits .or .i64 (wrap64 (z * 256)) (x.toNat : Int) = z2 := by
        rw [← q2]
        congr 1
        rw [IntKind.wrap_i64]
        first
          | rfl
          | (unfold wrap64; omega)
      generalize x.toNat = X at *
      clear hx hil hz2
      go_wp2
      go_roundw
      case rel => exact ⟨i + 1, z2, by omega, by go_num, rfl, HZ2, trivial⟩
      case measure => simp [intOf]; omega
    · have d1 : decide ((i : Int) < (m : Int)) = false := decide_eq_false (by omega)
      have d1' : decide (i < m) = false := decide_eq_false hlt
      have HN := Lib.hid (show z = IntKind.i64.wrap (num l : Int) by rw [HZ.out, List.take_of_length_le (by have := HM.out; omega)])
      go_wp2
      rw [HN.out]
      go_ret
      exact ⟨rfl, rfl⟩

theorem sroom_any (m : Nat) (h1 : 1 ≤ m) (h2 : m ≤ 100000) (w : World) :
    Calls Try.prog 43 #[.int .i64 m] w fun e w' => e = .returned (.int .i64 (roomS m)) ∧ w = w' := by
  obtain ⟨q, hq⟩ : ∃ q, q = (m - 1) * 64 := ⟨_, rfl⟩
  obtain ⟨r, hr⟩ : ∃ r, r = roomS m := ⟨_, rfl⟩
  have e1 : ((m : Int) - 1) * 64 = (q : Int) := by omega
  have e2 : IntKind.i64.wrap ((m : Int) - 1) = (m : Int) - 1 := by rw [IntKind.wrap_i64]; omega
  have e3 : (if (1048576 : Int) < (q : Int) then (1048576 : Int) else (q : Int)) = (r : Int) := by
    rw [hr]; unfold roomS; rw [← hq]; split <;> omega
  have e4 : (if (q : Int) < (1048576 : Int) then (q : Int) else (1048576 : Int)) = (r : Int) := by
    rw [hr]; unfold roomS; rw [← hq]; split <;> omega
  have e5 : min (q : Int) 1048576 = (r : Int) := by
    rw [hr]; unfold roomS; rw [← hq]; omega
  rw [← hr]
  clear hr
  have hqb : q ≤ 10000000 := by omega
  clear hq
  go_enter Try.func43, Try.ntmps43
  go_wp2
  go_ret
  exact ⟨rfl, rfl⟩

/-- A stamp that a checkpoint may have. -/
def stampOk (z : Int) : Bool := decide (0 ≤ z) && decide (z ≤ 1152921504606846975)
theorem stamped_any (z : Int) (v : Value) (w : World) :
    Calls Try.prog 44 #[.agg #[.int .i64 z, v]] w fun e w' => e = .returned (.bool (stampOk z)) ∧ Below w.heap.size w w' := by
  by_cases h0 : 0 ≤ z
  · have d0 : decide (0 ≤ z) = true := decide_eq_true h0
    by_cases h1 : z ≤ 1152921504606846975
    · have d1 : decide (z ≤ 1152921504606846975) = true := decide_eq_true h1
      have hS : stampOk z = true := by unfold stampOk; rw [d0, d1]; rfl
      rw [hS]
      clear hS
      go_enter Try.func44, Try.ntmps44
      go_wp2
      go_ret
      exact ⟨rfl, bA (Below.refl _ _) _⟩
    · have d1 : decide (z ≤ 1152921504606846975) = false := decide_eq_false h1
      have hS : stampOk z = false := by unfold stampOk; rw [d0, d1]; rfl
      rw [hS]
      clear hS
      go_enter Try.func44, Try.ntmps44
      go_wp2
      go_ret
      exact ⟨rfl, bA (Below.refl _ _) _⟩
  · have d0 : decide (0 ≤ z) = false := decide_eq_false h0
    have hS : stampOk z = false := by unfold stampOk; rw [d0]; rfl
    rw [hS]
    clear hS
    go_enter Try.func44, Try.ntmps44
    go_wp2
    go_ret
    exact ⟨rfl, bA (Below.refl _ _) _⟩
theorem and_one (g : Nat) (hg : g < 9223372036854775808) : bits .and .i64 (g : Int) 1 = ((g % 2 : Nat) : Int) := by
  have e1 : (BitVec.ofInt 64 (g : Int)).toNat = g := by
    rw [BitVec.ofInt_natCast, BitVec.toNat_ofNat]; exact Nat.mod_eq_of_lt (by omega)
  show IntKind.i64.wrap ((BitVec.ofInt 64 (g : Int) &&& BitVec.ofInt 64 (1 : Int)).toNat : Int) = _
  rw [BitVec.toNat_and, e1, show (BitVec.ofInt 64 (1 : Int)).toNat = 1 from rfl, Nat.and_one_is_mod, IntKind.wrap_i64]
  omega
theorem slot_any (g : Nat) (hg : g < 9223372036854775808) (a b : Value) (w : World) :
    Calls Try.prog 58 #[.agg #[.int .i64 g, a, b]] w fun e w' => e = .returned (.int .i64 ((g % 2 : Nat) : Int)) ∧ Below w.heap.size w w' := by
  have hx := and_one g hg
  generalize ((g % 2 : Nat) : Int) = r at *
  go_enter Try.func58, Try.ntmps58
  go_wp2
  go_ret
  exact ⟨rfl, bA (Below.refl _ _) _⟩
end Go.Proofs.Ytgcifhhbhoafcaa
