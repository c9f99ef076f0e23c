/-
  What strings.IndexRune answers in "\r\n", at whatever rune.
-/
import Derived.Test.YtcikelcecfapcaaDoorRespMem
import Derived.Test.YtcikelcecfapcaaDoorShelf
import Derived.Lib.QuoteLoop
import Derived.Lib.Builder
import Derived.Lib.Strings
import Derived.Lib.OthersKept
import Derived.Deep.LoopGhost
import Derived.BigQuiet
import Derived.Deep.QuietTactic
namespace Go.Proofs.YtcikelcecfapcaaDoor
open Go.RowKit Rp

theorem to_u8 (x : Nat) (h : x < 128) : IntKind.u8.wrap (x : Int) = x := by simp [IntKind.wrap, IntKind.bits, IntKind.signed]; omega

set_option maxHeartbeats 400000 in
theorem indexbyte_any (s : ByteArray) (x : Int) (w : World) :
    Calls Tryd.prog 105 #[.string s, .int .u8 x] w fun e w' => e = .returned (.int .i64 (Lib.indexByte s.data.toList x.toNat.toUInt8)) ∧ w = w' := by
  go_enter Tryd.func105, Tryd.ntmps105
  go_wp2_with fail
  refine (Tryd.stringslite_IndexByte s x w).mono ?_
  rintro e w' ⟨rfl, rfl⟩
  go_wp2
  go_ret
  exact ⟨rfl, rfl⟩

set_option maxRecDepth 100000 in
set_option maxHeartbeats 400000 in
theorem ir_ascii (x : Nat) (hx : x < 128) (w : World) :
    Calls Tryd.prog 86 #[.string ⟨#[13, 10]⟩, .int .i32 x] w fun e w' => e = .returned (.int .i64 (Lib.indexByte [13, 10] ((x : Int)).toNat.toUInt8)) ∧ w = w' := by
  have h1 : decide ((x : Int) < 128) = true := decide_eq_true (by omega)
  have h0 : decide ((0 : Int) ≤ (x : Int)) = true := decide_eq_true (by omega)
  have hb := to_u8 x hx
  go_enter Tryd.func86, Tryd.ntmps86
  go_wp2_with (go_at_call 105; refine (indexbyte_any _ _ _).mono ?_; rintro e w' ⟨rfl, rfl⟩)
  go_ret
  exact ⟨rfl, rfl⟩

/-- Where no rune of the text is the one. -/
theorem iter_two (pos : Nat) (h : pos < 2) : ((⟨#[13, 10]⟩ : ByteArray)[pos]'h).toNat < 128 := by
  match pos, h with
  | 0, _ => (show (13 : UInt8).toNat < 128; decide)
  | 1, _ => (show (10 : UInt8).toNat < 128; decide)

set_option maxRecDepth 100000 in
set_option maxHeartbeats 1000000 in
theorem ir_err (w : World) :
    Calls Tryd.prog 86 #[.string ⟨#[13, 10]⟩, .int .i32 65533] w fun e w' => e = .returned (.int .i64 (-1)) ∧ Below w.heap.size w w' := by
  go_enter Tryd.func86, Tryd.ntmps86
  go_wp2_with fail
  go_loopg [5, 6] 2 (fun g _ _ wx => ∃ i : Nat, i + g = 2 ∧ wx = w.iter ⟨#[13, 10]⟩ i)
  case atStart => exact ⟨0, rfl, rfl⟩
  case round =>
    obtain ⟨i, hig, rfl⟩ := hrel
    cases gk with
    | zero =>
      obtain rfl : i = 2 := by omega
      have hnx := run_next_end (P := Tryd.prog) w ⟨#[13, 10]⟩ 2
      go_wp2
      go_ret
      exact ⟨rfl, (Below.refl _ w).alloc (Nat.le_refl _) _⟩
    | succ g =>
      have hi : i < 2 := by omega
      obtain ⟨x, hx⟩ : ∃ x : UInt8, (⟨#[13, 10]⟩ : ByteArray)[i]'hi = x := ⟨_, rfl⟩
      have hx1 : x.toNat < 128 := by rw [← hx]; exact iter_two i hi
      have hnx := fun ty => run_next_ascii (P := Tryd.prog) w ⟨#[13, 10]⟩ i ty hi (by rw [hx]; exact hx1)
      rw [hx] at hnx
      have hne : ((x.toNat : Int) == 65533) = false := beq_eq_false_iff_ne.2 (by omega)
      clear hx
      go_wp2
      go_roundg g
      case measure => omega
      case rel => exact ⟨i + 1, by omega, rfl⟩

set_option maxRecDepth 100000 in
set_option maxHeartbeats 400000 in
theorem valid_any (c : Int) (w : World) (h0 : 128 ≤ c) (h : c < 55296 ∨ (57343 < c ∧ c ≤ 1114111)) :
    Calls Tryd.prog 94 #[.int .i32 c] w fun e w' => e = .returned (.bool true) ∧ w = w' := by
  rcases h with h | ⟨h, h2⟩
  · have h1 : decide (c < 55296) = true := decide_eq_true h
    have h2 : decide ((0 : Int) ≤ c) = true := decide_eq_true (by omega)
    go_enter Tryd.func94, Tryd.ntmps94
    go_wp2
    go_ret
    exact ⟨rfl, rfl⟩
  · have h1 : decide (c < 55296) = false := decide_eq_false (by omega)
    have h4 : decide ((0 : Int) ≤ c) = true := decide_eq_true (by omega)
    have h3 : decide (57343 < c) = true := decide_eq_true (by omega)
    have h5 : decide (c ≤ 1114111) = true := decide_eq_true (by omega)
    go_enter Tryd.func94, Tryd.ntmps94
    go_wp2
    go_ret
    exact ⟨rfl, rfl⟩

theorem u8_hi (n : Nat) (h : 128 ≤ n) (h2 : n < 256) : 128 ≤ (UInt8.ofNat n).toNat := by
  rw [UInt8.toNat_ofNat_of_lt' (by show n < 256; omega)]; exact h

theorem indexbyte_none (x : Int) (w : World) :
    Calls Tryd.prog 105 #[.string ByteArray.empty, .int .u8 x] w fun e w' => e = .returned (.int .i64 (-1)) ∧ w' = w :=
  (indexbyte_any ByteArray.empty x w).mono fun _ _ h => ⟨h.1, h.2.symm⟩

/-- A rune beyond ASCII has two bytes or more, none of them ASCII. -/
theorem encode_hi (c : Nat) (h : 128 ≤ c) (hv : c < 55296 ∨ (57343 < c ∧ c ≤ 1114111)) : (∃ a b : UInt8, Utf8.encode c = ⟨#[a, b]⟩ ∧ 128 ≤ b.toNat) ∨ (3 ≤ (Utf8.encode c).size ∧ (Utf8.encode c).size ≤ 4) := by
  have hval : Utf8.valid (c : Int) = true := by
    unfold Utf8.valid
    simp only [Bool.or_eq_true, Bool.and_eq_true, decide_eq_true_eq]
    omega
  have e : ((c : Int)).toNat = c := by omega
  unfold Utf8.encode
  simp only [hval, if_true, e]
  rw [if_neg (by omega)]
  by_cases h2 : c < 2048
  · rw [if_pos h2]
    exact .inl ⟨_, _, rfl, u8_hi _ (by omega) (by omega)⟩
  · rw [if_neg h2]
    split
    · exact .inr ⟨Nat.le_refl 3, by show 3 ≤ 4; omega⟩
    · exact .inr ⟨by show 3 ≤ 4; omega, Nat.le_refl 4⟩

set_option maxRecDepth 100000 in
set_option maxHeartbeats 1000000 in
theorem ir_big (c : Nat) (h : 128 ≤ c) (hv : c < 55296 ∨ (57343 < c ∧ c ≤ 1114111)) (hne : c ≠ 65533) (w : World) :
    Calls Tryd.prog 86 #[.string ⟨#[13, 10]⟩, .int .i32 c] w fun e w' => e = .returned (.int .i64 (-1)) ∧ Below w.heap.size w w' := by
  have h1 : decide ((c : Int) < 128) = false := decide_eq_false (by omega)
  have h0 : decide ((0 : Int) ≤ (c : Int)) = true := decide_eq_true (by omega)
  have h2 : ((c : Int) == 65533) = false := beq_eq_false_iff_ne.2 (by omega)
  have hcl : (c : Int) ≤ 1114111 := by omega
  have HV := Lib.hid (valid_any (c : Int) w (by omega) (by omega))
  have HE := encode_hi c h hv
  clear hv hne
  generalize hrs : Utf8.encode (c : Int) = rs at *
  rcases HE with ⟨a, b, hab, hb⟩ | ⟨h3, h4⟩
  · have hz : rs.size = 2 := by rw [hab]; rfl
    have hr1 : ∀ h, (rs[1]'h).toNat = b.toNat := by subst hab; intro h; rfl
    have HAB := Lib.hid hab
    obtain ⟨S, hS⟩ : ∃ S, S = (⟨#[13, 10]⟩ : ByteArray) := ⟨_, rfl⟩
    rw [← hS]
    have hSz : S.size = 2 := by rw [hS]; rfl
    have hS1 : ∀ h, (S[1]'h).toNat = 10 := by subst hS; intro h; rfl
    have hex : S.extract 2 2 = ⟨#[]⟩ := by rw [hS]; rfl
    have HS := Lib.hid hS
    clear hab hS
    have hb2 : ((10 : Int) == (b.toNat : Int)) = false := beq_eq_false_iff_ne.2 (by omega)
    have hnb : ((10 : Int) != (b.toNat : Int)) = true := by simpa using hb2
    go_enter Tryd.func86, Tryd.ntmps86
    go_wp2_with fail
    refine HV.out.mono ?_
    rintro e w' ⟨rfl, rfl⟩
    go_wp2_with fail
    go_step3
    go_wp2_with fail
    go_loopg [9, 10, 11, 12] 0 (fun g s9 s10 _ _ wx => s9 = .int .i64 1 ∧ s10 = .int .i64 0 ∧ wx = w)
    case atStart => exact ⟨rfl, rfl, rfl⟩
    case round =>
      obtain ⟨rfl, rfl, rfl⟩ := hrel
      go_wp2_with fail
      go_step3
      go_wp2_with fail
      go_region
      go_wp2_with fail
      have hw2 : IntKind.i64.wrap 2 = 2 := by decide
      have hbW : Below wr.heap.size wr wr.drew := (Below.refl _ wr).drew
      generalize wr.drew = W2 at hbW ⊢
      go_quiet ((go_at_call 105; exact Calls.quiet_of_same (indexbyte_none _ _)))
      go_wp2_with fail
      rw [Exit.noGoto_ret]
      go_wp2_with fail
      try rw [Exit.noGoto_ret]
      go_ret
      exact ⟨rfl, hbW.trans ⟨rfl, rfl, rfl, Nat.le_refl _, fun _ _ => rfl⟩⟩
  · have h3' : decide ((rs.size : Int) - 1 < 2) = false := decide_eq_false (by omega)
    go_enter Tryd.func86, Tryd.ntmps86
    go_wp2_with fail
    refine HV.out.mono ?_
    rintro e w' ⟨rfl, rfl⟩
    go_wp2_with fail
    go_step3
    go_wp2_with fail
    go_loopg [9, 10, 11, 12] 0 (fun g s9 s10 _ _ wx => s9 = .int .i64 ((rs.size : Int) - 1) ∧ s10 = .int .i64 0 ∧ wx = w)
    case atStart => exact ⟨rfl, rfl, rfl⟩
    case round =>
      obtain ⟨rfl, rfl, rfl⟩ := hrel
      go_wp2
      try rw [Exit.noGoto_ret]
      go_ret
      exact ⟨rfl, Below.refl _ _⟩
end Go.Proofs.YtcikelcecfapcaaDoor
