/-
  What the reference's Right answers, whole.
-/
import Derived.Test.YtcikelcecfapcaaDoorRespRightA
namespace Go.Proofs.YtcikelcecfapcaaDoor
open Go.RowKit Rp

theorem calm_nil : calm [] = true := rfl
theorem byte_is (b : UInt8) (k : Nat) (hk : k < 256) : (((b.toNat : Int) == (k : Int)) = (b == UInt8.ofNat k)) := by
  rw [Bool.eq_iff_iff, beq_iff_eq, beq_iff_eq]
  constructor
  · intro h
    apply UInt8.toNat_inj.1
    rw [UInt8.toNat_ofNat_of_lt' (by show k < 256; omega)]
    omega
  · rintro rfl
    rw [UInt8.toNat_ofNat_of_lt' (by show k < 256; omega)]
theorem drop_get (s : ByteArray) (k : Nat) (h : k < s.size) : s.data.toList.drop k = s[k] :: s.data.toList.drop (k + 1) := by
  rw [List.drop_eq_getElem_cons (by simpa using h)]; rfl
theorem calm_next (s : ByteArray) (j : Nat) (hj : j < s.size) (h : calm s.data.toList = calm (s.data.toList.drop j)) (h1 : (s[j] == 13) = false) (h2 : (s[j] == 10) = false) : calm s.data.toList = calm (s.data.toList.drop (j + 1)) := by
  rw [h, drop_get s j hj, calm, List.all_cons]
  simp [bne, h1, h2, calm]
theorem calm_stop (s : ByteArray) (j : Nat) (hj : j < s.size) (h : calm s.data.toList = calm (s.data.toList.drop j)) (h1 : (s[j] == 13) = true ∨ (s[j] == 10) = true) : calm s.data.toList = false := by
  rw [h, drop_get s j hj, calm, List.all_cons]
  rcases h1 with h1 | h1 <;> simp [bne, h1]

set_option maxRecDepth 20000 in
set_option maxHeartbeats 1000000 in
theorem rr_0 (S : ByteArray) (hs : S.size ≤ 9223372036854775807) (c : Nat) (p : Option Addr) (d : Int) (w : World) :
    Calls Tryd.prog 15 #[.agg #[.int .i64 0, .string S, .int .i64 0, .slice p 0 c], .int .i64 d] w fun e w' => e = .returned (.bool (calm S.data.toList)) ∧ Below w.heap.size w w' := by
  go_enter Tryd.func15, Tryd.ntmps15
  go_wp2
  go_loop [5] (fun i => ∃ j : Nat, j ≤ S.size ∧ i = .int .i64 j ∧ Hid (calm S.data.toList = calm (S.data.toList.drop j))) (fun i => S.size - (intOf i).toNat)
  case atStart => exact ⟨0, Nat.zero_le _, rfl, Lib.hid rfl⟩
  case round =>
    obtain ⟨j, hj, rfl, HM⟩ := hrel
    by_cases hjl : j < S.size
    · have hd1 : decide (j < S.size) = true := decide_eq_true hjl
      have b1 := byte_is S[j] 13 (by omega)
      have b2 := byte_is S[j] 10 (by omega)
      cases h1 : (S[j] == 13)
      · cases h2 : (S[j] == 10)
        · have g1 : ((S[j].toNat : Int) == 13) = false := b1.trans h1
          have g2 : ((S[j].toNat : Int) == 10) = false := b2.trans h2
          have HN := Lib.hid (calm_next S j hjl HM.out h1 h2)
          clear b1 b2 h1 h2
          go_wp2
          go_round
          case rel => exact ⟨j + 1, by omega, by go_num, HN⟩
          case measure => simp [intOf]; omega
        · have g1 : ((S[j].toNat : Int) == 13) = false := b1.trans h1
          have g2 : ((S[j].toNat : Int) == 10) = true := b2.trans h2
          have HN := Lib.hid (calm_stop S j hjl HM.out (Or.inr h2))
          clear b1 b2 h1 h2
          go_wp2
          go_ret
          exact ⟨by rw [HN.out]; rfl, (Below.refl _ _).alloc (Nat.le_refl _) _⟩
      · have g1 : ((S[j].toNat : Int) == 13) = true := b1.trans h1
        have HN := Lib.hid (calm_stop S j hjl HM.out (Or.inl h1))
        clear b1 b2 h1
        go_wp2
        go_ret
        exact ⟨by rw [HN.out]; rfl, (Below.refl _ _).alloc (Nat.le_refl _) _⟩
    · have hd1 : decide (j < S.size) = false := decide_eq_false hjl
      have HN := Lib.hid (show calm S.data.toList = true by rw [HM.out, List.drop_eq_nil_of_le (by simp; omega)]; rfl)
      go_wp2
      go_loop [6] (fun i => i = .int .i64 0) (fun i => 0)
      case atStart => rfl
      case round =>
        obtain rfl := hrel
        go_wp2
        go_ret
        exact ⟨by rw [HN.out]; rfl, (Below.refl _ _).alloc (Nat.le_refl _) _⟩

set_option maxRecDepth 20000 in
set_option maxHeartbeats 1000000 in
theorem rr_1 (S : ByteArray) (hs : S.size ≤ 9223372036854775807) (c : Nat) (p : Option Addr) (d : Int) (w : World) :
    Calls Tryd.prog 15 #[.agg #[.int .i64 1, .string S, .int .i64 0, .slice p 0 c], .int .i64 d] w fun e w' => e = .returned (.bool (calm S.data.toList)) ∧ Below w.heap.size w w' := by
  go_enter Tryd.func15, Tryd.ntmps15
  go_wp2
  go_loop [5] (fun i => ∃ j : Nat, j ≤ S.size ∧ i = .int .i64 j ∧ Hid (calm S.data.toList = calm (S.data.toList.drop j))) (fun i => S.size - (intOf i).toNat)
  case atStart => exact ⟨0, Nat.zero_le _, rfl, Lib.hid rfl⟩
  case round =>
    obtain ⟨j, hj, rfl, HM⟩ := hrel
    by_cases hjl : j < S.size
    · have hd1 : decide (j < S.size) = true := decide_eq_true hjl
      have b1 := byte_is S[j] 13 (by omega)
      have b2 := byte_is S[j] 10 (by omega)
      cases h1 : (S[j] == 13)
      · cases h2 : (S[j] == 10)
        · have g1 : ((S[j].toNat : Int) == 13) = false := b1.trans h1
          have g2 : ((S[j].toNat : Int) == 10) = false := b2.trans h2
          have HN := Lib.hid (calm_next S j hjl HM.out h1 h2)
          clear b1 b2 h1 h2
          go_wp2
          go_round
          case rel => exact ⟨j + 1, by omega, by go_num, HN⟩
          case measure => simp [intOf]; omega
        · have g1 : ((S[j].toNat : Int) == 13) = false := b1.trans h1
          have g2 : ((S[j].toNat : Int) == 10) = true := b2.trans h2
          have HN := Lib.hid (calm_stop S j hjl HM.out (Or.inr h2))
          clear b1 b2 h1 h2
          go_wp2
          go_ret
          exact ⟨by rw [HN.out]; rfl, (Below.refl _ _).alloc (Nat.le_refl _) _⟩
      · have g1 : ((S[j].toNat : Int) == 13) = true := b1.trans h1
        have HN := Lib.hid (calm_stop S j hjl HM.out (Or.inl h1))
        clear b1 b2 h1
        go_wp2
        go_ret
        exact ⟨by rw [HN.out]; rfl, (Below.refl _ _).alloc (Nat.le_refl _) _⟩
    · have hd1 : decide (j < S.size) = false := decide_eq_false hjl
      have HN := Lib.hid (show calm S.data.toList = true by rw [HM.out, List.drop_eq_nil_of_le (by simp; omega)]; rfl)
      go_wp2
      go_loop [6] (fun i => i = .int .i64 0) (fun i => 0)
      case atStart => rfl
      case round =>
        obtain rfl := hrel
        go_wp2
        go_ret
        exact ⟨by rw [HN.out]; rfl, (Below.refl _ _).alloc (Nat.le_refl _) _⟩

set_option maxRecDepth 20000 in
set_option maxHeartbeats 1000000 in
theorem rr_2 (n : Int) (c : Nat) (p : Option Addr) (d : Int) (w : World) :
    Calls Tryd.prog 15 #[.agg #[.int .i64 2, .string (bs []), .int .i64 n, .slice p 0 c], .int .i64 d] w fun e w' => e = .returned (.bool true) ∧ Below w.heap.size w w' := by
  have hn := bytes_nil
  go_enter Tryd.func15, Tryd.ntmps15
  go_wp2
  go_loop [5] (fun i => i = .int .i64 0) (fun i => 0)
  case atStart => rfl
  case round =>
    obtain rfl := hrel
    go_wp2
    all_goals
      go_loop [6] (fun i => i = .int .i64 0) (fun i => 0)
      case atStart => rfl
      case round =>
        obtain rfl := hrel
        go_wp2
        go_ret
        exact ⟨rfl, (Below.refl _ _).alloc (Nat.le_refl _) _⟩

set_option maxRecDepth 20000 in
set_option maxHeartbeats 1000000 in
theorem rr_3 (S : ByteArray) (c : Nat) (p : Option Addr) (d : Int) (w : World) :
    Calls Tryd.prog 15 #[.agg #[.int .i64 3, .string S, .int .i64 0, .slice p 0 c], .int .i64 d] w fun e w' => e = .returned (.bool true) ∧ Below w.heap.size w w' := by
  have hn := bytes_nil
  go_enter Tryd.func15, Tryd.ntmps15
  go_wp2
  go_loop [5] (fun i => i = .int .i64 0) (fun i => 0)
  case atStart => rfl
  case round =>
    obtain rfl := hrel
    go_wp2
    all_goals
      go_loop [6] (fun i => i = .int .i64 0) (fun i => 0)
      case atStart => rfl
      case round =>
        obtain rfl := hrel
        go_wp2
        go_ret
        exact ⟨rfl, (Below.refl _ _).alloc (Nat.le_refl _) _⟩

set_option maxRecDepth 20000 in
set_option maxHeartbeats 1000000 in
theorem rr_4 (c : Nat) (p : Option Addr) (d : Int) (w : World) :
    Calls Tryd.prog 15 #[.agg #[.int .i64 4, .string (bs []), .int .i64 0, .slice p 0 c], .int .i64 d] w fun e w' => e = .returned (.bool true) ∧ Below w.heap.size w w' := by
  have hn := bytes_nil
  go_enter Tryd.func15, Tryd.ntmps15
  go_wp2
  go_loop [5] (fun i => i = .int .i64 0) (fun i => 0)
  case atStart => rfl
  case round =>
    obtain rfl := hrel
    go_wp2
    all_goals
      go_loop [6] (fun i => i = .int .i64 0) (fun i => 0)
      case atStart => rfl
      case round =>
        obtain rfl := hrel
        go_wp2
        go_ret
        exact ⟨rfl, (Below.refl _ _).alloc (Nat.le_refl _) _⟩
end Go.Proofs.YtcikelcecfapcaaDoor
