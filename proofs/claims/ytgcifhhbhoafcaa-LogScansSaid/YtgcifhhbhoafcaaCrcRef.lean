/-
  What the reference's Sum answers: the checksum of a slice of bytes.
-/
import Derived.Test.YtgcifhhbhoafcaaCrcShift
namespace Go.Proofs.Ytgcifhhbhoafcaa
open Go.RowKit

/-- l's bytes lie at p. -/
def BytesAt (w : World) (p : Option Addr) (l : List Nat) : Prop := 0 < l.length → ∃ b o, p = some ⟨b, o, none⟩ ∧ ∀ i, i < l.length → w.cell? ⟨b, o + i, none⟩ = some (.int .u8 (l.getD i 0 : Nat))

theorem octet_at {l : List Nat} (h : Crc.Octets l) (i : Nat) : l.getD i 0 < 256 := by
  rw [List.getD_eq_getElem?_getD]
  rcases e : l[i]? with _ | x
  · simp
  · exact h x (List.mem_of_getElem? e)
theorem take_next (l : List Nat) (k : Nat) (h : k < l.length) : l.take (k + 1) = l.take k ++ [l.getD k 0] := by
  rw [List.take_add_one, List.getD_eq_getElem?_getD, List.getElem?_eq_getElem h]
  rfl
theorem octets_take {l : List Nat} (h : Crc.Octets l) (k : Nat) : Crc.Octets (l.take k) := fun x hx => h x (List.mem_of_mem_take hx)
theorem reg_next (r : Nat) (l : List Nat) (k : Nat) (h : k < l.length) : Crc.reg r (l.take (k + 1)) = Crc.step (Crc.reg r (l.take k)) (l.getD k 0) := by
  rw [take_next l k h, Crc.reg_append]
  rfl

/-- One round of the shift's loop, for a register that is a number. -/
theorem sh_even {r : Nat} (h : r % 2 = 0) : Crc.sh r = r / 2 := by unfold Crc.sh; rw [if_neg (by omega)]
theorem sh_odd {r : Nat} (h : r % 2 = 1) : Crc.sh r = (r / 2) ^^^ Crc.poly := by unfold Crc.sh; rw [if_pos h]

set_option maxHeartbeats 1000000 in
theorem refsum_some (l : List Nat) (ho : Crc.Octets l) (hl : l.length ≤ 1099511627776) (b o c : Nat) (w : World) (hc : ∀ i, i < l.length → w.cell? ⟨b, o + i, none⟩ = some (.int .u8 (l.getD i 0 : Nat))) :
    Calls Try.prog 69 #[.slice (some ⟨b, o, none⟩) l.length c] w fun e w' => e = .returned (.int .u32 (Crc.crc l : Nat)) ∧ w = w' := by
  obtain ⟨n, hn⟩ : ∃ n, n = l.length := ⟨_, rfl⟩
  rw [← hn] at hl hc ⊢
  have HC := Lib.hid hc
  clear hc
  have HN := Lib.hid hn
  clear hn
  go_enter Try.func69, Try.ntmps69
  go_wp2
  go_loopw [3, 4] (fun r i wr => ∃ k : Nat, k ≤ n ∧ i = .int .i64 k ∧ r = .int .u32 (Crc.reg 4294967295 (l.take k) : Nat) ∧ wr = w) (fun _ i _ => n - (intOf i).toNat)
  case atStart => exact ⟨0, Nat.zero_le _, rfl, rfl, rfl⟩
  case round =>
    obtain ⟨k, hk, rfl, rfl, rfl⟩ := hrel
    by_cases hlt : k < n
    · have hd : decide ((k : Int) < n) = true := decide_eq_true (by omega)
      have HS := Lib.hid (reg_next 4294967295 l k (by have := HN.out; omega))
      obtain ⟨R, hR⟩ : ∃ R, R = Crc.reg 4294967295 (l.take k) := ⟨_, rfl⟩
      have hRl : R < 4294967296 := by rw [hR]; exact Crc.reg_lt _ _ (by decide) (octets_take ho k)
      obtain ⟨x, hx⟩ : ∃ x, x = l.getD k 0 := ⟨_, rfl⟩
      have hxl : x < 256 := by rw [hx]; exact octet_at ho k
      have hcell := HC.out k hlt
      rw [← hx] at hcell HS
      rw [← hR] at HS ⊢
      have hX : bits .xor .u32 (R : Int) (x : Int) = ((R ^^^ x : Nat) : Int) := u32_xor_nat R x hRl (by omega)
      have hXl : R ^^^ x < 4294967296 := Crc.xor_lt _ _ hRl (by omega)
      have hxm : (x : Int) % 4294967296 = x := by omega
      clear hx hR
      go_wp2
      go_loopw [3, 5] (fun r i wi => ∃ m : Nat, m ≤ 8 ∧ i = .int .i64 m ∧ r = .int .u32 (Crc.shn m (R ^^^ x) : Nat) ∧ wi = wr) (fun _ i _ => 8 - (intOf i).toNat)
      case atStart => exact ⟨0, by omega, rfl, rfl, rfl⟩
      case round =>
        obtain ⟨m, hm, rfl, rfl, rfl⟩ := hrel
        have hYl := Crc.shn_lt m _ hXl
        have hE : Crc.shn (m + 1) (R ^^^ x) = Crc.sh (Crc.shn m (R ^^^ x)) := Crc.shn_add m 1 _
        by_cases h8 : m < 8
        · have HE := Lib.hid hE
          clear hE
          generalize hY : Crc.shn m (R ^^^ x) = Y at *
          obtain ⟨Z, hZ⟩ : ∃ Z, Z = Y / 2 := ⟨_, rfl⟩
          have hq : (Y : Int) / 2 = (Z : Int) := by omega
          rcases Nat.mod_two_eq_zero_or_one Y with h | h
          · have e := HE.out.trans (sh_even h)
            have hr : (Y : Int) % 2 = 0 := by omega
            rw [← hZ] at e
            have E := Lib.hid e
            clear e hY hZ h
            go_wp2
            go_roundw
            case rel => exact ⟨m + 1, by omega, by go_num, by rw [E.out], trivial⟩
            case measure => simp [intOf]; omega
          · have e := HE.out.trans (sh_odd h)
            have hr : (Y : Int) % 2 = 1 := by omega
            rw [← hZ] at e
            have E := Lib.hid e
            have hxo : bits .xor .u32 (Z : Int) 3988292384 = ((Z ^^^ Crc.poly : Nat) : Int) := u32_xor_nat Z 3988292384 (by omega) (by decide)
            clear e hY hZ h
            go_wp2
            go_roundw
            case rel => exact ⟨m + 1, by omega, by go_num, by rw [E.out], trivial⟩
            case measure => simp [intOf]; omega
        · have h8 : m = 8 := by omega
          subst h8
          go_wp2
          go_roundw
          case rel => exact ⟨k + 1, by omega, by go_num, by rw [HS.out]; rfl, trivial⟩
          case measure => simp [intOf]; omega
    · have h16 : k = n := by omega
      subst h16
      have hd : decide ((k : Int) < k) = false := decide_eq_false (by omega)
      obtain ⟨R, hR⟩ : ∃ R, R = Crc.reg 4294967295 (l.take k) := ⟨_, rfl⟩
      rw [← hR]
      have hX : bits .xor .u32 (R : Int) 4294967295 = ((Crc.crc l : Nat) : Int) := by
        rw [hR, HN.out, List.take_length]
        exact u32_xor_nat _ _ (Crc.reg_lt l _ (by decide) ho) (by decide)
      clear hR
      go_wp2
      go_ret
      exact ⟨rfl, rfl⟩

set_option maxHeartbeats 1000000 in
theorem refsum_none (p : Option Addr) (c : Nat) (w : World) :
    Calls Try.prog 69 #[.slice p 0 c] w fun e w' => e = .returned (.int .u32 0) ∧ w = w' := by
  have hX : bits .xor .u32 4294967295 4294967295 = 0 := by decide
  go_enter Try.func69, Try.ntmps69
  go_wp2
  go_loopw [3, 4] (fun r i wr => i = .int .i64 0 ∧ r = .int .u32 4294967295 ∧ wr = w) (fun _ _ _ => 0)
  case atStart => exact ⟨rfl, rfl, rfl⟩
  case round =>
    obtain ⟨rfl, rfl, rfl⟩ := hrel
    go_wp2
    go_ret
    exact ⟨rfl, rfl⟩

theorem refsum_any (l : List Nat) (ho : Crc.Octets l) (hl : l.length ≤ 1099511627776) (p : Option Addr) (c : Nat) (w : World) (hb : BytesAt w p l) :
    Calls Try.prog 69 #[.slice p l.length c] w fun e w' => e = .returned (.int .u32 (Crc.crc l : Nat)) ∧ w = w' := by
  rcases Nat.eq_zero_or_pos l.length with h | h
  · rw [h]
    obtain rfl := List.eq_nil_of_length_eq_zero h
    rw [Crc.crc_nil]
    exact refsum_none p c w
  · obtain ⟨b, o, rfl, hc⟩ := hb h
    exact refsum_some l ho hl b o c w hc
end Go.Proofs.Ytgcifhhbhoafcaa
