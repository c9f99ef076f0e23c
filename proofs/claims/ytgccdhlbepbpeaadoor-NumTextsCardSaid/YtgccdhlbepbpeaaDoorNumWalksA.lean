/-
  What num.Add and num.Sub answer: the sum of a and further numbers, added one by one, and true; 0 and false if one of the sums on the way does not fit into 64 bits. Conditions: the arguments are 64-bit integers; the further numbers lie in memory.
-/
import Derived.Test.YtgccdhlbepbpeaaDoorChecked
import Derived.WalkKit
import Derived.LoopTactic
import Derived.Below
import Derived.Lib.Hide
import Derived.IntWalk
namespace Go.Proofs.YtgccdhlbepbpeaaDoor
open Go.RowKit

/-- A number that 64 bits hold. -/
def Fits (n : Int) : Prop := -9223372036854775808 ≤ n ∧ n ≤ 9223372036854775807
instance (n : Int) : Decidable (Fits n) := by unfold Fits; infer_instance

theorem wrap64_hi (n : Int) (h : 9223372036854775807 < n) (h2 : n ≤ 18446744073709551615) : wrap64 n = n - 18446744073709551616 := by
  unfold wrap64; omega
theorem wrap64_lo (n : Int) (h : n < -9223372036854775808) (h2 : -18446744073709551616 ≤ n) : wrap64 n = n + 18446744073709551616 := by
  unfold wrap64; omega

set_option maxHeartbeats 400000 in
theorem sub_yes (a b : Int) (w : World) (ha : Fits a) (hb : Fits b) (h : Fits (a - b)) :
    Calls Tryd.prog 15 #[.int .i64 a, .int .i64 b] w fun e w' => e = .returned (.tuple #[.int .i64 (a - b), .bool true]) ∧ w = w' := by
  obtain ⟨ha0, ha1⟩ := ha
  obtain ⟨hb0, hb1⟩ := hb
  obtain ⟨h0, h1⟩ := h
  by_cases hc : 0 < b
  · have hd : decide (a - b < a) = true := by simp; omega
    go_enter Tryd.func15, Tryd.ntmps15
    go_wp2
    go_ret2
    exact ⟨rfl, rfl⟩
  · have hd : decide (a - b < a) = false := by simp; omega
    go_enter Tryd.func15, Tryd.ntmps15
    go_wp2
    go_ret2
    exact ⟨rfl, rfl⟩

set_option maxHeartbeats 400000 in
theorem sub_no (a b : Int) (w : World) (ha : Fits a) (hb : Fits b) (h : ¬ Fits (a - b)) :
    Calls Tryd.prog 15 #[.int .i64 a, .int .i64 b] w fun e w' => e = .returned (.tuple #[.int .i64 0, .bool false]) ∧ w = w' := by
  obtain ⟨ha0, ha1⟩ := ha
  obtain ⟨hb0, hb1⟩ := hb
  unfold Fits at h
  by_cases hc : 0 < b
  · have hd : decide (wrap64 (a - b) < a) = false := by rw [wrap64_lo _ (by omega) (by omega)]; simp; omega
    clear h
    go_enter Tryd.func15, Tryd.ntmps15
    go_wp2
    go_ret2
    exact ⟨rfl, rfl⟩
  · have hd : decide (wrap64 (a - b) < a) = true := by rw [wrap64_hi _ (by omega) (by omega)]; simp; omega
    clear h
    go_enter Tryd.func15, Tryd.ntmps15
    go_wp2
    go_ret2
    exact ⟨rfl, rfl⟩

/-- a and the numbers of bs, added one by one while the sums fit. -/
def addAll : Int → List Int → Option Int
  | s, [] => some s
  | s, b :: bs => if Fits (s + b) then addAll (s + b) bs else none

/-- What Add hands back. -/
def sumOf : Option Int → Ending
  | some s => .returned (.tuple #[.int .i64 s, .bool true])
  | none => .returned (.tuple #[.int .i64 0, .bool false])
def AddEnds (a : Int) (zs : List Int) (w : World) (e : Ending) (w' : World) : Prop := e = sumOf (addAll a zs) ∧ w = w'
theorem addEnds_mk {a : Int} {zs : List Int} {w : World} {e : Ending} (h : e = sumOf (addAll a zs)) : AddEnds a zs w e w := ⟨h, rfl⟩

theorem addAll_step {s : Int} {zs : List Int} {k : Nat} (hk : k < zs.length) (h : Fits (s + zs[k]?.getD 0)) : addAll s (zs.drop k) = addAll (s + zs[k]?.getD 0) (zs.drop (k + 1)) := by
  rw [List.drop_eq_getElem_cons hk]
  have e : zs[k]?.getD 0 = zs[k] := by simp [hk]
  rw [e] at h ⊢
  simp [addAll, h]
theorem addAll_stop {s : Int} {zs : List Int} {k : Nat} (hk : k < zs.length) (h : ¬ Fits (s + zs[k]?.getD 0)) : addAll s (zs.drop k) = none := by
  rw [List.drop_eq_getElem_cons hk]
  have e : zs[k]?.getD 0 = zs[k] := by simp [hk]
  rw [e] at h
  simp [addAll, h]

set_option maxHeartbeats 800000 in
theorem add_some (a : Int) (zs : List Int) (p : Nat) (w : World) (ha : Fits a) (hz : ∀ z ∈ zs, Fits z) (hn : zs.length ≤ 1000)
    (hc : ∀ k, k < zs.length → w.cell? ⟨p, k, none⟩ = some (.int .i64 (zs[k]?.getD 0))) :
    Calls Tryd.prog 13 #[.int .i64 a, .slice (some ⟨p, 0, none⟩) zs.length zs.length] w (AddEnds a zs w) := by
  have HZ := Lib.hid hz
  have HC := Lib.hid hc
  clear hz hc
  go_enter Tryd.func13, Tryd.ntmps13
  go_wp2
  go_loop [6, 13] (fun s i => ∃ (k : Nat) (t : Int), k ≤ zs.length ∧ i = .int .i64 k ∧ s = .int .i64 t ∧ Fits t ∧ addAll t (zs.drop k) = addAll a zs) (fun _ i => zs.length - (intOf i).toNat)
  case atStart => exact ⟨0, a, Nat.zero_le _, rfl, rfl, ha, rfl⟩
  case round =>
    obtain ⟨k, t, hk, rfl, rfl, ⟨ht0, ht1⟩, hadd⟩ := hrel
    have HA := Lib.hid hadd
    clear hadd
    by_cases hlt : k < zs.length
    · obtain ⟨b, hb⟩ : ∃ b, b = zs[k]?.getD 0 := ⟨_, rfl⟩
      have hfb : Fits b := by rw [hb]; simp only [List.getElem?_eq_getElem hlt, Option.getD_some]; exact HZ.out _ (List.getElem_mem hlt)
      obtain ⟨hb0, hb1⟩ := hfb
      have hcell := HC.out k hlt
      rw [← hb] at hcell
      have HB := Lib.hid hb
      clear hb
      by_cases hf : Fits (t + b)
      · have HS : Hid (addAll t (zs.drop k) = addAll (t + b) (zs.drop (k + 1))) := by
          have hb := HB.out
          subst hb
          exact addAll_step hlt hf
        obtain ⟨hf0, hf1⟩ := hf
        by_cases hc0 : b < 0
        · have hd : decide (t + b < t) = true := by simp; omega
          go_wp2
          go_round
          case rel => exact ⟨k + 1, t + b, by omega, by go_num, rfl, ⟨hf0, hf1⟩, by rw [← HA.out, HS.out]⟩
          case measure => simp [intOf]; omega
        · have hd : decide (t + b < t) = false := by simp; omega
          go_wp2
          go_round
          case rel => exact ⟨k + 1, t + b, by omega, by go_num, rfl, ⟨hf0, hf1⟩, by rw [← HA.out, HS.out]⟩
          case measure => simp [intOf]; omega
      · have HS : Hid (addAll t (zs.drop k) = none) := by
          have hb := HB.out
          subst hb
          exact addAll_stop hlt hf
        unfold Fits at hf
        by_cases hc0 : b < 0
        · have hd : decide (wrap64 (t + b) < t) = false := by rw [wrap64_lo _ (by omega) (by omega)]; simp; omega
          clear hf
          go_wp2
          go_ret2
          exact addEnds_mk (by rw [← HA.out, HS.out]; rfl)
        · have hd : decide (wrap64 (t + b) < t) = true := by rw [wrap64_hi _ (by omega) (by omega)]; simp; omega
          clear hf
          go_wp2
          go_ret2
          exact addEnds_mk (by rw [← HA.out, HS.out]; rfl)
    · go_wp2
      go_ret2
      exact addEnds_mk (by rw [← HA.out, List.drop_eq_nil_of_le (by omega)]; rfl)

set_option maxHeartbeats 400000 in
theorem add_none (a : Int) (w : World) :
    Calls Tryd.prog 13 #[.int .i64 a, .slice none 0 0] w (AddEnds a [] w) := by
  go_enter Tryd.func13, Tryd.ntmps13
  go_wp2
  go_loop [6, 13] (fun s i => i = .int .i64 0 ∧ s = .int .i64 a) (fun _ _ => 0)
  case atStart => exact ⟨rfl, rfl⟩
  case round =>
    obtain ⟨rfl, rfl⟩ := hrel
    go_wp2
    go_ret2
    exact addEnds_mk rfl
end Go.Proofs.YtgccdhlbepbpeaaDoor
