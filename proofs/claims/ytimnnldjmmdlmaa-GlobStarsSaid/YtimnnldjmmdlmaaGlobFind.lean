/-
  What glob.find answers.
-/
import Derived.Test.YtimnnldjmmdlmaaGlobBegins
namespace Go.Proofs.Ytimnnldjmmdlmaa
open Go.RowKit

/-- What 'find' answers, as the function returns it. -/
def findPair (o : Option Nat) : Ending :=
  match o with
  | none => .returned (.tuple #[.int .i64 0, .bool false])
  | some e => .returned (.tuple #[.int .i64 e, .bool true])

theorem findAt_yes (l : List UInt8) (Ps : List Glob.CSet) (k : Nat) (hk : k < l.length + 1 - Ps.length) (h : Glob.begins (l.drop k) Ps = true) (hno : ∀ j, j < k → Glob.begins (l.drop j) Ps = false) :
    Glob.findAt l Ps = some k := by
  unfold Glob.findAt
  rw [List.find?_range_eq_some]
  exact ⟨h, by simpa using hk, fun j hj => by rw [hno j hj]; rfl⟩

theorem findAt_no (l : List UInt8) (Ps : List Glob.CSet) (hno : ∀ j, j < l.length + 1 - Ps.length → Glob.begins (l.drop j) Ps = false) : Glob.findAt l Ps = none := by
  unfold Glob.findAt
  rw [List.find?_eq_none]
  intro j hj
  rw [hno j (by simpa using hj)]
  simp

theorem findAt_le (l : List UInt8) (Ps : List Glob.CSet) (k : Nat) (h : Glob.findAt l Ps = some k) : k + Ps.length ≤ l.length := by
  unfold Glob.findAt at h
  rw [List.find?_range_eq_some] at h
  have := h.2.1
  simp at this
  omega

set_option maxHeartbeats 1000000 in
theorem find_any (l : List UInt8) (B : Nat) (v : Value) (Ps : List Glob.CSet) (w : World) (hR : RunAt B v Ps w) (hs : l.length ≤ 1099511627776) (hp : Ps.length ≤ 1099511627776) :
    Calls Try.prog 14 #[.string (bs l), v] w fun e w' => e = findPair (Glob.findAt l Ps) ∧ Below w.heap.size w w' := by
  obtain ⟨a, cap, rfl, _, _⟩ := run_form hR
  have HZ := Lib.hid (bs_size l)
  have hzb : (bs l).size ≤ 1099511627776 := by rw [bs_size]; exact hs
  go_enter Try.func14, Try.ntmps14
  go_wp2
  go_loopw [13] (fun i wr => ∃ k : Nat, k ≤ l.length + 1 - Ps.length ∧ i = .int .i64 k ∧ Hid (∀ j, j < k → Glob.begins (l.drop j) Ps = false) ∧ Below w.heap.size w wr) (fun i _ => l.length + 1 - Ps.length - (intOf i).toNat)
  case atStart => exact ⟨0, Nat.zero_le _, rfl, Lib.hid (fun j hj => by omega), Below.refl _ _⟩
  case round =>
    obtain ⟨k, hk, rfl, HN, HB⟩ := hrel
    by_cases hlt : k < l.length + 1 - Ps.length
    · have hd : decide ((k : Int) < ((bs l).size : Int) - (Ps.length : Int) + 1) = true := by have := HZ.out; simp; omega
      have hk2 : k ≤ (bs l).size := by have := HZ.out; omega
      have hfrom : (bs l).extract k (bs l).size = bs (l.drop k) := bs_from _ _ _ HZ.out
      have hR' := run_below hR HB
      cases hq : Glob.begins (l.drop k) Ps
      · go_wp2_with fail
        refine (begins_at_any (l.drop k) B _ Ps _ hR' (by simp; omega) (by simp; omega)).mono ?_
        rw [hq]
        rintro e w1 ⟨rfl, B1⟩
        go_wp2
        go_roundw
        case rel =>
          refine ⟨k + 1, by omega, by go_num, Lib.hid (fun j hj => ?_), HB.trans (B1.mono HB.size)⟩
          rcases Nat.lt_or_ge j k with h | h
          · exact HN.out j h
          · have : j = k := by omega
            subst this
            exact hq
        case measure => simp [intOf]; omega
      · go_wp2_with fail
        refine (begins_at_any (l.drop k) B _ Ps _ hR' (by simp; omega) (by simp; omega)).mono ?_
        rw [hq]
        rintro e w1 ⟨rfl, B1⟩
        go_wp2
        go_ret2
        exact ⟨by rw [findAt_yes l Ps k hlt hq HN.out]; rfl, HB.trans (B1.mono HB.size)⟩
    · have e : k = l.length + 1 - Ps.length := by omega
      have hd : decide ((k : Int) < ((bs l).size : Int) - (Ps.length : Int) + 1) = false := by have := HZ.out; simp; omega
      have HF : Hid (Glob.findAt l Ps = none) := Lib.hid (findAt_no l Ps (by rw [← e]; exact HN.out))
      clear e
      go_wp2
      go_ret2
      exact ⟨by rw [HF.out]; rfl, HB⟩

theorem find_no (l : List UInt8) (B : Nat) (v : Value) (Ps : List Glob.CSet) (w : World) (hR : RunAt B v Ps w) (hs : l.length ≤ 1099511627776) (hp : Ps.length ≤ 1099511627776) (h : Glob.findAt l Ps = none) :
    Calls Try.prog 14 #[.string (bs l), v] w fun e w' => e = .returned (.tuple #[.int .i64 0, .bool false]) ∧ Below w.heap.size w w' := by
  have := find_any l B v Ps w hR hs hp
  rw [h] at this
  exact this

theorem find_yes (l : List UInt8) (B : Nat) (v : Value) (Ps : List Glob.CSet) (w : World) (hR : RunAt B v Ps w) (hs : l.length ≤ 1099511627776) (hp : Ps.length ≤ 1099511627776) (k : Nat) (h : Glob.findAt l Ps = some k) :
    Calls Try.prog 14 #[.string (bs l), v] w fun e w' => e = .returned (.tuple #[.int .i64 k, .bool true]) ∧ Below w.heap.size w w' := by
  have := find_any l B v Ps w hR hs hp
  rw [h] at this
  exact this

end Go.Proofs.Ytimnnldjmmdlmaa
