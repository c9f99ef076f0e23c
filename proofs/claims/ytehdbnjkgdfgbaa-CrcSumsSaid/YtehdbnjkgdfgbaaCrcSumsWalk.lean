/-
  What CrcSums answers: true.
-/
import Derived.Test.YtehdbnjkgdfgbaaCrcSealsWalk
namespace Go.Proofs.Ytehdbnjkgdfgbaa
open Go.RowKit

/-- A slice of slices of bytes. -/
structure RowsIn (W : World) (P : Option Addr) (N C : Nat) (ps : Nat → Option Addr) (ls : Nat → List Nat) (cs : Nat → Nat) : Prop where
  at_ : 0 < N → ∃ B O, P = some ⟨B, O, none⟩ ∧ ∀ j, j < N → W.cell? ⟨B, O + j, none⟩ = some (.slice (ps j) (ls j).length (cs j))
  row : ∀ j, j < N → BytesIn W (ps j) (cs j) (ls j)
  ok : ∀ j, j < N → Crc.Octets (ls j)

theorem RowsIn.below {W W' : World} {P : Option Addr} {N C : Nat} {ps : Nat → Option Addr} {ls : Nat → List Nat} {cs : Nat → Nat} (h : RowsIn W P N C ps ls cs) (hb : Below W.heap.size W W') : RowsIn W' P N C ps ls cs :=
  ⟨fun hN => by
    obtain ⟨B, O, hp, hc⟩ := h.at_ hN
    exact ⟨B, O, hp, fun j hj => cKept hb (hc j hj)⟩, fun j hj => (h.row j hj).below hb, h.ok⟩

theorem sum_rows (N : Nat) (hN : N ≤ 1099511627776) (ls : Nat → List Nat) (ps : Nat → Option Addr) (cs : Nat → Nat) (hl : ∀ j, j < N → (ls j).length ≤ 1099511627776) (P : Option Addr) (C : Nat) (w : World) (h : RowsIn w P N C ps ls cs) :
    Calls Try.prog 8 #[.slice P N C] w fun e w' => e = .returned (.int .u32 (Crc.crc (flat ls N) : Nat)) ∧ Below w.heap.size w w' := by
  rcases Nat.eq_zero_or_pos N with h0 | h0
  · subst h0
    rw [show flat ls 0 = [] from rfl, Crc.crc_nil]
    exact sum_none P C w
  · obtain ⟨B, O, rfl, hc⟩ := h.at_ h0
    exact sum_some N hN ls ps cs h.ok hl B O C w (World.block_lt_of_cell? w _ (hc 0 h0)) hc (fun j hj => (h.row j hj).at_)

set_option maxHeartbeats 1000000 in
theorem sums_long (P : Option Addr) (N C : Nat) (hN : 20 < N) (w : World) :
    Calls Try.prog 3 #[.slice P N C] w fun e w' => e = .returned (.bool true) ∧ Below w.heap.size w w' := by
  have hd' : decide ((20 : Int) < N) = true := decide_eq_true (by omega)
  go_enter Try.func3, Try.ntmps3
  go_wp2_with fail
  refine (awake_true _).mono ?_
  rintro e w1 ⟨rfl, hb1⟩
  go_wp2_with fail
  refine (awake_true _).mono ?_
  rintro e w2 ⟨rfl, hb2⟩
  go_wp2
  go_ret
  exact ⟨rfl, bT hb1 hb2⟩

set_option maxHeartbeats 1000000 in
theorem sums_short (N : Nat) (hN : N ≤ 20) (ls : Nat → List Nat) (ps : Nat → Option Addr) (cs : Nat → Nat) (P : Option Addr) (C : Nat) (w : World) (h : RowsIn w P N C ps ls cs) :
    Calls Try.prog 3 #[.slice P N C] w fun e w' => e = .returned (.bool true) ∧ Below w.heap.size w w' := by
  have hd' : decide ((20 : Int) < N) = false := decide_eq_false (by omega)
  go_enter Try.func3, Try.ntmps3
  go_wp2_with fail
  refine (awake_true _).mono ?_
  rintro e w1 ⟨rfl, HB1⟩
  go_wp2
  go_loopw [3, 4] (fun v i wr => ∃ k : Nat, k ≤ N ∧ i = .int .i64 k ∧ Hid (∀ j, j < k → (ls j).length ≤ 300) ∧ (flat ls k).length ≤ 300 * k ∧ wr.ownsRow w.heap.size 5 1 v (flat ls k).length (bcells (flat ls k)) ∧ Below w.heap.size w wr) (fun _ i _ => N - (intOf i).toNat)
  case atStart => exact ⟨0, Nat.zero_le _, rfl, fun j hj => absurd hj (Nat.not_lt_zero j), by simp [flat], World.ownsRow_nil _ _ _ _, HB1⟩
  case round =>
    obtain ⟨k, hk, rfl, HLS, hfl, hown, HB⟩ := hrel
    by_cases hkN : k < N
    · have hd : decide ((k : Int) < N) = true := decide_eq_true (by omega)
      have hrow := (h.below HB).row k hkN
      obtain ⟨B, O, rfl, hcs⟩ := (h.below HB).at_ (by omega)
      have hcell := hcs k hkN
      have hnx := Lib.hid (flat_next ls k)
      have hlen := Lib.hid (show ∀ j, j < k + 1 → (ls k).length ≤ 300 → (ls j).length ≤ 300 from fun j hj hh => by
        rcases Nat.lt_succ_iff_lt_or_eq.1 hj with hlt | rfl
        · exact HLS.out j hlt
        · exact hh)
      clear hcs
      generalize ls k = l at *
      generalize ps k = p at *
      generalize cs k = c at *
      obtain ⟨m, hm⟩ : ∃ m, m = l.length := ⟨_, rfl⟩
      rw [← hm] at hcell
      have HM := Lib.hid hm
      clear hm
      obtain ⟨fn, hfn⟩ : ∃ fn, fn = (flat ls k).length := ⟨_, rfl⟩
      rw [← hfn] at hown hfl
      have HF := Lib.hid hfn
      clear hfn
      by_cases h300 : 300 < m
      · have hd3 : decide ((300 : Int) < m) = true := decide_eq_true (by omega)
        go_wp2
        go_ret
        exact ⟨rfl, HB⟩
      · have hd3 : decide ((300 : Int) < m) = false := decide_eq_false (by omega)
        go_wp2_with (at_builtin; refine append_bytes rfl (.tmp 25) (.tmp 29) rfl w.heap.size _ _ _ rfl hown p m c l rfl HM.out.symm hrow (by omega) HB.size ?_)
        intro v' w2 hown' hgrow _
        have HO := Lib.hid (show w2.ownsRow w.heap.size 5 1 v' (flat ls (k + 1)).length (bcells (flat ls (k + 1))) by
          rw [hnx.out, bcells_append, List.length_append, ← HF.out, ← HM.out]
          exact hown')
        have HB2 := HB.grown hgrow HB.size (fun k hk => (hown.lt k hk).1)
        clear hown' hgrow
        go_wp2
        go_roundw
        case rel => exact ⟨k + 1, by omega, by go_num, fun j hj => hlen.out j hj (by rw [← HM.out]; omega), by rw [hnx.out, List.length_append, ← HF.out, ← HM.out]; omega, HO.out, HB2⟩
        case measure => simp [intOf]; omega
    · have hkN : k = N := by omega
      subst hkN
      have hd : decide ((k : Int) < k) = false := decide_eq_false (by omega)
      have hof := flat_octets h.ok k (Nat.le_refl _)
      have hsr := sum_rows k (by omega) ls ps cs (fun j hj => by have := HLS.out j hj; omega) P C wr (h.below HB)
      generalize flat ls k = F at *
      obtain ⟨p, c, rfl, hin⟩ := owned_any rfl hown
      obtain ⟨fn, hfn⟩ : ∃ fn, fn = F.length := ⟨_, rfl⟩
      have HF := Lib.hid hfn
      rw [← hfn] at hfl ⊢
      clear hown hfn
      go_wp2_with fail
      refine hsr.mono ?_
      rintro e w2 ⟨rfl, hb2⟩
      have hr2 := refsum_any F hof (by rw [← HF.out]; omega) p c w2 (hin.below hb2).at_
      rw [← HF.out] at hr2
      go_wp2_with fail
      refine hr2.mono ?_
      rintro e w2' ⟨rfl, rfl⟩
      clear hr2
      go_wp2_with fail
      have hin2 : BytesIn (w2.alloc (.cells #[.slice p fn c] 24)) p c F := hin.below (bA hb2 _)
      have hs2 := sum_one F hof (by rw [← HF.out]; omega) p c w2.heap.size 0 1 _ (by simp) (by rw [← HF.out]; exact cHere w2 (.slice p fn c) 24 _ rfl) hin2.at_
      refine hs2.mono ?_
      rintro e w3 ⟨rfl, hb3⟩
      clear hs2
      have HB3 : Below wr.heap.size wr w3 := bT (bA hb2 _) hb3
      have hr3 := refsum_any F hof (by rw [← HF.out]; omega) p c w3 (hin.below HB3).at_
      rw [← HF.out] at hr3
      go_wp2_with fail
      refine hr3.mono ?_
      rintro e w3' ⟨rfl, rfl⟩
      clear hr3
      go_wp2
      go_ret
      exact ⟨rfl, HB.trans (HB3.mono HB.size)⟩

theorem sums_true (N : Nat) (ls : Nat → List Nat) (ps : Nat → Option Addr) (cs : Nat → Nat) (P : Option Addr) (C : Nat) (w : World) (h : RowsIn w P N C ps ls cs) :
    Calls Try.prog 3 #[.slice P N C] w fun e w' => e = .returned (.bool true) ∧ Below w.heap.size w w' := by
  rcases Nat.lt_or_ge 20 N with hN | hN
  · exact sums_long P N C hN w
  · exact sums_short N hN ls ps cs P C w h
end Go.Proofs.Ytehdbnjkgdfgbaa
