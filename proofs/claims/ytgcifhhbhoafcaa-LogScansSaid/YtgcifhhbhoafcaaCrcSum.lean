/-
  What crc.Sum answers: the checksum of its arguments, one behind the other.
-/
import Derived.Test.YtgcifhhbhoafcaaCrcTable
import Derived.Test.YtgcifhhbhoafcaaCrcRef
namespace Go.Proofs.Ytgcifhhbhoafcaa
open Go.RowKit

/-- The first k rows, one behind the other. -/
def flat (ls : Nat → List Nat) (k : Nat) : List Nat := ((List.range k).map ls).flatten
theorem flat_next (ls : Nat → List Nat) (k : Nat) : flat ls (k + 1) = flat ls k ++ ls k := by simp [flat, List.range_succ]
theorem flat_octets {ls : Nat → List Nat} {n : Nat} (h : ∀ j, j < n → Crc.Octets (ls j)) : ∀ k, k ≤ n → Crc.Octets (flat ls k) := by
  intro k
  induction k with
  | zero => intro _ x hx; simp [flat] at hx
  | succ k ih => intro hk; rw [flat_next]; exact Crc.octets_append (ih (by omega)) (h k (by omega))

theorem byte_round (X : Nat) : Crc.shn 4 (Crc.shn 4 X) = Crc.shn 8 X := (Crc.shn_add 4 4 X).symm

theorem tab_names : ∃ x0 x1 x2 x3 x4 x5 x6 x7 x8 x9 x10 x11 x12 x13 x14 x15 : Nat, tab 16 = #[.int .u32 (x0 : Nat), .int .u32 (x1 : Nat), .int .u32 (x2 : Nat), .int .u32 (x3 : Nat), .int .u32 (x4 : Nat), .int .u32 (x5 : Nat), .int .u32 (x6 : Nat), .int .u32 (x7 : Nat), .int .u32 (x8 : Nat), .int .u32 (x9 : Nat), .int .u32 (x10 : Nat), .int .u32 (x11 : Nat), .int .u32 (x12 : Nat), .int .u32 (x13 : Nat), .int .u32 (x14 : Nat), .int .u32 (x15 : Nat)] := ⟨_, _, _, _, _, _, _, _, _, _, _, _, _, _, _, _, rfl⟩

set_option maxHeartbeats 2000000 in
theorem sum_some (N : Nat) (hN : N ≤ 1099511627776) (ls : Nat → List Nat) (ps : Nat → Option Addr) (cs : Nat → Nat) (ho : ∀ j, j < N → Crc.Octets (ls j)) (hl : ∀ j, j < N → (ls j).length ≤ 1099511627776) (B O C : Nat) (w : World) (hB : B < w.heap.size)
    (hc : ∀ j, j < N → w.cell? ⟨B, O + j, none⟩ = some (.slice (ps j) (ls j).length (cs j))) (hb : ∀ j, j < N → BytesAt w (ps j) (ls j)) :
    Calls Try.prog 75 #[.slice (some ⟨B, O, none⟩) N C] w fun e w' => e = .returned (.int .u32 (Crc.crc (flat ls N) : Nat)) ∧ Below w.heap.size w w' := by
  have HC := Lib.hid hc
  clear hc
  go_enter Try.func75, Try.ntmps75
  go_wp2_with fail
  refine (nibbles_any _).mono ?_
  obtain ⟨x0, x1, x2, x3, x4, x5, x6, x7, x8, x9, x10, x11, x12, x13, x14, x15, hT⟩ := tab_names
  rw [hT]
  rintro e w1 ⟨rfl, B1⟩
  have HT := Lib.hid hT
  clear hT
  go_wp2
  go_loopw [4, 12] (fun r i wr => ∃ k : Nat, k ≤ N ∧ i = .int .i64 k ∧ r = .int .u32 (Crc.reg 4294967295 (flat ls k) : Nat) ∧ wr.heap[w1.heap.size]? = some (.cells (tab 16) 131 (0, 0)) ∧ Below w.heap.size w wr) (fun _ i _ => N - (intOf i).toNat)
  case atStart => exact ⟨0, Nat.zero_le _, rfl, rfl, by rw [HT.out]; exact heap_alloc_new' _ _ _ rfl, B1.alloc B1.size _⟩
  case round =>
    clear HT
    obtain ⟨k, hk, rfl, rfl, hT, HB⟩ := hrel
    have HK := Lib.hid (flat_octets ho k hk)
    obtain ⟨R, hR⟩ : ∃ R, R = Crc.reg 4294967295 (flat ls k) := ⟨_, rfl⟩
    have hRl : R < 4294967296 := by rw [hR]; exact Crc.reg_lt _ _ (by decide) HK.out
    by_cases hkN : k < N
    · have hd : decide ((k : Int) < N) = true := decide_eq_true (by omega)
      have HS := Lib.hid (show Crc.reg 4294967295 (flat ls (k + 1)) = Crc.reg R (ls k) by rw [flat_next, Crc.reg_append, hR])
      have hcell := (HB.cell (p := ⟨B, O + k, none⟩) hB).trans (HC.out k hkN)
      have hby := hb k hkN
      have hol := ho k hkN
      have hln := hl k hkN
      rw [← hR]
      generalize ls k = l at *
      generalize ps k = p at *
      generalize cs k = c at *
      clear hR hb ho hl HC
      obtain ⟨n, hn⟩ : ∃ n, n = l.length := ⟨_, rfl⟩
      have hby : 0 < n → ∃ b o, p = some ⟨b, o, none⟩ ∧ ∀ i, i < n → w.cell? ⟨b, o + i, none⟩ = some (.int .u8 (l.getD i 0 : Nat)) := by rw [hn]; exact hby
      rw [← hn] at hcell hln
      have HN := Lib.hid hn
      clear hn
      have HBY := Lib.hid hby
      clear hby
      go_wp2
      go_loopw [4, 18] (fun r i wi => ∃ j : Nat, j ≤ n ∧ i = .int .i64 j ∧ r = .int .u32 (Crc.reg R (l.take j) : Nat) ∧ wi = wr) (fun _ i _ => n - (intOf i).toNat)
      case atStart => exact ⟨0, Nat.zero_le _, rfl, rfl, rfl⟩
      case round =>
        obtain ⟨j, hj, rfl, rfl, rfl⟩ := hrel
        by_cases hjn : j < n
        · have hd2 : decide ((j : Int) < n) = true := decide_eq_true (by omega)
          have HS2 := Lib.hid (reg_next R l j (by have := HN.out; omega))
          obtain ⟨b, o, rfl, hcs⟩ := HBY.out (by omega)
          have hbl : b < w.heap.size := World.block_lt_of_cell? w _ (hcs j hjn)
          have hcb := (HB.cell (p := ⟨b, o + j, none⟩) hbl).trans (hcs j hjn)
          clear hcs
          obtain ⟨R2, hR2⟩ : ∃ R2, R2 = Crc.reg R (l.take j) := ⟨_, rfl⟩
          have hR2l : R2 < 4294967296 := by rw [hR2]; exact Crc.reg_lt _ _ hRl (octets_take hol j)
          obtain ⟨x, hx⟩ : ∃ x, x = l.getD j 0 := ⟨_, rfl⟩
          have hxl : x < 256 := by rw [hx]; exact octet_at hol j
          rw [← hx] at hcb HS2
          rw [← hR2] at HS2 ⊢
          have hX : bits .xor .u32 (R2 : Int) (x : Int) = ((R2 ^^^ x : Nat) : Int) := u32_xor_nat R2 x hR2l (by omega)
          have hXl : R2 ^^^ x < 4294967296 := Crc.xor_lt _ _ hR2l (by omega)
          have hxm : (x : Int) % 4294967296 = x := by omega
          clear hx hR2
          go_wp2
          go_loopw [4, 26] (fun r i wi => ∃ m : Nat, m ≤ 2 ∧ i = .int .i64 m ∧ r = .int .u32 (Crc.shn (4 * m) (R2 ^^^ x) : Nat) ∧ wi = wr) (fun _ i _ => 2 - (intOf i).toNat)
          case atStart => exact ⟨0, Nat.zero_le _, rfl, rfl, rfl⟩
          case round =>
            obtain ⟨m, hm, rfl, rfl, rfl⟩ := hrel
            have hYl := Crc.shn_lt (4 * m) _ hXl
            have hE : Crc.shn (4 * (m + 1)) (R2 ^^^ x) = Crc.shn 4 (Crc.shn (4 * m) (R2 ^^^ x)) := Crc.shn_add (4 * m) 4 _
            by_cases h2 : m < 2
            · generalize Crc.shn (4 * m) (R2 ^^^ x) = Y at *
              obtain ⟨q, hq⟩ : ∃ q, q = Y / 16 := ⟨_, rfl⟩
              obtain ⟨d, hdd⟩ : ∃ d, d = Y % 16 := ⟨_, rfl⟩
              have h4 := Crc.four Y
              rw [← hE, ← hq, ← hdd] at h4
              have hqi : (Y : Int) / 16 = (q : Int) := by omega
              have hdi : (Y : Int) % 16 = (d : Int) := by omega
              have hdl : d < 16 := by omega
              have htc : wr.cell? ⟨w1.heap.size, d, none⟩ = some (.int .u32 ((Crc.shn 4 d : Nat) : Int)) := by rw [Lib.cell_of_heap hT]; exact (tab_at 16 d hdl).trans (by rw [if_pos hdl]; rfl)
              have htl := Crc.shn_lt 4 d (by omega)
              have hxo : bits .xor .u32 (q : Int) ((Crc.shn 4 d : Nat) : Int) = ((q ^^^ Crc.shn 4 d : Nat) : Int) := u32_xor_nat q _ (by omega) htl
              have H4 := Lib.hid h4
              clear h4 hE hq hdd
              generalize Crc.shn 4 d = t at *
              go_wp2
              go_roundw
              case rel => exact ⟨m + 1, by omega, by go_num, by rw [← H4.out], trivial⟩
              case measure => simp [intOf]; omega
            · have hm2 : m = 2 := by omega
              subst hm2
              go_wp2
              go_roundw
              case rel => exact ⟨j + 1, by omega, by go_num, by rw [HS2.out]; rfl, trivial⟩
              case measure => simp [intOf]; omega
        · have hjn : j = n := by omega
          subst hjn
          have hd2 : decide ((j : Int) < j) = false := decide_eq_false (by omega)
          go_wp2
          go_roundw
          case rel => exact ⟨k + 1, by omega, by go_num, by rw [HS.out, HN.out, List.take_length], hT, HB⟩
          case measure => simp [intOf]; omega
    · have hkN : k = N := by omega
      subst hkN
      have hd : decide ((k : Int) < k) = false := decide_eq_false (by omega)
      rw [← hR]
      have hX : bits .xor .u32 IntKind.u32.max (R : Int) = ((Crc.crc (flat ls k) : Nat) : Int) := by
        rw [show IntKind.u32.max = ((4294967295 : Nat) : Int) from rfl, u32_xor_nat 4294967295 R (by decide) hRl, Nat.xor_comm, hR]
        rfl
      have hsg : IntKind.u32.signed = false := rfl
      clear hR
      go_wp2
      go_ret
      exact ⟨rfl, HB⟩

set_option maxHeartbeats 1000000 in
theorem sum_none (p : Option Addr) (c : Nat) (w : World) :
    Calls Try.prog 75 #[.slice p 0 c] w fun e w' => e = .returned (.int .u32 0) ∧ Below w.heap.size w w' := by
  go_enter Try.func75, Try.ntmps75
  go_wp2_with fail
  refine (nibbles_any _).mono ?_
  obtain ⟨x0, x1, x2, x3, x4, x5, x6, x7, x8, x9, x10, x11, x12, x13, x14, x15, hT⟩ := tab_names
  rw [hT]
  rintro e w1 ⟨rfl, B1⟩
  have HT := Lib.hid hT
  clear hT
  go_wp2
  go_loopw [4, 12] (fun r i wr => i = .int .i64 0 ∧ r = .int .u32 4294967295 ∧ Below w.heap.size w wr) (fun _ _ _ => 0)
  case atStart => exact ⟨rfl, rfl, B1.alloc B1.size _⟩
  case round =>
    obtain ⟨rfl, rfl, HB⟩ := hrel
    have hX : bits .xor .u32 IntKind.u32.max 4294967295 = 0 := by decide
    have hsg : IntKind.u32.signed = false := rfl
    go_wp2
    go_ret
    exact ⟨rfl, HB⟩

/-- One argument. -/
theorem sum_one (l : List Nat) (ho : Crc.Octets l) (hl : l.length ≤ 1099511627776) (p : Option Addr) (c B O C : Nat) (w : World) (hB : B < w.heap.size) (hc : w.cell? ⟨B, O, none⟩ = some (.slice p l.length c)) (hb : BytesAt w p l) :
    Calls Try.prog 75 #[.slice (some ⟨B, O, none⟩) 1 C] w fun e w' => e = .returned (.int .u32 (Crc.crc l : Nat)) ∧ Below w.heap.size w w' := by
  have h := sum_some 1 (by decide) (fun _ => l) (fun _ => p) (fun _ => c) (fun _ _ => ho) (fun _ _ => hl) B O C w hB (fun j hj => by obtain rfl : j = 0 := (by omega); exact hc) (fun _ _ => hb)
  rw [show flat (fun _ => l) 1 = l by simp [flat, List.range_succ]] at h
  exact h
end Go.Proofs.Ytgcifhhbhoafcaa
