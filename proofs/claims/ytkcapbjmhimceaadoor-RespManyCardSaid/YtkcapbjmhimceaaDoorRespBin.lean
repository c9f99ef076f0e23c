/-
  Slices of bytes, and what bytes.IndexAny looks for in them.
-/
import Derived.Test.YtkcapbjmhimceaaDoorRespAny
import Derived.Test.YtkcapbjmhimceaaDoorShelfB
import Derived.Lib.IndexEntry
namespace Go.Proofs.YtkcapbjmhimceaaDoor
open Go.RowKit Rp

/-- A slice of the bytes l: its address p, its capacity c. -/
structure Bin (w : World) (p : Option Addr) (c : Nat) (l : List UInt8) : Prop where
  nil : p = none → l = [] ∧ c = 0
  cap : l.length ≤ c
  max : c ≤ maxLen
  at_ : l ≠ [] → ∃ b o, p = some ⟨b, o, none⟩ ∧ ∀ (j : Nat) (h : j < l.length), w.cell? ⟨b, o + j, none⟩ = some (.int .u8 (l[j].toNat : Nat))

theorem Bin.below {w w' : World} {p : Option Addr} {c : Nat} {l : List UInt8} (h : Bin w p c l) (hb : Below w.heap.size w w') : Bin w' p c l :=
  ⟨h.nil, h.cap, h.max, fun hl => by
    obtain ⟨b, o, hp, hc⟩ := h.at_ hl
    exact ⟨b, o, hp, fun j hj => (hb.cell (p := ⟨b, o + j, none⟩) (World.block_lt_of_cell? w _ (hc j hj))).trans (hc j hj)⟩⟩

theorem bs_getB (l : List UInt8) (j : Nat) (hj : j < l.length) : (bs l).get! j = l[j] := by
  rw [get_at (bs l) j (by rw [bs_size]; exact hj)]; rfl

set_option maxHeartbeats 400000 in
theorem use_set (n : Nat) (w : World) : Calls Tryd.prog 49 #[.int .i64 n] w fun e w' => e = .returned (.bool (decide ((8 : Int) < n))) ∧ w = w' := by
  go_enter Tryd.func49, Tryd.ntmps49
  go_wp2
  go_ret
  exact ⟨rfl, rfl⟩

/-- How wide a rune beyond ASCII is written. -/
theorem decN_width (n b0 b1 b2 b3 : Nat) (h : 128 ≤ b0) (h0 : b0 < 256) : (Lib.decodeN n b0 b1 b2 b3).1 ≠ 65533 → ((Lib.decodeN n b0 b1 b2 b3).2 = 2 ∧ (Lib.decodeN n b0 b1 b2 b3).1 < 2048) ∨ ((Lib.decodeN n b0 b1 b2 b3).2 = 3 ∧ 2048 ≤ (Lib.decodeN n b0 b1 b2 b3).1 ∧ (Lib.decodeN n b0 b1 b2 b3).1 < 65536) ∨ ((Lib.decodeN n b0 b1 b2 b3).2 = 4 ∧ 65536 ≤ (Lib.decodeN n b0 b1 b2 b3).1) := by
  unfold Lib.decodeN
  repeat' split
  all_goals
    intro hne
    simp only at hne ⊢
    first
      | (exfalso; omega)
      | (left; refine ⟨trivial, ?_⟩; omega)
      | (right; left; refine ⟨trivial, ?_, ?_⟩ <;> omega)
      | (right; right; refine ⟨trivial, ?_⟩; omega)
      | (left; refine ⟨rfl, ?_⟩; omega)
      | (right; left; refine ⟨rfl, ?_, ?_⟩ <;> omega)
      | (right; right; refine ⟨rfl, ?_⟩; omega)
theorem enc_width (c : Nat) (h : 128 ≤ c) (hv : c < 55296 ∨ (57343 < c ∧ c ≤ 1114111)) : (c < 2048 → ∃ a b : UInt8, Utf8.encode c = ⟨#[a, b]⟩ ∧ 128 ≤ b.toNat) ∧ (2048 ≤ c → c < 65536 → (Utf8.encode c).size = 3) ∧ (65536 ≤ c → (Utf8.encode c).size = 4) := by
  have hval : Utf8.valid (c : Int) = true := by
    unfold Utf8.valid
    simp only [Bool.or_eq_true, Bool.and_eq_true, decide_eq_true_eq]
    omega
  have e : ((c : Int)).toNat = c := by omega
  unfold Utf8.encode
  simp only [hval, if_true, e]
  rw [if_neg (by omega)]
  refine ⟨fun h2 => ?_, fun h2 h3 => ?_, fun h3 => ?_⟩
  · rw [if_pos h2]
    exact ⟨_, _, rfl, u8_hi _ (by omega) (by omega)⟩
  · rw [if_neg (by omega), if_pos h3]; rfl
  · rw [if_neg (by omega), if_neg (by omega)]; rfl

/-- The runes of a rest of bytes. -/
theorem dec_rest (l : List UInt8) (i : Nat) (h : i < l.length) (hx : 128 ≤ l[i].toNat) : ∃ R K : Nat, Lib.decodeGo (bs (l.drop i)) = (R, K) ∧ 128 ≤ R ∧ (R < 55296 ∨ (57343 < R ∧ R ≤ 1114111)) ∧ 1 ≤ K ∧ i + K ≤ l.length ∧ (∀ j (hj : i + j < l.length), j < K → 128 ≤ l[i + j].toNat) ∧
    (R ≠ 65533 → (K = 2 ∧ R < 2048) ∨ (K = 3 ∧ 2048 ≤ R ∧ R < 65536) ∨ (K = 4 ∧ 65536 ≤ R)) := by
  have hlen : (l.drop i).length = l.length - i := List.length_drop
  have hs : 0 < (bs (l.drop i)).size := by rw [bs_size]; omega
  have h0 : (bs (l.drop i))[0]'hs = l[i] := by
    show (l.drop i)[0]'(by omega) = l[i]
    simp
  have hd : Lib.decodeGo (bs (l.drop i)) = Utf8.decode (bs (l.drop i)) 0 := by
    simp only [Lib.decodeGo]
    rw [if_neg (by omega)]
  have H := dec_hi (bs (l.drop i)) 0 hs (by rw [h0]; exact hx)
  have HW := decN_width ((bs (l.drop i)).size - 0) ((bs (l.drop i)).get! 0).toNat ((bs (l.drop i)).get! (0 + 1)).toNat ((bs (l.drop i)).get! (0 + 2)).toNat ((bs (l.drop i)).get! (0 + 3)).toNat (by rw [get_at _ 0 hs, h0]; exact hx) (UInt8.toNat_lt _)
  rw [← Lib.decode_at] at HW
  have HK := Lib.width_pos (bs (l.drop i)) 0
  refine ⟨_, _, hd, H.1, H.2.1, HK, (by have h5 := H.2.2.1; rw [bs_size, hlen, Nat.zero_add] at h5; exact Nat.add_le_of_le_sub' (by omega) h5), fun j hj hjk => ?_, HW⟩
  have := H.2.2.2 j (by rw [bs_size]; omega) hjk
  have e : (bs (l.drop i))[0 + j]'(by rw [bs_size]; omega) = l[i + j] := by
    show (l.drop i)[0 + j]'(by omega) = l[i + j]
    simp
  rw [e] at this
  exact this

end Go.Proofs.YtkcapbjmhimceaaDoor
