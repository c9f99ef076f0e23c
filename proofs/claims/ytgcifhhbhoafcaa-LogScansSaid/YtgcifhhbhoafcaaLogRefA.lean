/-
  The reference: numbers as strings, records as strings.
-/
import Derived.Test.YtgcifhhbhoafcaaLogCut
import Derived.Test.YtgcifhhbhoafcaaLogHead
namespace Go.Proofs.Ytgcifhhbhoafcaa
open Go.RowKit Go.Shelf

theorem bs_get (l : List UInt8) (k : Nat) (_h : k < (bs l).size) (hk : k < l.length) : (bs l)[k] = l[k] := rfl
theorem bs_from (l : List UInt8) (k : Nat) (n : Nat) (hn : n = l.length) : (bs l).extract k n = bs (l.drop k) := by
  subst hn
  apply ByteArray.ext
  apply Array.ext'
  simp [bs, List.take_of_length_le]
theorem bs_to (l : List UInt8) (k : Nat) : (bs l).extract 0 k = bs (l.take k) := by
  apply ByteArray.ext
  apply Array.ext'
  simp [bs]
theorem bs_mid (l : List UInt8) (k n : Nat) : (bs l).extract k n = bs ((l.take n).drop k) := by
  apply ByteArray.ext
  apply Array.ext'
  simp [bs, List.drop_take]
theorem bs_app (a b : List UInt8) : bs a ++ bs b = bs (a ++ b) := by
  apply ByteArray.ext
  apply Array.ext'
  simp [bs]

set_option maxHeartbeats 1000000 in
theorem refnum_any (l : List UInt8) (hl : l.length ≤ 7) (w : World) :
    Calls Try.prog 53 #[.string (bs l)] w fun e w' => e = .returned (.int .i64 (num l)) ∧ w = w' := by
  obtain ⟨st, hst⟩ : ∃ st, st = bs l := ⟨_, rfl⟩
  have hsz : st.size = l.length := by rw [hst, bs_size]
  have HST := Lib.hid hst
  have HSZ := Lib.hid hsz
  have hs7 : st.size ≤ 7 := by omega
  rw [← hst]
  clear hst hsz
  go_enter Try.func53, Try.ntmps53
  go_wp2
  go_loopw [3, 4] (fun s3 s4 wr => ∃ i : Nat, i ≤ st.size ∧ s4 = .int .i64 i ∧ s3 = .int .i64 (num (l.take i)) ∧ wr = w) (fun _ s4 _ => st.size - (intOf s4).toNat)
  case atStart => exact ⟨0, Nat.zero_le _, rfl, rfl, rfl⟩
  case round =>
    obtain ⟨i, hi, rfl, rfl, rfl⟩ := hrel
    by_cases hlt : i < st.size
    · have d1 : decide ((i : Int) < (st.size : Int)) = true := decide_eq_true (by omega)
      have d1' : decide (i < st.size) = true := decide_eq_true hlt
      have hil : i < l.length := by have := HSZ.out; omega
      obtain ⟨x, hx⟩ : ∃ x, l[i] = x := ⟨_, rfl⟩
      have hx2 := x.toNat_lt
      have hgx : st[i] = x := by
        have e := HST.out
        subst e
        exact hx
      have HN := Lib.hid (show num (l.take (i + 1)) = num (l.take i) * 256 + x.toNat by rw [num_take l i hil, hx])
      obtain ⟨N, hN⟩ : ∃ N, N = num (l.take i) := ⟨_, rfl⟩
      have hNl : N < 256 ^ 6 := by
        rw [hN]
        refine Nat.lt_of_lt_of_le (num_lt _) (Nat.pow_le_pow_right (by decide) ?_)
        rw [List.length_take]; omega
      rw [← hN] at HN ⊢
      have j0 : (0 : Int) ≤ (i : Int) := by omega
      have j1 : (i : Int) < (st.size : Int) := by omega
      clear hN hx hil
      go_wp2
      go_roundw
      case rel => exact ⟨i + 1, by omega, by go_num, by rw [HN.out]; simp, trivial⟩
      case measure => simp [intOf]; omega
    · have d1 : decide ((i : Int) < (st.size : Int)) = false := decide_eq_false (by omega)
      have d1' : decide (i < st.size) = false := decide_eq_false hlt
      have HN := Lib.hid (show num (l.take i) = num l by rw [List.take_of_length_le (by have := HSZ.out; omega)])
      go_wp2
      rw [HN.out]
      go_ret
      exact ⟨rfl, rfl⟩

set_option maxRecDepth 20000 in
set_option maxHeartbeats 1000000 in
theorem lay_any (n m : Nat) (hm : m ≤ 8) (hn : n < 9223372036854775808) (w : World) :
    Calls Try.prog 68 #[.int .i64 n, .int .i64 m] w fun e w' => e = .returned (.string (bs (be m n))) ∧ Below w.heap.size w w' := by
  go_enter Try.func68, Try.ntmps68
  go_wp2
  go_loopw [0, 5, 6] (fun s0 s5 s6 wr => ∃ i q : Nat, ∃ st, i ≤ m ∧ s6 = .int .i64 i ∧ s0 = .int .i64 q ∧ s5 = .string st ∧ Hid (st = bs (be i n) ∧ q = n / 256 ^ i) ∧ q < 9223372036854775808 ∧ st.size = i ∧ Hid (Below w.heap.size w wr)) (fun _ _ s6 _ => m - (intOf s6).toNat)
  case atStart => exact ⟨0, n, _, Nat.zero_le _, rfl, rfl, rfl, Lib.hid ⟨rfl, by simp⟩, hn, rfl, Lib.hid (Below.refl _ _)⟩
  case round =>
    obtain ⟨i, q, st, hi, rfl, rfl, rfl, HS, hq, hst8, HB⟩ := hrel
    by_cases hlt : i < m
    · have d1 : decide ((i : Int) < (m : Int)) = true := decide_eq_true (by omega)
      have d1' : decide (i < m) = true := decide_eq_true hlt
      obtain ⟨r, hr⟩ : ∃ r, r = q % 256 := ⟨_, rfl⟩
      obtain ⟨q2, hq2⟩ : ∃ q2, q2 = q / 256 := ⟨_, rfl⟩
      have e1 : ((q : Int)).tmod 256 = (r : Int) := by rw [Int.tmod_eq_emod_of_nonneg (by omega)]; omega
      have e2 : ((q : Int)).tdiv 256 = (q2 : Int) := by rw [Int.tdiv_eq_ediv_of_nonneg (by omega)]; omega
      have hr256 : r < 256 := by omega
      have e3 : IntKind.u8.wrap (r : Int) = (r : Int) := by rw [IntKind.wrap_u8']; omega
      have hq2b : q2 < 9223372036854775808 := by omega
      obtain ⟨c, hc⟩ : ∃ c : UInt8, c = UInt8.ofNat (q % 256) := ⟨_, rfl⟩
      have hcn : c.toNat = q % 256 := by rw [hc, UInt8.toNat_ofNat']; omega
      have hcv : (convert 22 9 (.slice (some ⟨wr.heap.size, 0, none⟩) 1 1)).run Try.prog (wr.alloc (.cells #[.int .u8 ((q : Int) % 256)] 5)) = .ok (.string (bs [c])) (wr.alloc (.cells #[.int .u8 ((q : Int) % 256)] 5)) := by
        have h := (World.ownsRow_lit (e := 5) (size := 1) wr #[.int .u8 ((q : Int) % 256)] 1 (Nat.le_refl _) (by decide) rfl).cells rfl
        refine run_str (c := 1) (l := [c]) ?_
        have hcc : bCells [c] = [.int .u8 ((q : Int) % 256)] := by
          simp [bCells, hcn]
        rw [hcc]
        intro j u hj
        have h2 := h j u hj
        rw [Go.WideShapes.add_plain] at h2
        exact h2
      obtain ⟨sc, hsc⟩ : ∃ sc, bs [c] = sc := ⟨_, rfl⟩
      have hs1 : sc.size = 1 := by rw [← hsc]; rfl
      rw [hsc] at hcv
      have HSC := Lib.hid (show sc = bs [c] ∧ c = UInt8.ofNat (q % 256) from ⟨hsc.symm, hc⟩)
      have hbd : sc.size + st.size < 9223372036854775808 := by omega
      clear hc hcn hsc hr e1 e3 hr256
      go_wp2
      go_roundw
      case rel =>
        refine ⟨i + 1, q2, _, by omega, by go_num, by rw [show ((q : Int) / 256) = (q2 : Int) by omega], rfl, Lib.hid ⟨?_, ?_⟩, hq2b, by rw [ByteArray.size_append]; omega, Lib.hid (HB.out.alloc HB.out.size _)⟩
        · rw [HSC.out.1, HS.out.1, bs_app, HSC.out.2, HS.out.2, be_cons]
          rfl
        · rw [hq2, HS.out.2, Nat.div_div_eq_div_mul, Nat.pow_succ]
      case measure => simp [intOf]; omega
    · have d1 : decide ((i : Int) < (m : Int)) = false := decide_eq_false (by omega)
      have d1' : decide (i < m) = false := decide_eq_false hlt
      obtain rfl : i = m := by omega
      go_wp2
      go_ret
      exact ⟨by rw [HS.out.1]; rfl, HB.out⟩
end Go.Proofs.Ytgcifhhbhoafcaa
