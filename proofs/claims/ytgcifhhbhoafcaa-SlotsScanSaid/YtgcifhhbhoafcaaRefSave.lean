/-
  The reference: a header of a checkpoint. The reference: the checkpoint in a slot's bytes.
-/
import Derived.Test.YtgcifhhbhoafcaaLogRefC
import Derived.Test.YtgcifhhbhoafcaaSlotPure
namespace Go.Proofs.Ytgcifhhbhoafcaa
open Go.RowKit Go.Shelf
attribute [local go_sem] Oper.semAt_some

theorem num_step (l : List UInt8) (k : Nat) (h : k < l.length) : num (l.take k) * 256 ≤ num (l.take (k + 1)) := by
  rw [num_take l k h]
  omega
theorem num_mono (l : List UInt8) (k : Nat) : ∀ d, k + d ≤ l.length → num (l.take k) ≤ num (l.take (k + d))
  | 0, _ => Nat.le_refl _
  | d + 1, h => by
    have h1 := num_mono l k d (by omega)
    have h2 := num_step l (k + d) (by omega)
    rw [show k + (d + 1) = k + d + 1 by omega]
    omega
/-- What the reference takes a number's bytes for. -/
def rnum (l : List UInt8) : Int := if num l < 9223372036854775808 then (num l : Int) else -1
set_option maxHeartbeats 1000000 in
theorem rnumber_any (l : List UInt8) (hl : l.length ≤ 8) (w : World) :
    Calls Try.prog 56 #[.string (bs l)] w fun e w' => e = .returned (.int .i64 (rnum l)) ∧ w = w' := by
  obtain ⟨st, hst⟩ : ∃ st, st = bs l := ⟨_, rfl⟩
  have hsz : st.size = l.length := by rw [hst, bs_size]
  have HST := Lib.hid hst
  have HSZ := Lib.hid hsz
  have hs8 : st.size ≤ 8 := by omega
  rw [← hst]
  clear hst hsz
  go_enter Try.func56, Try.ntmps56
  go_wp2
  go_loopw [3, 4] (fun s3 s4 wr => ∃ i N : Nat, i ≤ st.size ∧ s4 = .int .i64 i ∧ s3 = .int .i64 (N : Int) ∧ N < 9223372036854775808 ∧ Hid (N = num (l.take i)) ∧ wr = w) (fun _ s4 _ => st.size - (intOf s4).toNat)
  case atStart => exact ⟨0, 0, Nat.zero_le _, rfl, rfl, by decide, Lib.hid rfl, rfl⟩
  case round =>
    obtain ⟨i, N, hi, rfl, rfl, hN, HN, rfl⟩ := hrel
    by_cases hlt : i < st.size
    · have d1 : decide ((i : Int) < (st.size : Int)) = true := decide_eq_true (by omega)
      have d1' : decide (i < st.size) = true := decide_eq_true hlt
      have hil : i < l.length := by have := HSZ.out; omega
      by_cases hbig : 36028797018963967 < N
      · have d2 : decide ((36028797018963967 : Int) < (N : Int)) = true := decide_eq_true (by omega)
        have d2' : decide (36028797018963967 < N) = true := decide_eq_true hbig
        have HR := Lib.hid (show rnum l = -1 by
          have h1 := num_step l i hil
          have h2 := num_mono l (i + 1) (l.length - (i + 1)) (by omega)
          rw [show i + 1 + (l.length - (i + 1)) = l.length by omega, List.take_length] at h2
          have h3 := HN.out
          unfold rnum
          rw [if_neg (by omega)])
        clear hbig hil
        go_wp2
        go_ret
        exact ⟨by rw [HR.out]; rfl, rfl⟩
      have d2 : decide ((36028797018963967 : Int) < (N : Int)) = false := decide_eq_false (by omega)
      have d2' : decide (36028797018963967 < N) = false := decide_eq_false hbig
      obtain ⟨x, hx⟩ : ∃ x, l[i] = x := ⟨_, rfl⟩
      have hx2 := x.toNat_lt
      have hgx : st[i] = x := by
        have e := HST.out
        subst e
        exact hx
      have HN2 := Lib.hid (show N * 256 + x.toNat = num (l.take (i + 1)) by rw [num_take l i hil, hx, HN.out])
      have j0 : (0 : Int) ≤ (i : Int) := by omega
      have j1 : (i : Int) < (st.size : Int) := by omega
      clear hx hil
      go_wp2
      go_roundw
      case rel => exact ⟨i + 1, N * 256 + x.toNat, by omega, by go_num, by simp, by omega, HN2, trivial⟩
      case measure => simp [intOf]; omega
    · have d1 : decide ((i : Int) < (st.size : Int)) = false := decide_eq_false (by omega)
      have d1' : decide (i < st.size) = false := decide_eq_false hlt
      have HR := Lib.hid (show (N : Int) = rnum l by
        have h3 := HN.out
        rw [List.take_of_length_le (by have := HSZ.out; omega)] at h3
        unfold rnum
        rw [← h3, if_pos hN])
      go_wp2
      go_ret
      exact ⟨by rw [← HR.out]; rfl, rfl⟩

theorem hdrS_fill (g st : Nat) (body : List UInt8) : ((83 : UInt8) :: (be 8 g ++ be 8 st ++ be 4 body.length ++ be 4 (crcB body))) ++ List.replicate 39 0 = hdrS g st body := by
  simp [hdrS]

set_option maxRecDepth 20000 in
set_option maxHeartbeats 4000000 in
theorem rhead_any (g st : Nat) (hg : g < 9223372036854775808) (hst : st < 9223372036854775808) (b o c : Nat) (body : List UInt8) (hl : body.length ≤ 1048576) (w : World) (hr : w.rangeAt b o (bCells body)) :
    Calls Try.prog 57 #[.int .i64 g, .agg #[.int .i64 st, .slice (some ⟨b, o, none⟩) body.length c]] w fun e w' => e = .returned (.string (bs (hdrS g st body))) ∧ Below w.heap.size w w' := by
  obtain ⟨L, hL⟩ : ∃ L, L = body.length := ⟨_, rfl⟩
  have HL := Lib.hid hL
  have hsum := fun W H => refsum_any (octs body) (octs_ok body) (by rw [octs_len]; omega) (some ⟨b, o, none⟩) c W H
  rw [octs_len, ← hL] at hsum
  rw [← hL] at hl ⊢
  have HSUM := Lib.hid hsum
  obtain ⟨Hd, hHd⟩ : ∃ Hd, Hd = hdrS g st body := ⟨_, rfl⟩
  rw [← hHd]
  have HHD := Lib.hid hHd
  obtain ⟨K0, hK0⟩ : ∃ K0, w.heap.size = K0 := ⟨_, rfl⟩
  obtain ⟨w1, hw1⟩ : ∃ w1, w.alloc (.cells #[.int .i64 (st : Int), .slice (some ⟨b, o, none⟩) L c] 48) = w1 := ⟨_, rfl⟩
  have hb1 : Below w.heap.size w w1 := by rw [← hw1]; exact bA (Below.refl _ _) _
  have hK1 : w1.heap[K0]? = some (.cells #[.int .i64 (st : Int), .slice (some ⟨b, o, none⟩) L c] 48 (0, 0)) := by rw [← hw1, ← hK0]; exact heap_new w _
  have HSOF := Lib.hid (show ∀ W, Below w1.heap.size w1 W → W.cell? ⟨K0, 0, none⟩ = some (.int .i64 st) ∧ W.cell? ⟨K0, 1, none⟩ = some (.slice (some ⟨b, o, none⟩) L c) from fun W hW => by
    have h2 := (Chg.below hW (fun _ => False)).box hK1 (fun e => e)
    exact ⟨by rw [cell_in h2]; rfl, by rw [cell_in h2]; rfl⟩)
  have HR := Lib.hid (show ∀ W, Below w1.heap.size w1 W → W.rangeAt b o (bCells body) from fun W hW => (Chg.below (hb1.trans (hW.mono hb1.size)) (fun _ => False)).range hr (fun e => e))
  have HB1 := Lib.hid hb1
  have HW1 := Lib.hid hw1
  clear hL hr hsum hHd hK1 hb1 hw1
  have HK0 := Lib.hid hK0
  go_enter Try.func57, Try.ntmps57
  go_wp2_with fail
  rw [HW1.out]
  first | rw [hK0] | skip
  clear hK0
  have hbE0 : Below w1.heap.size w1 w1.drew := bD (Below.refl _ _)
  refine wp_region_noPanic ?_
  refine wp_region_held_drew (S := fun W => W.cell? ⟨K0, 0, none⟩ = some (.int .i64 st) ∧ W.cell? ⟨K0, 1, none⟩ = some (.slice (some ⟨b, o, none⟩) L c)) (by kernel_rfl) ((by exact HSOF.out _ hbE0)) (fun hHeld => ?_)
  refine wpAnyH_take (i := 0) (v := ?_) rfl (by kernel_rfl) (by kernel_rfl) (by kernel_rfl) (fun _ _ _ h => h) (Or.inl ⟨by rfl, ?_⟩) (by assumption) ?_
  rotate_left
  · (intro w hSw; (try dsimp only at hSw); go_simp; try (with_reducible rfl))
  try simp only [Act.put, List.setIfInBounds_toArray, List.set_cons_zero, List.set_cons_succ, List.getElem_toArray, List.getElem_cons_zero]
  refine wpAnyH_take (i := 3) (v := ?_) rfl (by kernel_rfl) (by kernel_rfl) (by kernel_rfl) (fun _ _ _ h => h) (Or.inl ⟨by rfl, ?_⟩) (by assumption) ?_
  rotate_left
  · (intro w hSw; (try dsimp only at hSw); go_simp; try (with_reducible rfl))
  try simp only [Act.put, List.setIfInBounds_toArray, List.set_cons_zero, List.set_cons_succ, List.getElem_toArray, List.getElem_cons_zero, List.getElem_cons_succ]
  refine wpAnyH_take (i := 4) (v := ?_) rfl (by kernel_rfl) (by kernel_rfl) (by kernel_rfl) (fun _ _ _ h => h) (Or.inl ⟨by rfl, ?_⟩) (by assumption) ?_
  rotate_left
  · (intro w hSw; (try dsimp only at hSw); go_simp; try (with_reducible rfl))
  try simp only [Act.put, List.setIfInBounds_toArray, List.set_cons_zero, List.set_cons_succ, List.getElem_toArray, List.getElem_cons_zero, List.getElem_cons_succ]
  refine wpAnyH_take (i := 7) (v := ?_) rfl (by kernel_rfl) (by kernel_rfl) (by kernel_rfl) (fun _ _ _ h => h) (Or.inl ⟨by rfl, ?_⟩) (by assumption) ?_
  rotate_left
  · (intro w hSw; (try dsimp only at hSw); go_simp; try (with_reducible rfl))
  try simp only [Act.put, List.setIfInBounds_toArray, List.set_cons_zero, List.set_cons_succ, List.getElem_toArray, List.getElem_cons_zero, List.getElem_cons_succ]
  refine wpAnyH_take (i := 8) (v := ?_) rfl (by kernel_rfl) (by kernel_rfl) (by kernel_rfl) (fun _ _ _ h => h) (Or.inl ⟨by rfl, ?_⟩) (by assumption) ?_
  rotate_left
  · (intro w hSw; (try dsimp only at hSw); go_simp; try (with_reducible rfl))
  try simp only [Act.put, List.setIfInBounds_toArray, List.set_cons_zero, List.set_cons_succ, List.getElem_toArray, List.getElem_cons_zero, List.getElem_cons_succ]
  refine wpAnyH_take (i := 9) (v := ?_) rfl (by kernel_rfl) (by kernel_rfl) (by kernel_rfl) (fun _ _ _ h => h) (Or.inl ⟨by rfl, ?_⟩) (by assumption) ?_
  rotate_left
  · (intro w hSw; (try dsimp only at hSw); go_simp; try (with_reducible rfl))
  try simp only [Act.put, List.setIfInBounds_toArray, List.set_cons_zero, List.set_cons_succ, List.getElem_toArray, List.getElem_cons_zero, List.getElem_cons_succ]
  refine wpAnyH_take (i := 12) (v := ?_) rfl (by kernel_rfl) (by kernel_rfl) (by kernel_rfl) (fun _ _ _ h => h) (Or.inl ⟨by rfl, ?_⟩) (by assumption) ?_
  rotate_left
  · (intro w hSw; (try dsimp only at hSw); go_simp; try (with_reducible rfl))
  try simp only [Act.put, List.setIfInBounds_toArray, List.set_cons_zero, List.set_cons_succ, List.getElem_toArray, List.getElem_cons_zero, List.getElem_cons_succ]
  refine wpAnyH_take (i := 13) (v := ?_) rfl (by kernel_rfl) (by kernel_rfl) (by kernel_rfl) (fun _ _ _ h => h) (Or.inl ⟨by rfl, ?_⟩) (by assumption) ?_
  rotate_left
  · (intro w hSw; (try dsimp only at hSw); go_simp; try (with_reducible rfl))
  try simp only [Act.put, List.setIfInBounds_toArray, List.set_cons_zero, List.set_cons_succ, List.getElem_toArray, List.getElem_cons_zero, List.getElem_cons_succ]
  refine wpAnyH_ready (rs := [1]) (by kernel_rfl) (by simp) ?_
  refine AllReadyH.cons rfl (fun K hK => ?_) AllReadyH.nil
  go_simp
  go_at_call 68
  refine (lay_any g 8 (by decide) (by omega) _).mono ?_
  rintro e2 w2 ⟨rfl, hb2⟩
  have hbE2 : Below w1.heap.size w1 w2 := hbE0.trans (hb2.mono hbE0.size)
  obtain ⟨sg, hsg⟩ : ∃ s, s = bs (be 8 g) := ⟨_, rfl⟩
  have zsg : sg.size = 8 := by rw [hsg, bs_size, be_len]
  rw [← hsg]
  have Hsg := Lib.hid hsg
  clear hsg
  refine hK.out _ _ ((by exact HSOF.out _ hbE2)) (fun hHeld2 => ?_)
  clear hK K hHeld
  have hHeld := hHeld2
  clear hHeld2
  try simp only [Act.put, List.setIfInBounds_toArray, List.set_cons_zero, List.set_cons_succ, List.getElem_toArray, List.getElem_cons_zero, List.getElem_cons_succ]
  obtain ⟨q1, hq1⟩ : ∃ q, (⟨#[83]⟩ : ByteArray) ++ sg = q := ⟨_, rfl⟩
  have zq1 : q1.size = 9 := by rw [← hq1, ByteArray.size_append, zsg]; rfl
  have z83 : (⟨#[83]⟩ : ByteArray).size = 1 := rfl
  have hn1 : ¬ (9223372036854775807 < 1 + sg.size) := by omega
  refine wpAnyH_take (i := 2) (v := ?_) rfl (by kernel_rfl) (by kernel_rfl) (by kernel_rfl) (fun _ _ _ h => h) (Or.inl ⟨by rfl, ?_⟩) (by assumption) ?_
  rotate_left
  · (intro w hSw; (try dsimp only at hSw); go_simp; try (with_reducible rfl))
  try simp only [Act.put, List.setIfInBounds_toArray, List.set_cons_zero, List.set_cons_succ, List.getElem_toArray, List.getElem_cons_zero, List.getElem_cons_succ]
  clear hn1
  refine wpAnyH_ready (rs := [5]) (by kernel_rfl) (by simp) ?_
  refine AllReadyH.cons rfl (fun K hK => ?_) AllReadyH.nil
  go_simp
  go_at_call 68
  refine (lay_any st 8 (by decide) (by omega) _).mono ?_
  rintro e3 w3 ⟨rfl, hb3⟩
  have hbE3 : Below w1.heap.size w1 w3 := hbE2.trans (hb3.mono hbE2.size)
  obtain ⟨ss, hss⟩ : ∃ s, s = bs (be 8 st) := ⟨_, rfl⟩
  have zss : ss.size = 8 := by rw [hss, bs_size, be_len]
  rw [← hss]
  have Hss := Lib.hid hss
  clear hss
  refine hK.out _ _ ((by exact HSOF.out _ hbE3)) (fun hHeld2 => ?_)
  clear hK K hHeld
  have hHeld := hHeld2
  clear hHeld2
  try simp only [Act.put, List.setIfInBounds_toArray, List.set_cons_zero, List.set_cons_succ, List.getElem_toArray, List.getElem_cons_zero, List.getElem_cons_succ]
  obtain ⟨q2, hq2⟩ : ∃ q, q1 ++ ss = q := ⟨_, rfl⟩
  have zq2 : q2.size = 17 := by rw [← hq2, ByteArray.size_append, zq1, zss]
  have hn2 : ¬ (9223372036854775807 < q1.size + ss.size) := by omega
  refine wpAnyH_take (i := 6) (v := ?_) rfl (by kernel_rfl) (by kernel_rfl) (by kernel_rfl) (fun _ _ _ h => h) (Or.inl ⟨by rfl, ?_⟩) (by assumption) ?_
  rotate_left
  · (intro w hSw; (try dsimp only at hSw); go_simp; try (with_reducible rfl))
  try simp only [Act.put, List.setIfInBounds_toArray, List.set_cons_zero, List.set_cons_succ, List.getElem_toArray, List.getElem_cons_zero, List.getElem_cons_succ]
  clear hn2
  refine wpAnyH_ready (rs := [10]) (by kernel_rfl) (by simp) ?_
  refine AllReadyH.cons rfl (fun K hK => ?_) AllReadyH.nil
  go_simp
  go_at_call 68
  refine (lay_any L 4 (by decide) (by omega) _).mono ?_
  rintro e4 w4 ⟨rfl, hb4⟩
  have hbE4 : Below w1.heap.size w1 w4 := hbE3.trans (hb4.mono hbE3.size)
  obtain ⟨sl, hsl⟩ : ∃ s, s = bs (be 4 L) := ⟨_, rfl⟩
  have zsl : sl.size = 4 := by rw [hsl, bs_size, be_len]
  rw [← hsl]
  have Hsl := Lib.hid hsl
  clear hsl
  refine hK.out _ _ ((by exact HSOF.out _ hbE4)) (fun hHeld2 => ?_)
  clear hK K hHeld
  have hHeld := hHeld2
  clear hHeld2
  try simp only [Act.put, List.setIfInBounds_toArray, List.set_cons_zero, List.set_cons_succ, List.getElem_toArray, List.getElem_cons_zero, List.getElem_cons_succ]
  obtain ⟨q3, hq3⟩ : ∃ q, q2 ++ sl = q := ⟨_, rfl⟩
  have zq3 : q3.size = 21 := by rw [← hq3, ByteArray.size_append, zq2, zsl]
  have hn3 : ¬ (9223372036854775807 < q2.size + sl.size) := by omega
  refine wpAnyH_take (i := 11) (v := ?_) rfl (by kernel_rfl) (by kernel_rfl) (by kernel_rfl) (fun _ _ _ h => h) (Or.inl ⟨by rfl, ?_⟩) (by assumption) ?_
  rotate_left
  · (intro w hSw; (try dsimp only at hSw); go_simp; try (with_reducible rfl))
  try simp only [Act.put, List.setIfInBounds_toArray, List.set_cons_zero, List.set_cons_succ, List.getElem_toArray, List.getElem_cons_zero, List.getElem_cons_succ]
  clear hn3
  refine wpAnyH_ready (rs := [14]) (by kernel_rfl) (by simp) ?_
  refine AllReadyH.cons rfl (fun K hK => ?_) AllReadyH.nil
  go_simp
  go_at_call 69
  refine (HSUM.out w4 (bytes_at (HR.out w4 hbE4))).mono ?_
  rintro e5 w5 ⟨rfl, hw5⟩
  obtain rfl := hw5
  obtain ⟨cc, hcc⟩ : ∃ cc, cc = Crc.crc (octs body) := ⟨_, rfl⟩
  have hcl : cc < 4294967296 := by rw [hcc]; exact crcB_lt body
  rw [← hcc]
  have HCC := Lib.hid (show cc = crcB body from hcc)
  have hcw : IntKind.i64.wrap (cc : Int) = (cc : Int) := by rw [IntKind.wrap_i64]; omega
  clear hcc
  refine hK.out _ _ (hHeld) (fun hHeld2 => ?_)
  clear hK K hHeld
  have hHeld := hHeld2
  clear hHeld2
  try simp only [Act.put, List.setIfInBounds_toArray, List.set_cons_zero, List.set_cons_succ, List.getElem_toArray, List.getElem_cons_zero, List.getElem_cons_succ]
  refine wpAnyH_take (i := 15) (v := ?_) rfl (by kernel_rfl) (by kernel_rfl) (by kernel_rfl) (fun _ _ _ h => h) (Or.inl ⟨by rfl, ?_⟩) (by assumption) ?_
  rotate_left
  · (intro w hSw; (try dsimp only at hSw); go_simp; try (with_reducible rfl))
  try simp only [Act.put, List.setIfInBounds_toArray, List.set_cons_zero, List.set_cons_succ, List.getElem_toArray, List.getElem_cons_zero, List.getElem_cons_succ]
  refine wpAnyH_ready (rs := [16]) (by kernel_rfl) (by simp) ?_
  refine AllReadyH.cons rfl (fun K hK => ?_) AllReadyH.nil
  go_simp
  go_at_call 68
  refine (lay_any cc 4 (by decide) (by omega) _).mono ?_
  rintro e5 w5 ⟨rfl, hb5⟩
  have hbE5 : Below w1.heap.size w1 w5 := hbE4.trans (hb5.mono hbE4.size)
  obtain ⟨sc, hsc⟩ : ∃ s, s = bs (be 4 cc) := ⟨_, rfl⟩
  have zsc : sc.size = 4 := by rw [hsc, bs_size, be_len]
  rw [← hsc]
  have Hsc := Lib.hid hsc
  clear hsc
  refine hK.out _ _ ((by exact HSOF.out _ hbE5)) (fun hHeld2 => ?_)
  clear hK K hHeld
  have hHeld := hHeld2
  clear hHeld2
  try simp only [Act.put, List.setIfInBounds_toArray, List.set_cons_zero, List.set_cons_succ, List.getElem_toArray, List.getElem_cons_zero, List.getElem_cons_succ]
  obtain ⟨q4, hq4⟩ : ∃ q, q3 ++ sc = q := ⟨_, rfl⟩
  have zq4 : q4.size = 25 := by rw [← hq4, ByteArray.size_append, zq3, zsc]
  have hn4 : ¬ (9223372036854775807 < q3.size + sc.size) := by omega
  refine wpAnyH_take (i := 17) (v := ?_) rfl (by kernel_rfl) (by kernel_rfl) (by kernel_rfl) (fun _ _ _ h => h) (Or.inl ⟨by rfl, ?_⟩) (by assumption) ?_
  rotate_left
  · (intro w hSw; (try dsimp only at hSw); go_simp; try (with_reducible rfl))
  try simp only [Act.put, List.setIfInBounds_toArray, List.set_cons_zero, List.set_cons_succ, List.getElem_toArray, List.getElem_cons_zero, List.getElem_cons_succ]
  clear hn4
  refine wpAnyH_take (i := 18) (v := ?_) rfl (by kernel_rfl) (by kernel_rfl) (by kernel_rfl) (fun _ _ _ h => h) (Or.inl ⟨by rfl, ?_⟩) (by assumption) ?_
  rotate_left
  · (intro w hSw; (try dsimp only at hSw); go_simp; try (with_reducible rfl))
  try simp only [Act.put, List.setIfInBounds_toArray, List.set_cons_zero, List.set_cons_succ, List.getElem_toArray, List.getElem_cons_zero, List.getElem_cons_succ]
  refine wpAnyH_done (by kernel_rfl) ?_ _
  refine NoPanic.normal ?_
  clear hHeld
  have hb5w : Below w.heap.size w w5 := HB1.out.trans (hbE5.mono HB1.out.size)
  have HB5 := Lib.hid hb5w
  have hmk := make_u8 w5 39 (by decide)
  obtain ⟨W1, hW1⟩ : ∃ W1, w5.alloc (.cells (List.replicate 39 (Value.int .u8 0)).toArray 5) = W1 := ⟨_, rfl⟩
  have hs1 := heap_new w5 (.cells (List.replicate 39 (Value.int .u8 0)).toArray 5)
  rw [hW1] at hmk hs1
  have hmk2 : (Instr.makeSlice 22 (.int .i64 39) (.int .i64 39)).run Try.prog w5 = .ok (.slice (some ⟨w5.heap.size, 0, none⟩) 39 39) W1 := hmk
  have hcv := run_str (c := 39) (l := List.replicate 39 0) (w := W1) (b := w5.heap.size) (o := 0) (in_block (by rw [hs1]; simp [bCells]))
  rw [List.length_replicate] at hcv
  obtain ⟨sz, hsz2⟩ : ∃ sz, bs (List.replicate 39 0) = sz := ⟨_, rfl⟩
  have hzs : sz.size = 39 := by rw [← hsz2, bs_size, List.length_replicate]
  rw [hsz2] at hcv
  have HW := Lib.hid (show Below w5.heap.size w5 W1 by rw [← hW1]; exact bA (Below.refl _ _) _)
  have HFIN := Lib.hid (show q4 ++ sz = bs Hd by
    rw [← hq4, ← hq3, ← hq2, ← hq1, Hsg.out, Hss.out, Hsl.out, Hsc.out, ← hsz2, HHD.out, ← hdrS_fill, HL.out, HCC.out, show (⟨#[83]⟩ : ByteArray) = bs [83] from rfl, bs_app, bs_app, bs_app, bs_app, bs_app]
    simp)
  have hn6 : q4.size + sz.size < 9223372036854775808 := by omega
  clear hq1 hq2 hq3 hq4 hsz2 hs1 hW1 hmk hb5w hbE0 hbE2 hbE3 hbE4 hbE5 hb2 hb3 hb4 hb5
  go_wp2
  go_ret
  exact ⟨by rw [← HFIN.out]; rfl, HB5.out.trans (HW.out.mono HB5.out.size)⟩
end Go.Proofs.Ytgcifhhbhoafcaa

namespace Go.Proofs.Ytgcifhhbhoafcaa
open Go.RowKit Go.Shelf
attribute [local go_sem] Oper.semAt_some

theorem results_cell_tmp2 {fn : Func} {t u v : Tmp} {ty : TypeId} (h : fn.results = #[.cell t ty, .tmp u, .tmp v]) (tmps : Array Value) (P : Program) (w : World) (ad : Addr) (x : Value) (ha : tmps.getD t undef = .pointer (some ad)) (hl : (loadVar ty ad).run P w = .ok x w) : (results fn tmps).run P w = .ok (.tuple #[x, tmps.getD u undef, tmps.getD v undef]) w := by
  simp only [Array.getD_eq_getD_getElem?] at ha
  simp [results, h, ha, hl, asAddr]
theorem size_entr : (Try.prog.info? 48).map (·.size) = some 2 := by kernel_rfl
theorem load2e {w : World} {b : Nat} {v0 v1 : Value} (h : w.heap[b]? = some (.cells #[v0, v1] 48 (0, 0))) : (loadVar 48 ⟨b, 0, none⟩).run Try.prog w = .ok (.agg #[v0, v1]) w := by
  have hr : w.rangeAt b 0 [v0, v1] := fun j u hj => by
    rw [Nat.zero_add, cell_in h, ← hj]
    exact List.getElem?_toArray ..
  exact run_loadVar_mid (P := Try.prog) w b 0 48 [v0, v1] _ hr Try.underlying48 rfl size_entr
/-- An entry of a checkpoint, as a value; its body in memory. -/
def entR (b : Option Ck) (q : Option Addr) (cap : Nat) : Array Value := #[.int .i64 (stOf b : Nat), .slice q (bodyOf b).length cap]
def RHeld (lo : Nat) (W : World) (b : Option Ck) (q : Option Addr) : Prop := InAt W q (bodyOf b) ∧ ∀ k o, q = some ⟨k, o, none⟩ → lo ≤ k
theorem RHeld.on {lo : Nat} {W W' : World} {b : Option Ck} {q : Option Addr} (H : RHeld lo W b q) (hb : Below W.heap.size W W') : RHeld lo W' b q := ⟨H.1.on hb, H.2⟩
theorem rnum_4 {l : List UInt8} (h : l.length ≤ 4) : rnum l = (num l : Int) := by
  have h1 := num_lt l
  have h2 : (256 : Nat) ^ l.length ≤ 256 ^ 4 := Nat.pow_le_pow_right (by decide) h
  unfold rnum
  rw [if_pos (by omega)]

set_option maxRecDepth 20000 in
set_option maxHeartbeats 8000000 in
theorem rsave_any (slot : Nat) (hs : slot < 2) (h : Sec) (hh : h.length = 64) (data : List UInt8) (m : Nat) (hm1 : 1 ≤ m) (hdl : data.length = (m - 1) * 64) (hmb : m ≤ 10000) (w : World) :
    Calls Try.prog 42 #[.string (bs (h ++ data)), .int .i64 slot] w fun e w' => ∃ q cap, e = .returned (.tuple #[.agg (entR (chkB slot h data m) q cap), .int .i64 (genOf (chkB slot h data m) : Nat), .bool (chkB slot h data m).isSome]) ∧ Below w.heap.size w w' ∧ RHeld w.heap.size w' (chkB slot h data m) q := by
  obtain ⟨out, hout⟩ : ∃ out, chkB slot h data m = out := ⟨_, rfl⟩
  have HOUT := Lib.hid hout
  rw [hout]
  obtain ⟨st, hst⟩ : ∃ st, st = bs (h ++ data) := ⟨_, rfl⟩
  have hsz : st.size = 64 + (m - 1) * 64 := by rw [hst, bs_size, List.length_append, hh, hdl]
  have x1 : st.extract 1 9 = bs ((h.drop 1).take 8) := by rw [hst, bs_mid, List.take_append_of_le_length (by omega), List.drop_take]
  have x2 : st.extract 9 17 = bs ((h.drop 9).take 8) := by rw [hst, bs_mid, List.take_append_of_le_length (by omega), List.drop_take]
  have x3 : st.extract 17 21 = bs ((h.drop 17).take 4) := by rw [hst, bs_mid, List.take_append_of_le_length (by omega), List.drop_take]
  have x4 : st.extract 0 64 = bs h := by rw [hst, bs_to, List.take_append_of_le_length (by omega), List.take_of_length_le (by omega)]
  obtain ⟨n, hn⟩ : ∃ n, n = hN h := ⟨_, rfl⟩
  have hnl : n < 4294967296 := by
    have := num_lt ((h.drop 17).take 4)
    rw [List.length_take, List.length_drop, hh] at this
    rw [hn]
    exact this
  have hr1 := fun W => rnumber_any ((h.drop 1).take 8) (by rw [List.length_take]; omega) W
  have hr2 := fun W => rnumber_any ((h.drop 9).take 8) (by rw [List.length_take]; omega) W
  have hr3 := fun W => rnumber_any ((h.drop 17).take 4) (by rw [List.length_take]; omega) W
  rw [rnum_4 (by rw [List.length_take]; omega), show num ((h.drop 17).take 4) = n from hn.symm] at hr3
  obtain ⟨gz, hgz⟩ : ∃ gz, rnum ((h.drop 1).take 8) = gz := ⟨_, rfl⟩
  obtain ⟨sz, hsz0⟩ : ∃ sz, rnum ((h.drop 9).take 8) = sz := ⟨_, rfl⟩
  rw [hgz] at hr1
  rw [hsz0] at hr2
  have HGZ := Lib.hid (show gz = if hG h < 9223372036854775808 then (hG h : Int) else -1 from hgz.symm)
  have HSZ := Lib.hid (show sz = if hS h < 9223372036854775808 then (hS h : Int) else -1 from hsz0.symm)
  obtain ⟨y1, hy1⟩ : ∃ y1, bs ((h.drop 1).take 8) = y1 := ⟨_, rfl⟩
  obtain ⟨y2, hy2⟩ : ∃ y2, bs ((h.drop 9).take 8) = y2 := ⟨_, rfl⟩
  obtain ⟨y3, hy3⟩ : ∃ y3, bs ((h.drop 17).take 4) = y3 := ⟨_, rfl⟩
  rw [hy1] at x1 hr1
  rw [hy2] at x2 hr2
  rw [hy3] at x3 hr3
  obtain ⟨L, hL⟩ : ∃ L, L = (m - 1) * 64 := ⟨_, rfl⟩
  have hLb : L ≤ 640000 := by omega
  rw [← hL] at hsz hdl
  have HL := Lib.hid hL
  have HN := Lib.hid hn
  have HST := Lib.hid hst
  have HH := Lib.hid hh
  have HDL := Lib.hid hdl
  rw [← hst]
  have i1 : (9 : Int) ≤ (st.size : Int) := by omega
  have i2 : (17 : Int) ≤ (st.size : Int) := by omega
  have i3 : (21 : Int) ≤ (st.size : Int) := by omega
  have i4 : (64 : Int) ≤ (st.size : Int) := by omega
  have i5 : 64 ≤ st.size := by omega
  have i6 : 9 ≤ st.size := by omega
  have i7 : 17 ≤ st.size := by omega
  have i8 : 21 ≤ st.size := by omega
  have HSIZE := Lib.hid hsz
  have hL64 : (st.size : Int) - 64 = (L : Int) := by omega
  obtain ⟨X, hX⟩ : ∃ X, w.heap.size = X := ⟨_, rfl⟩
  obtain ⟨w2, hw2⟩ : ∃ w2, (w.alloc (.cells #[.int .i64 0, .slice none 0 0] 48)).alloc (.cells #[.int .i64 sz, .slice none 0 0] 48) = w2 := ⟨_, rfl⟩
  have hb2 : Below w.heap.size w w2 := by rw [← hw2]; exact bA (bA (Below.refl _ _) _) _
  have hX2 : w2.heap[X]? = some (.cells #[.int .i64 0, .slice none 0 0] 48 (0, 0)) := by
    rw [← hw2, ← hX, Below.heap_alloc _ _ _ (by simp)]
    exact heap_new w _
  have hC2 : w2.heap[X + 1]? = some (.cells #[.int .i64 sz, .slice none 0 0] 48 (0, 0)) := by
    rw [← hw2, ← hX]
    have := heap_new (w.alloc (.cells #[.int .i64 0, .slice none 0 0] 48)) (.cells #[.int .i64 sz, .slice none 0 0] 48)
    simpa using this
  have HX := Lib.hid hX
  have HX2 := Lib.hid hX2
  have HC2 := Lib.hid hC2
  have HB2 := Lib.hid hb2
  have HW2 := Lib.hid hw2
  clear hn hgz hsz0 hy1 hy2 hy3 hsz hst hX2 hC2 hb2 hL hdl hh hout hw2
  go_enter Try.func42, Try.ntmps42
  go_wp2_with fail
  refine (hr1 _).mono ?_
  rintro e w1 ⟨rfl, hw1⟩
  obtain rfl := hw1
  go_wp2_with fail
  refine (hr2 _).mono ?_
  rintro e w1 ⟨rfl, hw1⟩
  obtain rfl := hw1
  go_wp2_with fail
  first | rw [HW2.out] | skip
  first | rw [hX] | skip
  clear hX
  refine (hr3 _).mono ?_
  rintro e w1 ⟨rfl, hw1⟩
  obtain rfl := hw1
  clear hr1 hr2 hr3
  have kx0 : w2.cell? ⟨X, 0, none⟩ = some (.int .i64 0) := by rw [cell_in HX2.out]; rfl
  have kx1 : w2.cell? ⟨X, 1, none⟩ = some (.slice none 0 0) := by rw [cell_in HX2.out]; rfl
  have kc0 : w2.cell? ⟨X + 1, 0, none⟩ = some (.int .i64 sz) := by rw [cell_in HC2.out]; rfl
  have kc1 : w2.cell? ⟨X + 1, 1, none⟩ = some (.slice none 0 0) := by rw [cell_in HC2.out]; rfl
  have fx0 := frozen_in HX2.out 0
  have fx1 := frozen_in HX2.out 1
  have fc1 := frozen_in HC2.out 1
  by_cases hg0 : gz < 1
  · have f0 : decide (gz < 1) = true := decide_eq_true hg0
    have HNO := Lib.hid (show out = none by
      rw [← HOUT.out]
      unfold chkB
      rw [if_neg (fun e => ?_)]
      have h1 := HGZ.out
      rw [if_pos e.2.2.1] at h1
      have := e.2.1
      omega)
    clear hg0
    go_wp2
    show bodyPost _ _ _ _ _ (set2 w2 X (.int .i64 0) (.slice none 0 0))
    refine bodyPost_ret (results_cell_tmp2 rfl _ _ _ ⟨X, 0, none⟩ _ rfl (load2e (set2_heap HX2.out _ _))) rfl ?_
    rw [HNO.out]
    exact ⟨none, 0, rfl, set2_below HB2.out (Nat.le_of_eq HX.out) _ _, fun h => by simp [bodyOf] at h, fun b o e => by cases e⟩
  obtain ⟨G, rfl⟩ : ∃ G : Nat, gz = (G : Int) := ⟨gz.toNat, by omega⟩
  have hGb : 1 ≤ G ∧ G < 9223372036854775808 ∧ G = hG h := by
    have h1 := HGZ.out
    split at h1 <;> omega
  have f0 : decide ((G : Int) < 1) = false := decide_eq_false hg0
  obtain ⟨pp, hpp⟩ : ∃ pp, pp = G % 2 := ⟨_, rfl⟩
  have q1 : ((G : Int)).tmod 2 = (pp : Int) := by rw [Int.tmod_eq_emod_of_nonneg (by omega)]; omega
  by_cases hsl : pp = slot
  case neg =>
    have f1 : ((pp : Int) != (slot : Int)) = true := by rw [bne_iff_ne]; omega
    have HNO := Lib.hid (show out = none by
      rw [← HOUT.out]
      unfold chkB
      rw [if_neg (fun e => ?_)]
      have := e.2.2.2.1
      have := hGb.2.2
      omega)
    clear hGb hpp hsl hg0
    go_wp2
    show bodyPost _ _ _ _ _ (set2 w2 X (.int .i64 0) (.slice none 0 0))
    refine bodyPost_ret (results_cell_tmp2 rfl _ _ _ ⟨X, 0, none⟩ _ rfl (load2e (set2_heap HX2.out _ _))) rfl ?_
    rw [HNO.out]
    exact ⟨none, 0, rfl, set2_below HB2.out (Nat.le_of_eq HX.out) _ _, fun h => by simp [bodyOf] at h, fun b o e => by cases e⟩
  have f1 : ((pp : Int) != (slot : Int)) = false := by rw [hsl]; simp
  by_cases hs0 : sz < 0
  · have f2 : decide (sz < 0) = true := decide_eq_true hs0
    have HNO := Lib.hid (show out = none by
      rw [← HOUT.out]
      unfold chkB
      rw [if_neg (fun e => ?_)]
      have h1 := HSZ.out
      have h2 := e.2.2.2.2.1
      rw [if_pos (by omega)] at h1
      omega)
    clear hGb hpp hsl hg0 hs0
    go_wp2
    show bodyPost _ _ _ _ _ (set2 w2 X (.int .i64 0) (.slice none 0 0))
    refine bodyPost_ret (results_cell_tmp2 rfl _ _ _ ⟨X, 0, none⟩ _ rfl (load2e (set2_heap HX2.out _ _))) rfl ?_
    rw [HNO.out]
    exact ⟨none, 0, rfl, set2_below HB2.out (Nat.le_of_eq HX.out) _ _, fun h => by simp [bodyOf] at h, fun b o e => by cases e⟩
  have f2 : decide (sz < 0) = false := decide_eq_false hs0
  by_cases hs1 : 1152921504606846975 < sz
  · have f3 : decide (1152921504606846975 < sz) = true := decide_eq_true hs1
    have HNO := Lib.hid (show out = none by
      rw [← HOUT.out]
      unfold chkB
      rw [if_neg (fun e => ?_)]
      have h1 := HSZ.out
      have h2 := e.2.2.2.2.1
      rw [if_pos (by omega)] at h1
      omega)
    clear hGb hpp hsl hg0 hs0 hs1
    go_wp2
    show bodyPost _ _ _ _ _ (set2 w2 X (.int .i64 0) (.slice none 0 0))
    refine bodyPost_ret (results_cell_tmp2 rfl _ _ _ ⟨X, 0, none⟩ _ rfl (load2e (set2_heap HX2.out _ _))) rfl ?_
    rw [HNO.out]
    exact ⟨none, 0, rfl, set2_below HB2.out (Nat.le_of_eq HX.out) _ _, fun h => by simp [bodyOf] at h, fun b o e => by cases e⟩
  have f3 : decide (1152921504606846975 < sz) = false := decide_eq_false hs1
  obtain ⟨T, rfl⟩ : ∃ T : Nat, sz = (T : Int) := ⟨sz.toNat, by omega⟩
  have hTb : T ≤ 1152921504606846975 ∧ T = hS h := by
    have h1 := HSZ.out
    split at h1 <;> omega
  by_cases hn1 : 1048576 < n
  · have f4 : decide ((1048576 : Int) < (n : Int)) = true := decide_eq_true (by omega)
    have f4' : decide (1048576 < n) = true := decide_eq_true hn1
    have HNO := Lib.hid (show out = none by
      rw [← HOUT.out]
      unfold chkB
      rw [if_neg (fun e => ?_)]
      have h1 := e.1
      have h2 := HN.out
      unfold roomS at h1
      omega)
    clear hGb hpp hsl hg0 hs0 hs1 hTb hn1
    go_wp2
    show bodyPost _ _ _ _ _ (set2 w2 X (.int .i64 0) (.slice none 0 0))
    refine bodyPost_ret (results_cell_tmp2 rfl _ _ _ ⟨X, 0, none⟩ _ rfl (load2e (set2_heap HX2.out _ _))) rfl ?_
    rw [HNO.out]
    exact ⟨none, 0, rfl, set2_below HB2.out (Nat.le_of_eq HX.out) _ _, fun h => by simp [bodyOf] at h, fun b o e => by cases e⟩
  have f4 : decide ((1048576 : Int) < (n : Int)) = false := decide_eq_false (by omega)
  have f4' : decide (1048576 < n) = false := decide_eq_false hn1
  by_cases hn2 : L < n
  · have f5 : decide ((L : Int) < (n : Int)) = true := decide_eq_true (by omega)
    have f5' : decide (L < n) = true := decide_eq_true hn2
    have HNO := Lib.hid (show out = none by
      rw [← HOUT.out]
      unfold chkB
      rw [if_neg (fun e => ?_)]
      have h1 := e.1
      have h2 := HN.out
      have h3 := HL.out
      unfold roomS at h1
      omega)
    clear hGb hpp hsl hg0 hs0 hs1 hTb hn1 hn2
    go_wp2
    show bodyPost _ _ _ _ _ (set2 w2 X (.int .i64 0) (.slice none 0 0))
    refine bodyPost_ret (results_cell_tmp2 rfl _ _ _ ⟨X, 0, none⟩ _ rfl (load2e (set2_heap HX2.out _ _))) rfl ?_
    rw [HNO.out]
    exact ⟨none, 0, rfl, set2_below HB2.out (Nat.le_of_eq HX.out) _ _, fun h => by simp [bodyOf] at h, fun b o e => by cases e⟩
  have f5 : decide ((L : Int) < (n : Int)) = false := decide_eq_false (by omega)
  have f5' : decide (L < n) = false := decide_eq_false hn2
  obtain ⟨body, hbody⟩ : ∃ body, data.take n = body := ⟨_, rfl⟩
  have hbl : body.length = n := by rw [← hbody, List.length_take, HDL.out]; omega
  have HCHK := Lib.hid (show out = if h = hdrS G T body then some ⟨G, T, body⟩ else none by
    rw [← HOUT.out]
    unfold chkB
    rw [← hGb.2.2, ← hTb.2, ← HN.out, hbody]
    by_cases he : h = hdrS G T body
    · rw [if_pos ⟨by unfold roomS; have := HL.out; omega, hGb.1, hGb.2.1, by rw [← hpp]; exact hsl, hTb.1, he⟩, if_pos he]
    · rw [if_neg (fun e => he e.2.2.2.2.2), if_neg he])
  have x5 : st.extract 64 (64 + n) = bs body := by
    rw [HST.out, bs_mid, ← hbody]
    congr 1
    rw [List.take_append, List.take_of_length_le (by rw [HH.out]; omega), HH.out, show 64 + n - 64 = n by omega]
    have := HH.out
    rw [← this, List.drop_left]
  obtain ⟨cap, W4, hcv, hrg, hcl, hcm, hb4, hlt4⟩ := conv_bytes w2 body (by omega)
  rw [hbl] at hcv
  have hX4 := (Chg.below hb4 (fun _ => False)).box HX2.out (fun e => e)
  have hC4 := (Chg.below hb4 (fun _ => False)).box HC2.out (fun e => e)
  have mc1 : W4.cell? ⟨X + 1, 1, none⟩ = some (.slice none 0 0) := by rw [cell_in hC4]; rfl
  have mf1 := frozen_in hC4 1
  obtain ⟨E, hE⟩ : ∃ E, 64 + n = E := ⟨_, rfl⟩
  rw [hE] at x5
  have hEi : (64 : Int) + (n : Int) = (E : Int) := by omega
  have i9 : (E : Int) ≤ (st.size : Int) := by omega
  have i10 : E ≤ st.size := by omega
  have i11 : (64 : Int) ≤ (E : Int) := by omega
  have i12 : 64 ≤ E := by omega
  clear hE
  have HGT := Lib.hid (show G < 9223372036854775808 ∧ T < 9223372036854775808 from ⟨hGb.2.1, by have := hTb.1; omega⟩)
  clear hGb hpp hsl hg0 hs0 hs1 hTb hn1 hn2 hbody
  have HHL := Lib.hid hX4
  have HCL := Lib.hid hC4
  have HB4 := Lib.hid hb4
  have HRG := Lib.hid hrg
  have HBLN := Lib.hid hbl
  clear hX4 hC4 hb4 hrg hbl hlt4
  obtain ⟨sb, hsb⟩ : ∃ sb, bs body = sb := ⟨_, rfl⟩
  rw [hsb] at x5 hcv
  clear hsb
  obtain ⟨B, hB⟩ : ∃ B, w2.heap.size = B := ⟨_, rfl⟩
  have HBE := Lib.hid hB
  have HC1 := Lib.hid (show X + 1 < B by rw [← hB]; exact (Array.getElem?_eq_some_iff.1 HC2.out).1)
  go_wp2_with fail
  first | rw [hB] | skip
  clear hB
  obtain ⟨w5, hw5⟩ : ∃ w5, W4.setCell ⟨X + 1, 1, none⟩ (.slice (some ⟨B, 0, none⟩) n cap) = w5 := ⟨_, rfl⟩
  rw [hw5]
  have hc5 : Chg (fun k => k = X + 1) W4 w5 := by rw [← hw5]; exact Chg.setCell W4 ⟨X + 1, 1, none⟩ _
  have hC5 : w5.heap[X + 1]? = some (.cells #[.int .i64 (T : Int), .slice (some ⟨B, 0, none⟩) n cap] 48 (0, 0)) := by
    rw [← hw5, setCell_eq_setRow W4 _ _ _ _ _ _ HCL.out, setRow_heap W4 _ _ _ _ _ HCL.out]
    rfl
  have hX5 := hc5.box HHL.out (by omega)
  have hrg5 : w5.rangeAt B 0 (bCells body) := hc5.range (by rw [← HBE.out]; exact HRG.out) (by have := HC1.out; omega)
  have hb5 : Below w.heap.size w w5 := hc5.on (HB2.out.trans (HB4.out.mono HB2.out.size)) (HB2.out.trans (HB4.out.mono HB2.out.size)).size (fun k e => by rw [e, HX.out]; omega)
  have hhd := fun W (hW : W.rangeAt B 0 (bCells body)) => rhead_any G T HGT.out.1 HGT.out.2 B 0 cap body (by rw [HBLN.out]; omega) W hW
  simp only [HBLN.out] at hhd
  have hseq := bs_eq (hdrS G T body) h
  have HEQD := Lib.hid (show decide (hdrS G T body = h) = decide (h = hdrS G T body) by
    rw [decide_eq_decide]
    exact eq_comm)
  rw [HEQD.out] at hseq
  obtain ⟨sA, hsA⟩ : ∃ s, bs (hdrS G T body) = s := ⟨_, rfl⟩
  obtain ⟨sB, hsB⟩ : ∃ s, bs h = s := ⟨_, rfl⟩
  rw [hsA, hsB] at hseq
  simp only [hsA] at hhd
  rw [hsB] at x4
  have hSof : ∀ W, Below w5.heap.size w5 W → W.cell? ⟨X + 1, 0, none⟩ = some (.int .i64 (T : Int)) ∧ W.cell? ⟨X + 1, 1, none⟩ = some (.slice (some ⟨B, 0, none⟩) n cap) := fun W hW => by
    have h2 := (Chg.below hW (fun _ => False)).box hC5 (fun e => e)
    exact ⟨by rw [cell_in h2]; rfl, by rw [cell_in h2]; rfl⟩
  have HSOF := Lib.hid hSof
  have HX5 := Lib.hid hX5
  have HRG5 := Lib.hid hrg5
  have HB5 := Lib.hid hb5
  have HHD := Lib.hid hhd
  clear hw5 hc5 hC5 hX5 hrg5 hb5 hsA hsB hhd hSof mc1 mf1 kc0 kc1 kx0 kx1 fx0 fx1 fc1 hcv x5
  cases hEQ : decide (h = hdrS G T body)
  · have hE2 := hseq
    rw [hEQ] at hE2
    have HNO := Lib.hid (show out = none by rw [HCHK.out, if_neg (of_decide_eq_false hEQ)])
    clear hseq
    refine wp_region_noPanic ?_
    refine wp_region_held_drew (S := fun W => W.cell? ⟨X + 1, 0, none⟩ = some (.int .i64 (T : Int)) ∧ W.cell? ⟨X + 1, 1, none⟩ = some (.slice (some ⟨B, 0, none⟩) n cap)) (by kernel_rfl) ((by exact HSOF.out _ (bD (Below.refl _ _)))) (fun hHeld => ?_)
    refine wpAnyH_take (i := 0) (v := ?_) rfl (by kernel_rfl) (by kernel_rfl) (by kernel_rfl) (fun _ _ _ h => h) (Or.inl ⟨by rfl, ?_⟩) (by assumption) ?_
    rotate_left
    · (intro w hSw; (try dsimp only at hSw); go_simp; try (with_reducible rfl))
    try simp only [Act.put, List.setIfInBounds_toArray, List.set_cons_zero, List.set_cons_succ, List.getElem_toArray, List.getElem_cons_zero]
    refine wpAnyH_take (i := 1) (v := ?_) rfl (by kernel_rfl) (by kernel_rfl) (by kernel_rfl) (fun _ _ _ h => h) (Or.inl ⟨by rfl, ?_⟩) (by assumption) ?_
    rotate_left
    · (intro w hSw; (try dsimp only at hSw); go_simp; try (with_reducible rfl))
    try simp only [Act.put, List.setIfInBounds_toArray, List.set_cons_zero, List.set_cons_succ, List.getElem_toArray, List.getElem_cons_zero, List.getElem_cons_succ]
    refine wpAnyH_take (i := 3) (v := ?_) rfl (by kernel_rfl) (by kernel_rfl) (by kernel_rfl) (fun _ _ _ h => h) (Or.inl ⟨by rfl, ?_⟩) (by assumption) ?_
    rotate_left
    · (intro w hSw; (try dsimp only at hSw); go_simp; try (with_reducible rfl))
    try simp only [Act.put, List.setIfInBounds_toArray, List.set_cons_zero, List.set_cons_succ, List.getElem_toArray, List.getElem_cons_zero, List.getElem_cons_succ]
    refine wpAnyH_take (i := 4) (v := ?_) rfl (by kernel_rfl) (by kernel_rfl) (by kernel_rfl) (fun _ _ _ h => h) (Or.inl ⟨by rfl, ?_⟩) (by assumption) ?_
    rotate_left
    · (intro w hSw; (try dsimp only at hSw); go_simp; try (with_reducible rfl))
    try simp only [Act.put, List.setIfInBounds_toArray, List.set_cons_zero, List.set_cons_succ, List.getElem_toArray, List.getElem_cons_zero, List.getElem_cons_succ]
    refine wpAnyH_ready (rs := [2]) (by kernel_rfl) (by simp) ?_
    refine AllReadyH.cons rfl (fun K hK => ?_) AllReadyH.nil
    go_simp
    go_at_call 57
    refine (HHD.out _ ((Chg.drew (fun _ => False) _).range HRG5.out (fun e => e))).mono ?_
    rintro e6 w6 ⟨rfl, hb6⟩
    have hbE : Below w5.heap.size w5 w6 := (bD (Below.refl w5.heap.size w5)).trans hb6
    refine hK.out _ _ ((by exact HSOF.out _ hbE)) (fun hHeld2 => ?_)
    clear hK K hHeld
    have hHeld := hHeld2
    clear hHeld2
    try simp only [Act.put, List.setIfInBounds_toArray, List.set_cons_zero, List.set_cons_succ, List.getElem_toArray, List.getElem_cons_zero, List.getElem_cons_succ]
    refine wpAnyH_take (i := 5) (v := ?_) rfl (by kernel_rfl) (by kernel_rfl) (by kernel_rfl) (fun _ _ _ h => h) (Or.inl ⟨by rfl, ?_⟩) (by assumption) ?_
    rotate_left
    · (intro w hSw; (try dsimp only at hSw); go_simp; try (with_reducible rfl))
    try simp only [Act.put, List.setIfInBounds_toArray, List.set_cons_zero, List.set_cons_succ, List.getElem_toArray, List.getElem_cons_zero, List.getElem_cons_succ]
    refine wpAnyH_done (by kernel_rfl) ?_ _
    refine NoPanic.normal ?_
    clear hHeld hb6
    have hX6 := (Chg.below hbE (fun _ => False)).box HX5.out (fun e => e)
    have HX6 := Lib.hid hX6
    have HB6 := Lib.hid (HB5.out.trans (hbE.mono HB5.out.size))
    have ux0 : w6.cell? ⟨X, 0, none⟩ = some (.int .i64 0) := by rw [cell_in hX6]; rfl
    have ux1 : w6.cell? ⟨X, 1, none⟩ = some (.slice none 0 0) := by rw [cell_in hX6]; rfl
    have uf0 := frozen_in hX6 0
    have uf1 := frozen_in hX6 1
    clear hX6
    clear hbE
    go_wp2
    show bodyPost _ _ _ _ _ (set2 w6 X (.int .i64 0) (.slice none 0 0))
    refine bodyPost_ret (results_cell_tmp2 rfl _ _ _ ⟨X, 0, none⟩ _ rfl (load2e (set2_heap HX6.out _ _))) rfl ?_
    rw [HNO.out]
    exact ⟨none, 0, rfl, set2_below HB6.out (Nat.le_of_eq HX.out) _ _, fun h => by simp [bodyOf] at h, fun b o e => by cases e⟩
  · have hE2 := hseq
    rw [hEQ] at hE2
    have HYES := Lib.hid (show out = some ⟨G, T, body⟩ by rw [HCHK.out, if_pos (of_decide_eq_true hEQ)])
    clear hseq
    refine wp_region_noPanic ?_
    refine wp_region_held_drew (S := fun W => W.cell? ⟨X + 1, 0, none⟩ = some (.int .i64 (T : Int)) ∧ W.cell? ⟨X + 1, 1, none⟩ = some (.slice (some ⟨B, 0, none⟩) n cap)) (by kernel_rfl) ((by exact HSOF.out _ (bD (Below.refl _ _)))) (fun hHeld => ?_)
    refine wpAnyH_take (i := 0) (v := ?_) rfl (by kernel_rfl) (by kernel_rfl) (by kernel_rfl) (fun _ _ _ h => h) (Or.inl ⟨by rfl, ?_⟩) (by assumption) ?_
    rotate_left
    · (intro w hSw; (try dsimp only at hSw); go_simp; try (with_reducible rfl))
    try simp only [Act.put, List.setIfInBounds_toArray, List.set_cons_zero, List.set_cons_succ, List.getElem_toArray, List.getElem_cons_zero]
    refine wpAnyH_take (i := 1) (v := ?_) rfl (by kernel_rfl) (by kernel_rfl) (by kernel_rfl) (fun _ _ _ h => h) (Or.inl ⟨by rfl, ?_⟩) (by assumption) ?_
    rotate_left
    · (intro w hSw; (try dsimp only at hSw); go_simp; try (with_reducible rfl))
    try simp only [Act.put, List.setIfInBounds_toArray, List.set_cons_zero, List.set_cons_succ, List.getElem_toArray, List.getElem_cons_zero, List.getElem_cons_succ]
    refine wpAnyH_take (i := 3) (v := ?_) rfl (by kernel_rfl) (by kernel_rfl) (by kernel_rfl) (fun _ _ _ h => h) (Or.inl ⟨by rfl, ?_⟩) (by assumption) ?_
    rotate_left
    · (intro w hSw; (try dsimp only at hSw); go_simp; try (with_reducible rfl))
    try simp only [Act.put, List.setIfInBounds_toArray, List.set_cons_zero, List.set_cons_succ, List.getElem_toArray, List.getElem_cons_zero, List.getElem_cons_succ]
    refine wpAnyH_take (i := 4) (v := ?_) rfl (by kernel_rfl) (by kernel_rfl) (by kernel_rfl) (fun _ _ _ h => h) (Or.inl ⟨by rfl, ?_⟩) (by assumption) ?_
    rotate_left
    · (intro w hSw; (try dsimp only at hSw); go_simp; try (with_reducible rfl))
    try simp only [Act.put, List.setIfInBounds_toArray, List.set_cons_zero, List.set_cons_succ, List.getElem_toArray, List.getElem_cons_zero, List.getElem_cons_succ]
    refine wpAnyH_ready (rs := [2]) (by kernel_rfl) (by simp) ?_
    refine AllReadyH.cons rfl (fun K hK => ?_) AllReadyH.nil
    go_simp
    go_at_call 57
    refine (HHD.out _ ((Chg.drew (fun _ => False) _).range HRG5.out (fun e => e))).mono ?_
    rintro e6 w6 ⟨rfl, hb6⟩
    have hbE : Below w5.heap.size w5 w6 := (bD (Below.refl w5.heap.size w5)).trans hb6
    refine hK.out _ _ ((by exact HSOF.out _ hbE)) (fun hHeld2 => ?_)
    clear hK K hHeld
    have hHeld := hHeld2
    clear hHeld2
    try simp only [Act.put, List.setIfInBounds_toArray, List.set_cons_zero, List.set_cons_succ, List.getElem_toArray, List.getElem_cons_zero, List.getElem_cons_succ]
    refine wpAnyH_take (i := 5) (v := ?_) rfl (by kernel_rfl) (by kernel_rfl) (by kernel_rfl) (fun _ _ _ h => h) (Or.inl ⟨by rfl, ?_⟩) (by assumption) ?_
    rotate_left
    · (intro w hSw; (try dsimp only at hSw); go_simp; try (with_reducible rfl))
    try simp only [Act.put, List.setIfInBounds_toArray, List.set_cons_zero, List.set_cons_succ, List.getElem_toArray, List.getElem_cons_zero, List.getElem_cons_succ]
    refine wpAnyH_done (by kernel_rfl) ?_ _
    refine NoPanic.normal ?_
    clear hHeld hb6
    have hX6 := (Chg.below hbE (fun _ => False)).box HX5.out (fun e => e)
    have HX6 := Lib.hid hX6
    have HB6 := Lib.hid (HB5.out.trans (hbE.mono HB5.out.size))
    have ux0 : w6.cell? ⟨X, 0, none⟩ = some (.int .i64 0) := by rw [cell_in hX6]; rfl
    have ux1 : w6.cell? ⟨X, 1, none⟩ = some (.slice none 0 0) := by rw [cell_in hX6]; rfl
    have uf0 := frozen_in hX6 0
    have uf1 := frozen_in hX6 1
    clear hX6
    obtain ⟨uc0, uc1⟩ := HSOF.out w6 hbE
    have HRG6 := Lib.hid ((Chg.below hbE (fun _ => False)).range HRG5.out (fun e => e))
    clear hbE
    go_wp2
    show bodyPost _ _ _ _ _ (set2 w6 X (.int .i64 (T : Int)) (.slice (some ⟨B, 0, none⟩) n cap))
    refine bodyPost_ret (results_cell_tmp2 rfl _ _ _ ⟨X, 0, none⟩ _ rfl (load2e (set2_heap HX6.out _ _))) rfl ?_
    rw [HYES.out]
    refine ⟨some ⟨B, 0, none⟩, cap, by show _ = Ending.returned (.tuple #[.agg #[_, Value.slice _ body.length _], _, _]); rw [HBLN.out]; rfl, set2_below HB6.out (Nat.le_of_eq HX.out) _ _, fun _ => ⟨B, 0, rfl, set2_range HRG6.out (by have := HC1.out; omega) _ _⟩, fun k o e => by
      cases e
      have := HC1.out
      have := HX.out
      omega⟩
end Go.Proofs.Ytgcifhhbhoafcaa
