/-
  RequestBounds: words, counts and lines at their limits.
-/
import Derived.Test.YtcikelcecfapcaaDoorReqBndA
import Derived.Test.YtcikelcecfapcaaDoorReqOne
namespace Go.Proofs.YtcikelcecfapcaaDoor
open Go.RowKit Rp Rq

/-! ### The digits of a number -/
theorem one_dig (r : Nat) (hr : r < 10) (w : World) :
    (convert 22 9 (.slice (some ⟨w.heap.size, 0, none⟩) 1 1)).run Tryd.prog (w.alloc (.cells #[.int .u8 (48 + (r : Int))] 5)) =
      .ok (.string (bs [UInt8.ofNat (48 + r)])) (w.alloc (.cells #[.int .u8 (48 + (r : Int))] 5)) :=
  run_convert_bytes_back (P := Tryd.prog) (w.alloc (.cells #[.int .u8 (48 + (r : Int))] 5)) 22 9 5 ⟨w.heap.size, 0, none⟩ 1 [UInt8.ofNat (48 + r)] Tryd.underlying22 Tryd.underlying5 Tryd.underlying9
    (fun j hj => by
      have : j = 0 := by simp at hj; exact hj
      subst this
      have e : ((UInt8.ofNat (48 + r)).toNat : Int) = 48 + (r : Int) := by
        rw [UInt8.toNat_ofNat_of_lt' (by show 48 + r < 256; omega)]
        omega
      simp only [List.getElem_cons_zero, e]
      rw [Lib.add_plain, World.cell?_alloc_new]
      rfl)

set_option maxRecDepth 20000 in
set_option maxHeartbeats 1000000 in
theorem digits_any (n : Nat) (h0 : 0 < n) (h1 : n ≤ 1000000) (w : World) :
    Calls Tryd.prog 27 #[.int .i64 n] w fun e w' => e = .returned (.string (bs (Lib.itoa (n : Int)))) ∧ Below w.heap.size w w' := by
  go_enter Tryd.func27, Tryd.ntmps27
  go_wp2_with fail
  go_loopw [0, 3] (fun s0 s3 wr => ∃ (m : Nat) (S : ByteArray), m ≤ n ∧ s0 = .int .i64 m ∧ s3 = .string S ∧ Hid (Digs n m S) ∧ Below w.heap.size w wr) (fun s0 _ _ => (intOf s0).toNat)
  case atStart => exact ⟨n, _, Nat.le_refl _, rfl, rfl, Lib.hid (Digs.start (by omega)), Below.refl _ _⟩
  case round =>
    obtain ⟨m, S, hm, rfl, rfl, HD, hb⟩ := hrel
    have hSs := HD.out.size h1
    by_cases hz : 0 < m
    · have d1 : decide ((0 : Int) < (m : Int)) = true := decide_eq_true (by omega)
      have d2 : decide (0 < m) = true := decide_eq_true (by omega)
      have HNX := Lib.hid (HD.out.next (by omega))
      have hmod : Int.tmod (m : Int) 10 = ((m % 10 : Nat) : Int) := by rw [Int.tmod_eq_emod_of_nonneg (by omega)]; omega
      have hdiv : Int.tdiv (m : Int) 10 = ((m / 10 : Nat) : Int) := by rw [Int.tdiv_eq_ediv_of_nonneg (by omega)]; omega
      have hmod2 : (m : Int) % 10 = ((m % 10 : Nat) : Int) := by omega
      have hdiv2 : (m : Int) / 10 = ((m / 10 : Nat) : Int) := by omega
      have hqm : m / 10 < m := by omega
      obtain ⟨r, hr⟩ : ∃ r, r = m % 10 := ⟨_, rfl⟩
      obtain ⟨q, hq⟩ : ∃ q, q = m / 10 := ⟨_, rfl⟩
      have hr10 : r < 10 := by omega
      rw [← hr] at hmod hmod2 HNX
      rw [← hq] at hdiv hdiv2 hqm HNX
      have hwr : IntKind.u8.wrap (48 + (r : Int)) = 48 + (r : Int) := wraps_u8 _ (by omega) (by omega)
      have hcv := one_dig r hr10 wr
      obtain ⟨Y, hY⟩ : ∃ Y, Y = bs [UInt8.ofNat (48 + r)] := ⟨_, rfl⟩
      have hYs : Y.size = 1 := by rw [hY, bs_size]; rfl
      rw [← hY] at hcv HNX
      clear hr hq hY
      go_wp2_with fail
      go_roundw
      case rel => exact ⟨q, _, by omega, by go_num, rfl, HNX, bT hb (bA (Below.refl _ _) _)⟩
      case measure => simp [intOf]; omega
    · have d1 : decide ((0 : Int) < (m : Int)) = false := decide_eq_false (by omega)
      have d2 : decide (0 < m) = false := decide_eq_false (by omega)
      have HE := Lib.hid (show S = bs (Lib.itoa (n : Int)) from Digs.stop (by have e : m = 0 := by omega
                                                                              exact e ▸ HD.out))
      go_wp2
      go_ret
      exact ⟨by rw [← HE.out]; rfl, hb⟩
/-! ### A row that is filled -/
theorem make_u8 (w : World) (n : Nat) (hn : n ≤ 1099511627776) : (Instr.makeSlice 22 (.int .i64 (n : Int)) (.int .i64 (n : Int))).run Tryd.prog w = .ok (.slice (some ⟨w.heap.size, 0, none⟩) n n) (w.alloc (.cells (List.replicate n (Value.int .u8 0)).toArray 5)) := by
  obtain ⟨i0, hi, hz0, hz1, hz2⟩ := info_parts info_u8
  have h := run_make (P := Tryd.prog) w 22 5 i0 (.int .u8 0) Tryd.underlying22 hi hz0 .i64 .i64 (n : Int) (n : Int) (by omega) (by omega) (by rw [hz2]; omega) (by omega)
  rw [h]
  have e1 : ((n : Int)).toNat = n := by omega
  rw [e1, hz1, Nat.mul_one]
  have : madeCells (Value.int .u8 0).cells n = (List.replicate n (Value.int .u8 0)).toArray := by
    apply Array.toList_inj.1
    exact toList_madeCells_one _ _
  rw [this]
/-- The cells of a row that is filled with x up to i. -/
def fillA (x i N : Nat) : Array Value := (List.replicate i (Value.int .u8 (x : Int)) ++ List.replicate (N - i) (Value.int .u8 0)).toArray
theorem fill_zero (x N : Nat) : (List.replicate N (Value.int .u8 0)).toArray = fillA x 0 N := by simp [fillA]
theorem fill_at (x i N : Nat) (h : i < N) : (fillA x i N)[i]? = some (.int .u8 0) := by
  unfold fillA
  rw [List.getElem?_toArray, List.getElem?_append_right (by simp), List.length_replicate, Nat.sub_self, List.getElem?_replicate, if_pos (by omega)]
theorem fill_next (x i N : Nat) (h : i < N) : (fillA x i N).setIfInBounds i (.int .u8 (x : Int)) = fillA x (i + 1) N := by
  unfold fillA
  obtain ⟨m, hm⟩ : ∃ m, N - i = m + 1 := ⟨N - i - 1, by omega⟩
  have hm2 : N - (i + 1) = m := by omega
  rw [hm, hm2, List.setIfInBounds_toArray, List.set_append_right _ _ (by simp), List.length_replicate, Nat.sub_self, List.replicate_succ (n := m), List.set_cons_zero, List.replicate_succ' (n := i), List.append_assoc]
  rfl
theorem fill_store {w : World} {b x i N : Nat} {T : TypeId} (hb : w.heap[b]? = some (.cells (fillA x i N) T (0, 0))) (h : i < N) : (w.setCell ⟨b, i, none⟩ (.int .u8 (x : Int))).heap[b]? = some (.cells (fillA x (i + 1) N) T (0, 0)) := by
  rw [setCell_eq_setRow w b i _ T _ _ hb, setRow_heap w b _ _ T _ hb, fill_next x i N h]
theorem fill_full {w : World} {b x N : Nat} {T : TypeId} (hb : w.heap[b]? = some (.cells (fillA x N N) T (0, 0))) (hx : x < 256) (hN : N ≤ maxLen) (M : Nat) (hM : M ≤ N) : Rest w (some ⟨b, 0, none⟩) N (List.replicate M (UInt8.ofNat x)) := by
  refine .inr ⟨b, 0, rfl, by rw [List.length_replicate]; exact hM, hN, fun j hj => ?_⟩
  rw [List.length_replicate] at hj
  rw [Nat.zero_add, cell_of_row _ _ _ _ _ _ hb, List.getElem_replicate]
  have e : (UInt8.ofNat x).toNat = x := UInt8.toNat_ofNat_of_lt' (by show x < 256; omega)
  rw [e]
  unfold fillA
  rw [List.getElem?_toArray, List.getElem?_append_left (by rw [List.length_replicate]; omega), List.getElem?_replicate, if_pos (by omega)]

theorem bW {a w : World} (h : Below a.heap.size a w) (t : TypeId) (s : ByteArray) : Below a.heap.size a (Lib.bytesWorld w t s) := bT h (Lib.bytesWorld_below w t s)
/-- What a conversion of a string to bytes does, whatever the world. -/
theorem conv_every (l : List UInt8) (hl : l.length ≤ 1000000000) : ∃ (cp : World → Nat) (bw : World → World), (∀ w, (convert 9 22 (.string (bs l))).run Tryd.prog w = .ok (.slice (some ⟨w.heap.size, 0, none⟩) l.length (cp w)) (bw w)) ∧ (∀ w, Marked w.heap.size l.length (cp w) l (bw w)) ∧ ∀ w, Below w.heap.size w (bw w) :=
  ⟨fun w => (conv_new w l hl).choose, fun w => (conv_new w l hl).choose_spec.choose, fun w => (conv_new w l hl).choose_spec.choose_spec.1, fun w => (conv_new w l hl).choose_spec.choose_spec.2.1, fun w => (conv_new w l hl).choose_spec.choose_spec.2.2⟩
/-! ### The statement -/
/-- What a text of the first kind is told as: one word of n bytes. -/
def longW (n : Nat) : Wd := List.replicate n 120
set_option maxRecDepth 20000 in
set_option maxHeartbeats 8000000 in
theorem bounds_any (x : Int) (w : World) (hE : Errs w) :
    Calls Tryd.prog 7 #[.int .i64 x] w fun e w' => e = .returned (.bool true) ∧ Below w.heap.size w w' := by
  have HE := Lib.hid hE
  clear hE
  obtain ⟨t, ht⟩ : ∃ t, t = Int.tmod x 4 := ⟨_, rfl⟩
  have ht1 : -4 < t ∧ t < 4 := by
    have h1 := Int.tmod_lt_of_pos x (show (0 : Int) < 4 by decide)
    have h2 := Int.lt_tmod_of_pos x (show (0 : Int) < 4 by decide)
    omega
  obtain ⟨k, hk, hk4⟩ : ∃ k : Nat, Int.tmod (t + 4) 4 = (k : Int) ∧ k < 4 := ⟨((t + 4) % 4).toNat, by rw [Int.tmod_eq_emod_of_nonneg (by omega)]; omega, by omega⟩
  have hk2 : (t + 4) % 4 = (k : Int) := by rw [← hk, Int.tmod_eq_emod_of_nonneg (by omega)]
  have ht2 : Int.tmod x 4 = t := ht.symm
  clear ht
  obtain ⟨N, hN⟩ : ∃ N, N = 4094 + k := ⟨_, rfl⟩
  have hNI : (4094 : Int) + (k : Int) = (N : Int) := by omega
  have hNb : N ≤ 4097 := by omega
  obtain ⟨N2, hN2⟩ : ∃ N2, N2 = 126 + k := ⟨_, rfl⟩
  have hNI2 : (126 : Int) + (k : Int) = (N2 : Int) := by omega
  have hNb2 : N2 ≤ 129 := by omega
  obtain ⟨N3, hN3⟩ : ∃ N3, N3 = 1022 + k := ⟨_, rfl⟩
  have hNI3 : (1022 : Int) + (k : Int) = (N3 : Int) := by omega
  have hNb3 : N3 ≤ 1025 := by omega
  have h3N : N3 ≤ N := by omega
  have HNN := Lib.hid (show N = 4094 + k ∧ N2 = 126 + k ∧ N3 = 1022 + k from ⟨hN, hN2, hN3⟩)
  clear hN hN2 hN3
  have hmk := fun W => make_u8 W N (by omega)
  simp only [fill_zero 120] at hmk
  go_enter Tryd.func7, Tryd.ntmps7
  go_wp2_with fail
  refine (awake_any w HE.out).mono ?_
  rintro e w1 ⟨rfl, hb1⟩
  have HB1 := Lib.hid hb1
  have hL1 := hb1.size
  clear hb1
  go_wp2_with fail
  have hL0 := heap_alloc_new w1 (.cells (fillA 120 0 N) 5)
  have hb2 := bA (Below.refl w1.heap.size w1) (.cells (fillA 120 0 N) 5)
  generalize w1.alloc (.cells (fillA 120 0 N) 5) = w2 at *
  obtain ⟨L, hL⟩ : ∃ L, w1.heap.size = L := ⟨_, rfl⟩
  rw [hL] at hL0 hb2 hL1 ⊢
  have HL := Lib.hid hL
  clear hmk hL
  go_loopw [5] (fun s5 wr => ∃ i : Nat, i ≤ N ∧ s5 = .int .i64 i ∧ wr.heap[L]? = some (.cells (fillA 120 i N) 5 (0, 0)) ∧ Below L w1 wr) (fun s5 _ => N - (intOf s5).toNat)
  case atStart => exact ⟨0, Nat.zero_le _, rfl, hL0, hb2⟩
  case round =>
    obtain ⟨i, hi, rfl, hrow, hbw⟩ := hrel
    by_cases hlt : i < N
    · have d1 : decide ((i : Int) < (N : Int)) = true := decide_eq_true (by omega)
      have d2 : decide (i < N) = true := decide_eq_true hlt
      have hc : wr.cell? ⟨L, i, none⟩ = some (.int .u8 0) := by rw [cell_of_row _ _ _ _ _ _ hrow]; exact fill_at 120 i N hlt
      have hf := frozen4 hrow
      have HST := Lib.hid (fill_store (x := 120) hrow hlt)
      have HBW := Lib.hid (hbw.setCell (p := ⟨L, i, none⟩) (Nat.le_refl _) (.int .u8 120))
      clear hrow hbw
      go_wp2_with fail
      go_roundw
      case rel => exact ⟨i + 1, by omega, by go_num, HST.out, HBW.out⟩
      case measure => simp [intOf]; omega
    · have d1 : decide ((i : Int) < (N : Int)) = false := decide_eq_false (by omega)
      have d2 : decide (i < N) = false := decide_eq_false hlt
      have hiN : i = N := by omega
      rw [hiN] at hrow
      have HROW := Lib.hid hrow
      have HBW := Lib.hid hbw
      have hwr := hbw.size
      have hLw : L < wr.heap.size := (Array.getElem?_eq_some_iff.1 hrow).1
      clear hrow hbw hiN
      go_wp2_with fail
      refine (new_any wr).mono ?_
      rintro e w3 ⟨rfl, rfl⟩
      go_wp2_with fail
      refine (new_any _).mono ?_
      rintro e w4 ⟨rfl, rfl⟩
      go_wp2_with fail
      refine (new_any _).mono ?_
      rintro e w5 ⟨rfl, rfl⟩
      have hA : Box (((wr.alloc (.cells #[.int .i64 0, .slice none 0 0, .int .i64 0, .slice none 0 0, .int .i64 0] 69)).alloc (.cells #[.int .i64 0, .slice none 0 0, .int .i64 0, .slice none 0 0, .int .i64 0] 69)).alloc (.cells #[.int .i64 0, .slice none 0 0, .int .i64 0, .slice none 0 0, .int .i64 0] 69)) wr.heap.size 0 (.slice none 0 0) 0 (.slice none 0 0) 0 := (Below.heap_alloc _ _ _ (by simp; omega)).trans ((Below.heap_alloc _ _ _ (by simp)).trans (heap_alloc_new wr _))
      have hB : Box (((wr.alloc (.cells #[.int .i64 0, .slice none 0 0, .int .i64 0, .slice none 0 0, .int .i64 0] 69)).alloc (.cells #[.int .i64 0, .slice none 0 0, .int .i64 0, .slice none 0 0, .int .i64 0] 69)).alloc (.cells #[.int .i64 0, .slice none 0 0, .int .i64 0, .slice none 0 0, .int .i64 0] 69)) (wr.heap.size + 1) 0 (.slice none 0 0) 0 (.slice none 0 0) 0 := (Below.heap_alloc _ _ _ (by simp)).trans (by simpa using heap_alloc_new (wr.alloc (.cells #[.int .i64 0, .slice none 0 0, .int .i64 0, .slice none 0 0, .int .i64 0] 69)) (.cells #[.int .i64 0, .slice none 0 0, .int .i64 0, .slice none 0 0, .int .i64 0] 69))
      have hC : Box (((wr.alloc (.cells #[.int .i64 0, .slice none 0 0, .int .i64 0, .slice none 0 0, .int .i64 0] 69)).alloc (.cells #[.int .i64 0, .slice none 0 0, .int .i64 0, .slice none 0 0, .int .i64 0] 69)).alloc (.cells #[.int .i64 0, .slice none 0 0, .int .i64 0, .slice none 0 0, .int .i64 0] 69)) (wr.heap.size + 1 + 1) 0 (.slice none 0 0) 0 (.slice none 0 0) 0 := by simpa [Box] using heap_alloc_new ((wr.alloc (.cells #[.int .i64 0, .slice none 0 0, .int .i64 0, .slice none 0 0, .int .i64 0] 69)).alloc (.cells #[.int .i64 0, .slice none 0 0, .int .i64 0, .slice none 0 0, .int .i64 0] 69)) (.cells #[.int .i64 0, .slice none 0 0, .int .i64 0, .slice none 0 0, .int .i64 0] 69)
      have hb5 : Below wr.heap.size wr (((wr.alloc (.cells #[.int .i64 0, .slice none 0 0, .int .i64 0, .slice none 0 0, .int .i64 0] 69)).alloc (.cells #[.int .i64 0, .slice none 0 0, .int .i64 0, .slice none 0 0, .int .i64 0] 69)).alloc (.cells #[.int .i64 0, .slice none 0 0, .int .i64 0, .slice none 0 0, .int .i64 0] 69)) := bA (bA (bA (Below.refl _ _) _) _) _
      have hs5 : (((wr.alloc (.cells #[.int .i64 0, .slice none 0 0, .int .i64 0, .slice none 0 0, .int .i64 0] 69)).alloc (.cells #[.int .i64 0, .slice none 0 0, .int .i64 0, .slice none 0 0, .int .i64 0] 69)).alloc (.cells #[.int .i64 0, .slice none 0 0, .int .i64 0, .slice none 0 0, .int .i64 0] 69)).heap.size = wr.heap.size + 3 := by simp
      simp only [World.size_alloc]
      generalize ((wr.alloc (.cells #[.int .i64 0, .slice none 0 0, .int .i64 0, .slice none 0 0, .int .i64 0] 69)).alloc (.cells #[.int .i64 0, .slice none 0 0, .int .i64 0, .slice none 0 0, .int .i64 0] 69)).alloc (.cells #[.int .i64 0, .slice none 0 0, .int .i64 0, .slice none 0 0, .int .i64 0] 69) = w5 at *
      obtain ⟨R, hR⟩ : ∃ R, wr.heap.size = R := ⟨_, rfl⟩
      have hrow5 : w5.heap[L]? = some (.cells (fillA 120 N N) 5 (0, 0)) := (hb5.block L hLw).trans HROW.out
      rw [hR] at hA hB hC hs5 hLw hwr ⊢
      have hB5 : Below w.heap.size w w5 := bT (bT HB1.out (by rw [HL.out]; exact HBW.out)) hb5
      have hRw : w.heap.size ≤ R := by omega
      have HA := Lib.hid hA
      have HB := Lib.hid hB
      have HC := Lib.hid hC
      have HB5 := Lib.hid hB5
      have HS5 := Lib.hid hs5
      have HROW5 := Lib.hid hrow5
      have HLW := Lib.hid hLw
      clear hA hB hC hB5 hb5 hs5 hrow5 hwr hLw hL1 hb2 hL0 hR
      obtain ⟨D, hD⟩ : ∃ D, D = bs (Lib.itoa (N : Int)) := ⟨_, rfl⟩
      have hDs : D.size ≤ 21 := by rw [hD, bs_size]; exact itoa_len _ (by omega) (by omega)
      have hDD := fun W => digits_any N (by have := HNN.out; omega) (by omega) W
      rw [← hD] at hDD
      have HDD := Lib.hid hDD
      obtain ⟨G, hG⟩ : ∃ G, G = bs (longW N) := ⟨_, rfl⟩
      have hGs : G.size = N := by rw [hG, bs_size]; simp [longW]
      have cvL : ∀ W, Chg (fun k => k = R) w5 W → (convert 22 9 (.slice (some ⟨L, 0, none⟩) N N)).run Tryd.prog W = .ok (.string G) W := fun W hW => by
        have hr := fill_full (hW.block L (Array.getElem?_eq_some_iff.1 HROW5.out).1 (by have := HLW.out; omega) |>.trans HROW5.out) (by decide) (by unfold maxLen; omega) N (Nat.le_refl _)
        have := convert_rest N N (by simp) (rest_cell hr)
        rw [List.take_of_length_le (by simp)] at this
        rw [hG]
        exact this
      obtain ⟨l, hl⟩ : ∃ l, l = encQ [longW N] := ⟨_, rfl⟩
      have hZ : (⟨#[42, 49, 13, 10, 36]⟩ : ByteArray) ++ D ++ ⟨#[13, 10]⟩ ++ G ++ ⟨#[13, 10]⟩ = bs l := by
        rw [show (⟨#[42, 49, 13, 10, 36]⟩ : ByteArray) = bs [42, 49, 13, 10, 36] from rfl, show (⟨#[13, 10]⟩ : ByteArray) = bs [13, 10] from rfl, hD, hG, bsq_app, bsq_app, bsq_app, bsq_app, hl]
        have e1 : Lib.itoa (([longW N].length : Nat) : Int) = [49] := (show Lib.itoa ((1 : Nat) : Int) = [49] by decide +kernel)
        have e2 : (longW N).length = N := by simp [longW]
        unfold encQ encW
        rw [e1]
        simp [e2]
      have hll : l.length ≤ 1000000 := by
        have := bs_size l
        rw [← hZ] at this
        simp only [ByteArray.size_append] at this
        have e1 : (⟨#[42, 49, 13, 10, 36]⟩ : ByteArray).size = 5 := rfl
        have e2 : (⟨#[13, 10]⟩ : ByteArray).size = 2 := rfl
        omega
      obtain ⟨cp, bw, kcv, hmk, hbw⟩ := conv_every l (by omega)
      rw [← hZ] at kcv
      have HMK := Lib.hid hmk
      have HBM := Lib.hid hbw
      have HZ := Lib.hid hZ
      have HLL := Lib.hid hll
      have HLE := Lib.hid hl
      have s1 : ¬ 9223372036854775807 < 5 + D.size := by omega
      have s2 : ¬ 9223372036854775807 < 5 + D.size + 2 := by omega
      have s3 : ¬ 9223372036854775807 < 5 + D.size + 2 + G.size := by omega
      have s4 : ¬ 9223372036854775807 < 5 + D.size + 2 + G.size + 2 := by omega
      have HD := Lib.hid hD
      have HG := Lib.hid hG
      clear hD hG hDD hGs hmk hbw hZ hll hl
      -- HAND
      obtain ⟨cA, tA, hgA, hcA⟩ : ∃ cA tA, Rq.Go (St.new l) cA tA ∧ ((k ≤ 2 ∧ cA = [[longW N]] ∧ tA = .more (St.new [])) ∨ (k = 3 ∧ cA = [] ∧ tA = .err 12)) := by
        rw [HLE.out]
        have hlw : (longW N).length = N := by simp [longW]
        have hNk := HNN.out.1
        by_cases h : k ≤ 2
        · exact ⟨_, _, go_word (longW N) (by omega), .inl ⟨h, rfl, rfl⟩⟩
        · exact ⟨_, _, go_word_over (longW N) (by omega) (by omega), .inr ⟨by omega, rfl, rfl⟩⟩
      have HGA := Lib.hid hgA
      have HCA := Lib.hid hcA
      clear hgA hcA
      go_wp2
      refine wp_region_held_drew (S := fun W => Chg (fun k => k = R) w5 W) (by kernel_rfl) (Chg.below (bD (Below.refl _ _)) _) (fun hHeld => ?_)
      refine wpAnyH_take (i := 0) (v := ?_) rfl (by kernel_rfl) (by kernel_rfl) (by kernel_rfl) (fun _ _ _ h => h) (Or.inl ⟨by rfl, ?_⟩) (by assumption) ?_
      rotate_left
      · (intro w hSw; (try dsimp only at hSw); go_simp; try (with_reducible rfl))
      try simp only [Act.put, List.setIfInBounds_toArray, List.set_cons_zero, List.set_cons_succ, List.getElem_toArray, List.getElem_cons_zero]
      refine wpAnyH_take (i := 1) (v := ?_) rfl (by kernel_rfl) (by kernel_rfl) (by kernel_rfl) (fun _ _ _ h => h) (Or.inl ⟨by rfl, ?_⟩) (by assumption) ?_
      rotate_left
      · (intro w hSw; (try dsimp only at hSw); go_simp; try (with_reducible rfl))
      try simp only [Act.put, List.setIfInBounds_toArray, List.set_cons_zero, List.set_cons_succ, List.getElem_toArray, List.getElem_cons_zero, List.getElem_cons_succ]
      refine wpAnyH_take (i := 2) (v := ?_) rfl (by kernel_rfl) (by kernel_rfl) (by kernel_rfl) (fun _ _ _ h => h) (Or.inl ⟨by rfl, ?_⟩) (by assumption) ?_
      rotate_left
      · (intro w hSw; (try dsimp only at hSw); go_simp; try (with_reducible rfl))
      try simp only [Act.put, List.setIfInBounds_toArray, List.set_cons_zero, List.set_cons_succ, List.getElem_toArray, List.getElem_cons_zero, List.getElem_cons_succ]
      refine wpAnyH_take (i := 6) (v := ?_) rfl (by kernel_rfl) (by kernel_rfl) (by kernel_rfl) (fun _ _ _ h => h) (Or.inl ⟨by rfl, ?_⟩) (by assumption) ?_
      rotate_left
      · (intro w hSw; (try dsimp only at hSw); go_simp; try (with_reducible rfl))
      try simp only [Act.put, List.setIfInBounds_toArray, List.set_cons_zero, List.set_cons_succ, List.getElem_toArray, List.getElem_cons_zero, List.getElem_cons_succ]
      refine wpAnyH_take (i := 7) (v := ?_) rfl (by kernel_rfl) (by kernel_rfl) (by kernel_rfl) (fun _ _ _ h => h) (Or.inl ⟨by rfl, ?_⟩) (by assumption) ?_
      rotate_left
      · (intro w hSw; (try dsimp only at hSw); go_simp; try (with_reducible rfl))
      try simp only [Act.put, List.setIfInBounds_toArray, List.set_cons_zero, List.set_cons_succ, List.getElem_toArray, List.getElem_cons_zero, List.getElem_cons_succ]
      refine wpAnyH_ready (rs := [3]) (by kernel_rfl) (by simp) ?_
      refine AllReadyH.cons rfl (fun K hK => ?_) AllReadyH.nil
      go_simp
      go_at_call 27
      refine (HDD.out _).mono ?_
      rintro e6 w6 ⟨rfl, hb6⟩
      have hS6 := bT (bD (Below.refl w5.heap.size w5)) hb6
      refine hK.out _ _ (Chg.below hS6 _) (fun hHeld2 => ?_)
      clear hK K hHeld
      have hHeld := hHeld2
      clear hHeld2
      try simp only [Act.put, List.setIfInBounds_toArray, List.set_cons_zero, List.set_cons_succ, List.getElem_toArray, List.getElem_cons_zero, List.getElem_cons_succ]
      refine wpAnyH_take (i := 4) (v := ?_) rfl (by kernel_rfl) (by kernel_rfl) (by kernel_rfl) (fun _ _ _ h => h) (Or.inl ⟨by rfl, ?_⟩) (by assumption) ?_
      rotate_left
      · (intro w hSw; (try dsimp only at hSw); go_simp; try (with_reducible rfl))
      try simp only [Act.put, List.setIfInBounds_toArray, List.set_cons_zero, List.set_cons_succ, List.getElem_toArray, List.getElem_cons_zero, List.getElem_cons_succ]
      refine wpAnyH_take (i := 5) (v := ?_) rfl (by kernel_rfl) (by kernel_rfl) (by kernel_rfl) (fun _ _ _ h => h) (Or.inl ⟨by rfl, ?_⟩) (by assumption) ?_
      rotate_left
      · (intro w hSw; (try dsimp only at hSw); go_simp; try (with_reducible rfl))
      try simp only [Act.put, List.setIfInBounds_toArray, List.set_cons_zero, List.set_cons_succ, List.getElem_toArray, List.getElem_cons_zero, List.getElem_cons_succ]
      refine wpAnyH_take (i := 8) (v := ?_) rfl (by kernel_rfl) (by kernel_rfl) (by kernel_rfl) (fun _ _ _ h => h) (Or.inl ⟨by rfl, ?_⟩) (by assumption) ?_
      rotate_left
      · (intro w hSw; (try dsimp only at hSw); go_simp; try (with_reducible rfl))
      try simp only [Act.put, List.setIfInBounds_toArray, List.set_cons_zero, List.set_cons_succ, List.getElem_toArray, List.getElem_cons_zero, List.getElem_cons_succ]
      refine wpAnyH_take (i := 9) (v := ?_) rfl (by kernel_rfl) (by kernel_rfl) (by kernel_rfl) (fun _ _ _ h => h) (Or.inl ⟨by rfl, ?_⟩) (by assumption) ?_
      rotate_left
      · (intro w hSw; (try dsimp only at hSw); go_simp; try (with_reducible rfl))
      try simp only [Act.put, List.setIfInBounds_toArray, List.set_cons_zero, List.set_cons_succ, List.getElem_toArray, List.getElem_cons_zero, List.getElem_cons_succ]
      refine wpAnyH_ready (rs := [10]) (by kernel_rfl) (by simp) ?_
      refine AllReadyH.cons rfl (fun K hK => ?_) AllReadyH.nil
      go_simp
      refine hK.out _ _ (Chg.below (bT hS6 (HBM.out w6)) _) (fun hHeld2 => ?_)
      clear hK K hHeld
      have hHeld := hHeld2
      clear hHeld2
      try simp only [Act.put, List.setIfInBounds_toArray, List.set_cons_zero, List.set_cons_succ, List.getElem_toArray, List.getElem_cons_zero, List.getElem_cons_succ]
      refine wpAnyH_ready (rs := [11]) (by kernel_rfl) (by simp) ?_
      refine AllReadyH.cons rfl (fun K hK => ?_) AllReadyH.nil
      go_simp
      refine hK.out _ _ (Chg.below (bA (bT hS6 (HBM.out w6)) _) _) (fun hHeld2 => ?_)
      clear hK K hHeld
      have hHeld := hHeld2
      clear hHeld2
      try simp only [Act.put, List.setIfInBounds_toArray, List.set_cons_zero, List.set_cons_succ, List.getElem_toArray, List.getElem_cons_zero, List.getElem_cons_succ]
      refine wpAnyH_ready (rs := [12]) (by kernel_rfl) (by simp) ?_
      refine AllReadyH.cons rfl (fun K hK => ?_) AllReadyH.nil
      go_simp
      go_at_call 21
      have hM6 := HMK.out w6
      have hfed := fun (css : List (List Wd)) (t : Stop) (hgo : Rq.Go (St.new l) css t) => fed_conv w HE.out R l css t hgo w6.heap.size (cp w6) w6 (bw w6) hM6 (HBM.out w6) (HA.out.below hS6) (bT HB5.out hS6) hRw (by have := hS6.size; have := HS5.out; omega) (by have := HLL.out; omega)
      refine (hfed cA tA HGA.out).mono ?_
      rintro e7 w7 ⟨p7, d7, rfl, hch7, hT7⟩
      have hX7 : Chg (fun k => k = R) w5 w7 := (Chg.below (bA (bT hS6 (HBM.out w6)) _) (fun k => k = R)).trans hch7 (fun k _ e => e)
      refine hK.out _ _ (hX7) (fun hHeld2 => ?_)
      clear hK K hHeld
      have hHeld := hHeld2
      clear hHeld2
      try simp only [Act.put, List.setIfInBounds_toArray, List.set_cons_zero, List.set_cons_succ, List.getElem_toArray, List.getElem_cons_zero, List.getElem_cons_succ]
      refine wpAnyH_take (i := 13) (v := ?_) rfl (by kernel_rfl) (by kernel_rfl) (by kernel_rfl) (fun _ _ _ h => h) (Or.inl ⟨by rfl, ?_⟩) (by assumption) ?_
      rotate_left
      · (intro w hSw; (try dsimp only at hSw); go_simp; try (with_reducible rfl))
      try simp only [Act.put, List.setIfInBounds_toArray, List.set_cons_zero, List.set_cons_succ, List.getElem_toArray, List.getElem_cons_zero, List.getElem_cons_succ]
      refine wpAnyH_take (i := 14) (v := ?_) rfl (by kernel_rfl) (by kernel_rfl) (by kernel_rfl) (fun _ _ _ h => h) (Or.inl ⟨by rfl, ?_⟩) (by assumption) ?_
      rotate_left
      · (intro w hSw; (try dsimp only at hSw); go_simp; try (with_reducible rfl))
      try simp only [Act.put, List.setIfInBounds_toArray, List.set_cons_zero, List.set_cons_succ, List.getElem_toArray, List.getElem_cons_zero, List.getElem_cons_succ]
      refine wpAnyH_take (i := 15) (v := ?_) rfl (by kernel_rfl) (by kernel_rfl) (by kernel_rfl) (fun _ _ _ h => h) (Or.inl ⟨by rfl, ?_⟩) (by assumption) ?_
      rotate_left
      · (intro w hSw; (try dsimp only at hSw); go_simp; try (with_reducible rfl))
      try simp only [Act.put, List.setIfInBounds_toArray, List.set_cons_zero, List.set_cons_succ, List.getElem_toArray, List.getElem_cons_zero, List.getElem_cons_succ]
      refine wpAnyH_take (i := 16) (v := ?_) rfl (by kernel_rfl) (by kernel_rfl) (by kernel_rfl) (fun _ _ _ h => h) (Or.inl ⟨by rfl, ?_⟩) (by assumption) ?_
      rotate_left
      · (intro w hSw; (try dsimp only at hSw); go_simp; try (with_reducible rfl))
      try simp only [Act.put, List.setIfInBounds_toArray, List.set_cons_zero, List.set_cons_succ, List.getElem_toArray, List.getElem_cons_zero, List.getElem_cons_succ]
      refine wpAnyH_take (i := 17) (v := ?_) rfl (by kernel_rfl) (by kernel_rfl) (by kernel_rfl) (fun _ _ _ h => h) (Or.inl ⟨by rfl, ?_⟩) (by assumption) ?_
      rotate_left
      · (intro w hSw; (try dsimp only at hSw); go_simp; try (with_reducible rfl))
      try simp only [Act.put, List.setIfInBounds_toArray, List.set_cons_zero, List.set_cons_succ, List.getElem_toArray, List.getElem_cons_zero, List.getElem_cons_succ]
      refine wpAnyH_done (by kernel_rfl) ?_ _
      have hB7 : Below w.heap.size w w7 := hX7.on HB5.out HB5.out.size (fun k hk => by rw [hk]; exact hRw)
      have HX7 := Lib.hid hX7
      have HB7 := Lib.hid hB7
      have hs7 := hX7.size
      obtain ⟨nA, hnA⟩ : ∃ nA, nA = cA.length := ⟨_, rfl⟩
      obtain ⟨xA, hxA⟩ : ∃ xA, xA = tA.code := ⟨_, rfl⟩
      have HRA := Lib.hid (show (k ≤ 2 ∧ nA = 1 ∧ xA = 0) ∨ (k = 3 ∧ nA = 0 ∧ xA = 12) from HCA.out.imp (fun h => ⟨h.1, by rw [hnA, h.2.1]; rfl, by rw [hxA, h.2.2]; rfl⟩) (fun h => ⟨h.1, by rw [hnA, h.2.1]; rfl, by rw [hxA, h.2.2]; rfl⟩))
      rw [← hnA, ← hxA]
      obtain ⟨D2, hD2⟩ : ∃ D, D = bs (Lib.itoa (N2 : Int)) := ⟨_, rfl⟩
      have hDs2 : D2.size ≤ 21 := by rw [hD2, bs_size]; exact itoa_len _ (by omega) (by omega)
      have hDD2 := fun W => digits_any N2 (by have := HNN.out; omega) (by omega) W
      rw [← hD2] at hDD2
      have HDD2 := Lib.hid hDD2
      have HD2 := Lib.hid hD2
      have HB8f := Lib.hid (fun W (h : Below w7.heap.size w7 W) => bT hB7 h)
      clear hch7 hT7 hX7 hB7 hnA hxA hD2 hDD2 hfed hM6 cvL kcv hS6 hb6 hHeld s1 s2 s3 s4 HDD hDs
      go_wp2_with fail
      refine (HDD2.out w7).mono ?_
      rintro e8 w8 ⟨rfl, hb8⟩
      have HB8 := Lib.hid (HB8f.out w8 hb8)
      have HX8 := Lib.hid (HX7.out.trans (Chg.below hb8 (fun k => k = R)) (fun k _ e => e))
      clear hb8
      have hst : (⟨#[42]⟩ : ByteArray) ++ D2 ++ ⟨#[13, 10]⟩ = bs (42 :: (Lib.itoa (N2 : Int) ++ 13 :: 10 :: (List.replicate 0 (encW [97])).flatten)) := by
        rw [show (⟨#[42]⟩ : ByteArray) = bs [42] from rfl, show (⟨#[13, 10]⟩ : ByteArray) = bs [13, 10] from rfl, HD2.out, bsq_app, bsq_app]
        simp
      have HST := Lib.hid hst
      clear hst
      go_wp2_with fail
      go_loopw [11, 12] (fun s11 s12 wi => ∃ (j : Nat) (S : ByteArray), j ≤ N2 ∧ s12 = .int .i64 j ∧ s11 = .string S ∧ Hid (S = bs (42 :: (Lib.itoa (N2 : Int) ++ 13 :: 10 :: (List.replicate j (encW [97])).flatten))) ∧ wi = w8) (fun _ s12 _ => N2 - (intOf s12).toNat)
      case atStart => exact ⟨0, _, Nat.zero_le _, rfl, rfl, HST, rfl⟩
      case round =>
        obtain ⟨j, S, hj, rfl, rfl, HS, hwi⟩ := hrel
        obtain rfl := hwi.symm
        have ew : encW [97] = [36, 49, 13, 10, 97, 13, 10] := by decide +kernel
        have hSs : S.size ≤ 10000 := by
          rw [HS.out, bs_size, ew]
          have := itoa_len (N2 : Int) (by omega) (by omega)
          simp
          omega
        by_cases hlt2 : j < N2
        · have d3 : decide ((j : Int) < (N2 : Int)) = true := decide_eq_true (by omega)
          have d4 : decide (j < N2) = true := decide_eq_true hlt2
          have HNX := Lib.hid (show S ++ ⟨#[36, 49, 13, 10, 97, 13, 10]⟩ = bs (42 :: (Lib.itoa (N2 : Int) ++ 13 :: 10 :: (List.replicate (j + 1) (encW [97])).flatten)) by
            rw [HS.out, show (⟨#[36, 49, 13, 10, 97, 13, 10]⟩ : ByteArray) = bs [36, 49, 13, 10, 97, 13, 10] from rfl, bsq_app, List.replicate_succ', List.flatten_append, ew]
            simp)
          clear ew
          go_wp2_with fail
          go_roundw
          case rel => exact ⟨j + 1, _, by omega, by go_num, rfl, HNX, by first | rfl | trivial⟩
          case measure => simp [intOf]; omega
        · have d3 : decide ((j : Int) < (N2 : Int)) = false := decide_eq_false (by omega)
          have d4 : decide (j < N2) = false := decide_eq_false hlt2
          obtain ⟨ws2, hws2⟩ : ∃ ws2, ws2 = List.replicate N2 ([97] : Wd) := ⟨_, rfl⟩
          obtain ⟨l2, hl2⟩ : ∃ l2, l2 = encQ ws2 := ⟨_, rfl⟩
          have hw2l : ws2.length = N2 := by rw [hws2, List.length_replicate]
          have hSl : S = bs l2 := by
            have e : j = N2 := by omega
            rw [HS.out, hl2, e]
            unfold encQ
            rw [hw2l, hws2, List.map_replicate]
          have hl2s : l2.length ≤ 10000 := by
            have := bs_size l2
            rw [← hSl] at this
            omega
          obtain ⟨cB, tB, hgB, hcB⟩ : ∃ cB tB, Rq.Go (St.new l2) cB tB ∧ ((k ≤ 2 ∧ cB = [ws2] ∧ tB = .more (St.new [])) ∨ (k = 3 ∧ cB = [] ∧ tB = .err 12)) := by
            rw [hl2]
            have hNk := HNN.out.2.1
            by_cases h : k ≤ 2
            · exact ⟨_, _, go_count ws2 (fun e => by rw [e] at hw2l; simp at hw2l; omega) (by omega) (fun x hx => by rw [hws2] at hx; rw [List.eq_of_mem_replicate hx]; decide), .inl ⟨h, rfl, rfl⟩⟩
            · exact ⟨_, _, go_count_over ws2 (by omega) (by omega), .inr ⟨by omega, rfl, rfl⟩⟩
          obtain ⟨cap2, W8, hcv2, hmk2, hbm2⟩ := conv_new w8 l2 (by omega)
          rw [← hSl] at hcv2
          have hsz8 := HX8.out.size
          have hFB := fed_conv w HE.out (R + 1) l2 cB tB hgB w8.heap.size cap2 w8 W8 hmk2 hbm2 (HX8.out.box HB.out (by omega)) HB8.out (by omega) (by have := HS5.out; omega) (by omega)
          have HFB := Lib.hid hFB
          have HCB := Lib.hid hcB
          have HW2 := Lib.hid hw2l
          have HBM2 := Lib.hid hbm2
          clear ew hws2 hl2 hw2l hSl hl2s hgB hcB hmk2 hbm2 hFB
          go_wp2_with fail
          refine HFB.out.mono ?_
          rintro e9 w9 ⟨p9, d9, rfl, hch9, hT9⟩
          have hbA8 := bT HBM2.out (bA (Below.refl W8.heap.size W8) (.cells #[.slice (some ⟨w8.heap.size, 0, none⟩) l2.length cap2] 22))
          have hB9 : Below w.heap.size w w9 := hch9.on (bT HB8.out hbA8) (bT HB8.out hbA8).size (fun k hk => by rw [hk]; omega)
          have hX9 : Chg (fun k => k = R ∨ k = R + 1) w5 w9 := ((HX8.out.weaken (fun k _ e => .inl e)).trans (Chg.below hbA8 (fun k => k = R ∨ k = R + 1)) (fun k _ e => e)).trans hch9 (fun k _ e => .inr e)
          have HT9 := Lib.hid hT9
          have HB9 := Lib.hid hB9
          have HX9 := Lib.hid hX9
          have hs9 := hX9.size
          obtain ⟨nB, hnB⟩ : ∃ nB, nB = cB.length := ⟨_, rfl⟩
          obtain ⟨xB, hxB⟩ : ∃ xB, xB = tB.code := ⟨_, rfl⟩
          have HRB := Lib.hid (show (k ≤ 2 ∧ nB = 1 ∧ xB = 0) ∨ (k = 3 ∧ nB = 0 ∧ xB = 12) from HCB.out.imp (fun h => ⟨h.1, by rw [hnB, h.2.1]; rfl, by rw [hxB, h.2.2]; rfl⟩) (fun h => ⟨h.1, by rw [hnB, h.2.1]; rfl, by rw [hxB, h.2.2]; rfl⟩))
          have HNB := Lib.hid hnB
          rw [← hnB, ← hxB]
          have hr3 := fill_full (hX9.block L (Array.getElem?_eq_some_iff.1 HROW5.out).1 (by have := HLW.out; omega) |>.trans HROW5.out) (by decide) (by unfold maxLen; omega) N (Nat.le_refl _)
          have cv3 := convert_rest N N3 (by simp; omega) (rest_cell hr3)
          rw [List.take_replicate, Nat.min_eq_left h3N] at cv3
          obtain ⟨G3, hG3⟩ : ∃ G, G = bs (longW N3) := ⟨_, rfl⟩
          have hGs3 : G3.size = N3 := by rw [hG3, bs_size]; simp [longW]
          have cv3' : (convert 22 9 (.slice (some ⟨L, 0, none⟩) N3 N)).run Tryd.prog w9 = .ok (.string G3) w9 := by rw [hG3]; exact cv3
          obtain ⟨l3, hl3⟩ : ∃ l3, l3 = longW N3 ++ [13, 10] := ⟨_, rfl⟩
          have hSl3 : G3 ++ ⟨#[13, 10]⟩ = bs l3 := by rw [hG3, hl3, show (⟨#[13, 10]⟩ : ByteArray) = bs [13, 10] from rfl, bsq_app]
          have hl3s : l3.length ≤ 10000 := by rw [hl3]; simp [longW]; omega
          obtain ⟨cC, tC, hgC, hcC⟩ : ∃ cC tC, Rq.Go (St.new l3) cC tC ∧ ((k ≤ 2 ∧ cC = [[longW N3]] ∧ tC = .more (St.new [])) ∨ (k = 3 ∧ cC = [] ∧ tC = .err 12)) := by
            rw [hl3]
            have hNk := HNN.out.2.2
            have hlw : (longW N3).length = N3 := by simp [longW]
            have hxx : ∀ x ∈ longW N3, x = 120 := fun x hx => List.eq_of_mem_replicate hx
            by_cases h : k ≤ 2
            · exact ⟨_, _, go_line (longW N3) (fun e => by rw [e] at hlw; simp at hlw; omega) (fun x hx => by rw [hxx x hx]; decide) (by omega), .inl ⟨h, rfl, rfl⟩⟩
            · exact ⟨_, _, go_line_over (longW N3) (fun x hx => by rw [hxx x hx]; decide) (by omega), .inr ⟨by omega, rfl, rfl⟩⟩
          obtain ⟨cap3, W9, hcv3, hmk3, hbm3⟩ := conv_new w9 l3 (by omega)
          rw [← hSl3] at hcv3
          have HFC := Lib.hid (fed_conv w HE.out (R + 1 + 1) l3 cC tC hgC w9.heap.size cap3 w9 W9 hmk3 hbm3 (hX9.box HC.out (by omega)) hB9 (by omega) (by have := HS5.out; omega) (by omega))
          have HCC := Lib.hid hcC
          have hbA9 := bT hbm3 (bA (Below.refl W9.heap.size W9) (.cells #[.slice (some ⟨w9.heap.size, 0, none⟩) l3.length cap3] 22))
          have hbx9 : Box w9 (R + 1 + 1) 0 (.slice none 0 0) 0 (.slice none 0 0) 0 := hX9.box HC.out (by omega)
          have HBX9 := Lib.hid (hbx9.below hbA9)
          have HBA9 := Lib.hid hbA9
          have i0 : (0 : Int) ≤ (N3 : Int) := by omega
          have i1 : (N3 : Int) ≤ (N : Int) := by omega
          clear hbx9 hbA8 hB9 hX9 hch9 hT9 hnB hxB hr3 cv3 hG3 hl3 hSl3 hl3s hgC hcC hmk3 hbm3 hbA9 hcv2
          go_wp2_with fail
          refine HFC.out.mono ?_
          rintro e11 w11 ⟨p11, d11, rfl, hch11, hT11⟩
          have hB11 : Below w.heap.size w w11 := hch11.on (bT HB9.out HBA9.out) (bT HB9.out HBA9.out).size (fun k hk => by rw [hk]; omega)
          have hTB : Tld w11 (R + 1 + 1) (.slice p9 cB.length d9) cB := (HT9.out.on HBA9.out).box HBX9.out hch11
          have HB11 := Lib.hid hB11
          have HTB := Lib.hid hTB
          obtain ⟨nC, hnC⟩ : ∃ nC, nC = cC.length := ⟨_, rfl⟩
          obtain ⟨xC, hxC⟩ : ∃ xC, xC = tC.code := ⟨_, rfl⟩
          have HRC := Lib.hid (show (k ≤ 2 ∧ nC = 1 ∧ xC = 0) ∨ (k = 3 ∧ nC = 0 ∧ xC = 12) from HCC.out.imp (fun h => ⟨h.1, by rw [hnC, h.2.1]; rfl, by rw [hxC, h.2.2]; rfl⟩) (fun h => ⟨h.1, by rw [hnC, h.2.1]; rfl, by rw [hxC, h.2.2]; rfl⟩))
          rw [← hnC, ← hxC]
          clear hB11 hTB hch11 hT11 hnC hxC hcv3 cv3'
          by_cases hk2' : k ≤ 2
          · have d5 : decide ((k : Int) ≤ 2) = true := decide_eq_true (by omega)
            have d6 : decide (k ≤ 2) = true := decide_eq_true hk2'
            obtain ⟨rfl, rfl⟩ : nA = 1 ∧ xA = 0 := by rcases HRA.out with h | h; exact h.2; exact absurd h.1 (by omega)
            obtain ⟨rfl, rfl⟩ : nB = 1 ∧ xB = 0 := by rcases HRB.out with h | h; exact h.2; exact absurd h.1 (by omega)
            obtain ⟨rfl, rfl⟩ : nC = 1 ∧ xC = 0 := by rcases HRC.out with h | h; exact h.2; exact absurd h.1 (by omega)
            have hcB : cB = [ws2] := by rcases HCB.out with h | h; exact h.2.1; exact absurd h.1 (by omega)
            have hI := HTB.out.is
            rw [hcB] at hI
            obtain ⟨p', c', hv, hI⟩ := hI
            obtain ⟨g9, o9, rfl, hat⟩ : ∃ g o, p' = some ⟨g, o, none⟩ ∧ CAt w11 g o [ws2] := by
              rcases hI with h | ⟨g, o, h1, h2⟩
              · cases h
              · exact ⟨g, o, h1, h2⟩
            obtain ⟨rfl, rfl⟩ : p9 = some ⟨g9, o9, none⟩ ∧ d9 = c' := by cases hv; exact ⟨rfl, rfl⟩
            obtain ⟨bb, ii, cc, k9, _⟩ := hat 0 (by simp)
            have hw2 : ([ws2] : List (List Wd))[0].length = N2 := HW2.out
            rw [hw2, Nat.add_zero] at k9
            clear hat hI hv hcB
            go_wp2
            go_ret
            exact ⟨rfl, HB11.out⟩
          · have d5 : decide ((k : Int) ≤ 2) = false := decide_eq_false (by omega)
            have d6 : decide (k ≤ 2) = false := decide_eq_false hk2'
            obtain ⟨rfl, rfl⟩ : nA = 0 ∧ xA = 12 := by rcases HRA.out with h | h; exact absurd h.1 hk2'; exact h.2
            obtain ⟨rfl, rfl⟩ : nB = 0 ∧ xB = 12 := by rcases HRB.out with h | h; exact absurd h.1 hk2'; exact h.2
            obtain ⟨rfl, rfl⟩ : nC = 0 ∧ xC = 12 := by rcases HRC.out with h | h; exact absurd h.1 hk2'; exact h.2
            go_wp2
            go_ret
            exact ⟨rfl, HB11.out⟩
end Go.Proofs.YtcikelcecfapcaaDoor
