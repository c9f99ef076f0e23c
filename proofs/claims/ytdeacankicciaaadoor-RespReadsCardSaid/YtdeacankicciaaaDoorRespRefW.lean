/-
  The reference's Write, of any reply: its encoding.
-/
import Derived.Test.YtdeacankicciaaaDoorRespKeep
namespace Go.Proofs.YtdeacankicciaaaDoor
open Go.RowKit Rp

theorem bs_app (a b : List UInt8) : bs a ++ bs b = bs (a ++ b) := by
  apply ByteArray.ext
  rw [ByteArray.data_append]
  simp [bs]
theorem itoa_bs (n : Int) : numText n = bs (Lib.itoa n) := rfl

/-- The reference's Write. -/
def WriteAt (a : Rep) : Prop := ∀ (p : Option Addr) (c : Nat) (w : World), RepIn w a p c →
  Calls Tryd.prog 16 #[.agg (repCs a p c)] w fun e w' => e = .returned (.string (bs (enc a))) ∧ Below w.heap.size w w'

set_option maxRecDepth 20000 in
set_option maxHeartbeats 800000 in
theorem rw_0 (S : ByteArray) (hS : S.size ≤ 1000000000) (n : Int) (L c : Nat) (p : Option Addr) (w : World) :
    Calls Tryd.prog 16 #[.agg #[.int .i64 0, .string S, .int .i64 n, .slice p L c]] w fun e w' => e = .returned (.string ((⟨#[43]⟩ : ByteArray) ++ S ++ ⟨#[13, 10]⟩)) ∧ Below w.heap.size w w' := by
  go_enter Tryd.func16, Tryd.ntmps16
  go_wp2
  go_ret
  exact ⟨rfl, bA (Below.refl _ _) _⟩

set_option maxRecDepth 20000 in
set_option maxHeartbeats 800000 in
theorem rw_1 (S : ByteArray) (hS : S.size ≤ 1000000000) (n : Int) (L c : Nat) (p : Option Addr) (w : World) :
    Calls Tryd.prog 16 #[.agg #[.int .i64 1, .string S, .int .i64 n, .slice p L c]] w fun e w' => e = .returned (.string ((⟨#[45]⟩ : ByteArray) ++ S ++ ⟨#[13, 10]⟩)) ∧ Below w.heap.size w w' := by
  go_enter Tryd.func16, Tryd.ntmps16
  go_wp2
  go_ret
  exact ⟨rfl, bA (Below.refl _ _) _⟩

set_option maxRecDepth 20000 in
set_option maxHeartbeats 800000 in
theorem rw_4 (S : ByteArray) (n : Int) (L c : Nat) (p : Option Addr) (w : World) :
    Calls Tryd.prog 16 #[.agg #[.int .i64 4, .string S, .int .i64 n, .slice p L c]] w fun e w' => e = .returned (.string ⟨#[36, 45, 49, 13, 10]⟩) ∧ Below w.heap.size w w' := by
  go_enter Tryd.func16, Tryd.ntmps16
  go_wp2
  go_ret
  exact ⟨rfl, bA (Below.refl _ _) _⟩

set_option maxRecDepth 20000 in
set_option maxHeartbeats 800000 in
theorem rw_2 (S : ByteArray) (n : Int) (hn : Fits n) (L c : Nat) (p : Option Addr) (w : World) :
    Calls Tryd.prog 16 #[.agg #[.int .i64 2, .string S, .int .i64 n, .slice p L c]] w fun e w' => e = .returned (.string ((⟨#[58]⟩ : ByteArray) ++ numText n ++ ⟨#[13, 10]⟩)) ∧ Below w.heap.size w w' := by
  have HP := Lib.hid (fun W => refprint_any n hn W)
  have hT := numText_size n hn
  generalize numText n = T at *
  go_enter Tryd.func16, Tryd.ntmps16
  go_wp2_with fail
  refine (HP.out _).mono ?_
  rintro e w1 ⟨rfl, hb1⟩
  go_wp2
  go_ret
  exact ⟨rfl, bT (bA (Below.refl _ _) _) hb1⟩

set_option maxRecDepth 20000 in
set_option maxHeartbeats 2000000 in
theorem rw_3 (S : ByteArray) (m : Nat) (hm : S.size = m) (hm9 : m ≤ 1000000000) (hn : Fits (m : Int)) (n : Int) (L c : Nat) (p : Option Addr) (w : World) :
    Calls Tryd.prog 16 #[.agg #[.int .i64 3, .string S, .int .i64 n, .slice p L c]] w fun e w' => e = .returned (.string ((⟨#[36]⟩ : ByteArray) ++ numText (m : Int) ++ ⟨#[13, 10]⟩ ++ S ++ ⟨#[13, 10]⟩)) ∧ Below w.heap.size w w' := by
  have hbx := heap_alloc_new w (.cells #[.int .i64 3, .string S, .int .i64 n, .slice p L c] 26)
  have KK : Hid (∀ w', Below (w.alloc (.cells #[.int .i64 3, .string S, .int .i64 n, .slice p L c] 26)).heap.size (w.alloc (.cells #[.int .i64 3, .string S, .int .i64 n, .slice p L c] 26)) w' → Below (w.alloc (.cells #[.int .i64 3, .string S, .int .i64 n, .slice p L c] 26)).heap.size (w.alloc (.cells #[.int .i64 3, .string S, .int .i64 n, .slice p L c] 26)) w' ∧ w'.cell? ⟨w.heap.size, 1, none⟩ = some (.string S)) := Lib.hid fun w' h => ⟨h, (cells4 ((h.block _ (by simp)).trans hbx)).2.1⟩
  have HP := Lib.hid (fun W => refprint_any (m : Int) hn W)
  have hT := numText_size (m : Int) hn
  generalize numText (m : Int) = T at *
  have a1 : ¬ 9223372036854775807 < 1 + T.size := by omega
  have a2 : ¬ 9223372036854775807 < 1 + T.size + 2 := by omega
  have a3 : ¬ 9223372036854775807 < 1 + T.size + 2 + m := by omega
  have a4 : ¬ 9223372036854775807 < 1 + T.size + 2 + m + 2 := by omega
  have hbw : Below w.heap.size w (w.alloc (.cells #[.int .i64 3, .string S, .int .i64 n, .slice p L c] 26)) := bA (Below.refl _ _) _
  clear hbx hn
  go_enter Tryd.func16, Tryd.ntmps16
  go_wp2_with fail
  generalize w.alloc (.cells #[.int .i64 3, .string S, .int .i64 n, .slice p L c] 26 (0, 0)) = wC at *
  go_region_held3 (fun w' => Below wC.heap.size wC w' ∧ w'.cell? ⟨w.heap.size, 1, none⟩ = some (.string S))
    ((first | exact KK.out _ (bD (Below.refl _ _)) | exact KK.out _ (bT (bD (Below.refl _ _)) hb9)))
    ((go_at_call 35; refine (HP.out _).mono ?_; rintro e9 w9 ⟨rfl, hb9⟩))
  have hb10 := bT (bD (Below.refl wC.heap.size wC)) hb9
  rename_i hHeld
  clear hHeld KK hb9
  go_wp2
  go_ret
  exact ⟨rfl, bT hbw hb10⟩

/-- What has been written of an array. -/
def accOf (l : List Rep) (j : Nat) : List UInt8 := 42 :: (Lib.itoa l.length ++ 13 :: 10 :: encL (l.take j))
theorem acc_next (l : List Rep) (j : Nat) (h : j < l.length) : bs (accOf l j) ++ bs (enc l[j]) = bs (accOf l (j + 1)) := by
  rw [bs_app]
  congr 1
  unfold accOf
  rw [List.take_succ_eq_append_getElem h, encL_append]
  simp [encL]
theorem acc_le (l : List Rep) (j : Nat) (_ : j ≤ l.length) : (accOf l j).length ≤ (accOf l l.length).length := by
  have e : encL (l.take l.length) = encL (l.take j) ++ encL (l.drop j) := by rw [← encL_append, List.take_append_drop, List.take_length]
  unfold accOf
  rw [e]
  simp

set_option maxRecDepth 20000 in
set_option maxHeartbeats 2000000 in
theorem rw_5 (k : Int) (n : Int) (s : List UInt8) (l : List Rep) (h0 : (k == 0) = false) (h1 : (k == 1) = false) (h2 : (k == 2) = false) (h3 : (k == 3) = false) (h4 : (k == 4) = false) (hlen : (accOf l l.length).length ≤ 1000000000) (ih : ∀ x ∈ l, WriteAt x) (c : Nat) (p : Option Addr) (w : World) (h : RepIn w (.mk k s n l) p c) :
    Calls Tryd.prog 16 #[.agg #[.int .i64 k, .string (bs s), .int .i64 n, .slice p l.length c]] w fun e w' => e = .returned (.string (bs (accOf l l.length))) ∧ Below w.heap.size w w' := by
  have hl63 : l.length ≤ maxLen := by
    obtain ⟨_, _, _, h1, h2, _⟩ := h.parts
    omega
  have HP := Lib.hid (fun W => refprint_any (l.length : Int) (fits_len hl63) W)
  have hT := numText_size (l.length : Int) (fits_len hl63)
  have HT := Lib.hid (show ((⟨#[42]⟩ : ByteArray) ++ numText (l.length : Int) ++ ⟨#[13, 10]⟩) = bs (accOf l 0) by
    rw [itoa_bs, show (⟨#[42]⟩ : ByteArray) = bs [42] from rfl, show (⟨#[13, 10]⟩ : ByteArray) = bs [13, 10] from rfl, bs_app, bs_app]
    simp [accOf, encL])
  unfold maxLen at hl63
  generalize numText (l.length : Int) = T at *
  obtain ⟨S, hS⟩ : ∃ S, S = bs s := ⟨_, rfl⟩
  rw [← hS]
  clear hS
  obtain ⟨L, hL⟩ : ∃ L, L = l.length := ⟨_, rfl⟩
  have HLE := Lib.hid (fun j (hj : j ≤ L) => Nat.le_trans (acc_le l j (by omega)) hlen)
  obtain ⟨Z, hZ⟩ : ∃ Z, bs (accOf l l.length) = Z := ⟨_, rfl⟩
  rw [hZ]
  rw [← hL] at hl63 HP hZ ⊢
  have HZ := Lib.hid hZ
  have HL := Lib.hid hL
  have IH := Lib.hid ih
  have H := Lib.hid h
  clear hL ih h hlen hZ
  go_enter Tryd.func16, Tryd.ntmps16
  go_wp2_with fail
  refine (HP.out _).mono ?_
  rintro e w1 ⟨rfl, hb1⟩
  have HBX := Lib.hid (show w1.heap[w.heap.size]? = some (.cells #[.int .i64 k, .string S, .int .i64 n, .slice p L c] 26 (0, 0)) from (hb1.block _ (by simp)).trans (heap_alloc_new w _))
  have hB1 : Below w.heap.size w w1 := bT (bA (Below.refl _ _) _) hb1
  go_wp2_with fail
  go_loopw [3, 4] (fun s3 s4 wr => ∃ (j : Nat), j ≤ L ∧ s4 = .int .i64 j ∧ s3 = .string (bs (accOf l j)) ∧ Below w.heap.size w wr ∧ Hid (wr.heap[w.heap.size]? = some (.cells #[.int .i64 k, .string S, .int .i64 n, .slice p L c] 26 (0, 0)))) (fun _ s4 _ => L - (intOf s4).toNat)
  case atStart => exact ⟨0, Nat.zero_le _, rfl, by rw [HT.out], hB1, HBX⟩
  case round =>
    obtain ⟨j, hj, rfl, rfl, hB, HX⟩ := hrel
    have c3 := (cells4 HX.out).2.2.2
    by_cases hjl : j < L
    · have hd : decide ((j : Int) < (L : Int)) = true := decide_eq_true (by omega)
      have hja : j < l.length := by have := HL.out; omega
      obtain ⟨b, o, q, e, rfl, hc, hi⟩ := H.out.kid j hja
      obtain ⟨e0, e1, e2, e3⟩ := hc.below hB
      have HC := Lib.hid (IH.out l[j] (List.getElem_mem hja) q e wr (RepIn.below hB _ hi))
      have hsz := HLE.out (j + 1) (by omega)
      have hn := acc_next l j hja
      have hsz2 : (bs (accOf l j)).size + (bs (enc l[j])).size ≤ 1000000000 := by
        rw [← bs_size, ← hn, ByteArray.size_append] at hsz
        exact hsz
      have HN := Lib.hid hn
      clear hc hi hn hsz
      generalize l[j] = x at *
      generalize bs (accOf l j) = A at *
      generalize bs (enc x) = X at *
      clear hja
      unfold repCs at HC
      go_wp2_with fail
      refine HC.out.mono ?_
      rintro e9 w2 ⟨rfl, hb2⟩
      have hB2 := bT hB hb2
      have HX2 := Lib.hid ((hb2.block _ (Array.getElem?_eq_some_iff.1 HX.out).1).trans HX.out)
      clear c3 e0 e1 e2 e3
      go_wp2_with fail
      go_roundw
      case rel => exact ⟨j + 1, by omega, by go_num, by rw [HN.out], hB2, HX2⟩
      case measure => simp [intOf]; omega
    · have hd : decide ((j : Int) < (L : Int)) = false := decide_eq_false (by omega)
      obtain rfl : j = L := by omega
      have hz : bs (accOf l j) = Z := by rw [← HZ.out]
      rw [hz]
      clear hz
      go_wp2_with fail
      go_ret
      exact ⟨rfl, hB⟩

theorem enc_kid : ∀ (l : List Rep) (x : Rep), x ∈ l → (enc x).length ≤ (encL l).length
  | y :: l, x, h => by
    rw [encL, List.length_append]
    rcases List.mem_cons.1 h with rfl | h
    · omega
    · have := enc_kid l x h
      omega

/-- THE REFERENCE's Write: the encoding. -/
theorem refwrite_any (a : Rep) : (enc a).length ≤ 1000000000 → WriteAt a := by
  refine Rep.ind (p := fun a => (enc a).length ≤ 1000000000 → WriteAt a) ?_ a
  intro k s n l ih hlen p c w h
  obtain ⟨_, hn, hs, hlc, hcm, _⟩ := h.parts
  show Calls _ _ #[.agg #[.int .i64 k, .string (bs s), .int .i64 n, .slice p l.length c]] _ _
  have h13 : (⟨#[13, 10]⟩ : ByteArray) = bs [13, 10] := rfl
  by_cases h0 : k = 0
  · subst h0
    have e : bs (enc (.mk 0 s n l)) = (⟨#[43]⟩ : ByteArray) ++ bs s ++ ⟨#[13, 10]⟩ := by
      rw [show (⟨#[43]⟩ : ByteArray) = bs [43] from rfl, h13, bs_app, bs_app]; simp [enc]
    rw [e]
    exact rw_0 (bs s) (by rw [bs_size]; simp [enc] at hlen; omega) n l.length c p w
  by_cases h1 : k = 1
  · subst h1
    have e : bs (enc (.mk 1 s n l)) = (⟨#[45]⟩ : ByteArray) ++ bs s ++ ⟨#[13, 10]⟩ := by
      rw [show (⟨#[45]⟩ : ByteArray) = bs [45] from rfl, h13, bs_app, bs_app]; simp [enc]
    rw [e]
    exact rw_1 (bs s) (by rw [bs_size]; simp [enc] at hlen; omega) n l.length c p w
  by_cases h2 : k = 2
  · subst h2
    have e : bs (enc (.mk 2 s n l)) = (⟨#[58]⟩ : ByteArray) ++ numText n ++ ⟨#[13, 10]⟩ := by
      rw [itoa_bs, show (⟨#[58]⟩ : ByteArray) = bs [58] from rfl, h13, bs_app, bs_app]; simp [enc]
    rw [e]
    exact rw_2 (bs s) n hn l.length c p w
  by_cases h3 : k = 3
  · subst h3
    have e : bs (enc (.mk 3 s n l)) = (⟨#[36]⟩ : ByteArray) ++ numText (s.length : Int) ++ ⟨#[13, 10]⟩ ++ bs s ++ ⟨#[13, 10]⟩ := by
      rw [itoa_bs, show (⟨#[36]⟩ : ByteArray) = bs [36] from rfl, h13, bs_app, bs_app, bs_app, bs_app]; simp [enc]
    rw [e]
    exact rw_3 (bs s) s.length (bs_size s) (by simp [enc] at hlen; omega) (fits_len hs) n l.length c p w
  by_cases h4 : k = 4
  · subst h4
    have e : bs (enc (.mk 4 s n l)) = ⟨#[36, 45, 49, 13, 10]⟩ := by simp [enc, bs]
    rw [e]
    exact rw_4 (bs s) n l.length c p w
  have e : enc (.mk k s n l) = accOf l l.length := by
    rw [accOf, List.take_length, enc, if_neg h0, if_neg h1, if_neg h2, if_neg h3, if_neg h4]
  rw [e] at hlen ⊢
  have hL : (encL l).length ≤ 1000000000 := by
    rw [accOf, List.take_length] at hlen
    simp at hlen
    omega
  exact rw_5 k n s l (by simpa using h0) (by simpa using h1) (by simpa using h2) (by simpa using h3) (by simpa using h4) hlen (fun x hx => ih x hx (by have := enc_kid l x hx; omega)) c p w h
end Go.Proofs.YtdeacankicciaaaDoor
