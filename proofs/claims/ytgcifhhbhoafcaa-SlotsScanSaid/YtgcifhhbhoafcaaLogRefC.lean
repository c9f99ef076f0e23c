/-
  The reference: the record at a sector.
-/
import Derived.Test.YtgcifhhbhoafcaaLogRefB
import Derived.Lib.ConvBytes
import Derived.Lib.AtoiErrMem
namespace Go.Proofs.Ytgcifhhbhoafcaa
open Go.RowKit Go.Shelf

set_option maxHeartbeats 1000000 in
theorem need_big (n : Nat) (hn : n ≤ 1048576) (w : World) :
    Calls Try.prog 39 #[.int .i64 n] w fun e w' => e = .returned (.int .i64 (secs n)) ∧ w = w' := by
  go_enter Try.func39, Try.ntmps39
  go_wp2
  go_loopw [0, 3] (fun s0 s3 wr => ∃ i : Nat, i ≤ (n + 62) / 63 ∧ s0 = .int .i64 ((n : Int) - 63 * i) ∧ s3 = .int .i64 ((1 : Int) + i) ∧ wr = w) (fun _ s3 _ => 2000000 - (intOf s3).toNat)
  case atStart => exact ⟨0, Nat.zero_le _, by simp, rfl, rfl⟩
  case round =>
    obtain ⟨i, hi, rfl, rfl, rfl⟩ := hrel
    by_cases hlt : 63 * i < n
    · have d1 : decide ((0 : Int) < (n : Int) - 63 * i) = true := decide_eq_true (by omega)
      have q1 : IntKind.i64.wrap ((n : Int) - 63 * i - 63) = (n : Int) - 63 * i - 63 := by rw [IntKind.wrap_i64]; omega
      have q2 : IntKind.i64.wrap ((1 : Int) + i + 1) = (1 : Int) + i + 1 := by rw [IntKind.wrap_i64]; omega
      go_wp2
      go_roundw
      case rel => exact ⟨i + 1, by omega, by congr 1; omega, by congr 1, trivial⟩
      case measure => simp [intOf]; omega
    · have d1 : decide ((0 : Int) < (n : Int) - 63 * i) = false := decide_eq_false (by omega)
      have e : ((1 : Int) + i) = ((secs n : Nat) : Int) := by unfold secs; omega
      have HE := Lib.hid e
      clear e
      go_wp2
      rw [HE.out]
      go_ret
      exact ⟨rfl, rfl⟩

/-- What At answers. -/
def AtR (w : World) (Bs : List Sec) (stamp : Nat) (e : Ending) (w' : World) : Prop := ∃ (z : Int) (p : Option Addr) (n c : Nat) (ok : Bool), e = .returned (.tuple #[.agg #[.int .i64 z, .slice p n c], .bool ok]) ∧ Below w.heap.size w w' ∧ (match rdRec Bs stamp with
  | none => ok = false
  | some body => ok = true ∧ ∃ g, z = stamp ∧ p = some ⟨g, 0, none⟩ ∧ n = body.length ∧ w'.rangeAt g 0 (bCells body) ∧ w.heap.size ≤ g)
/-- Both cells of an entry set. -/
def set2 (w : World) (b : Nat) (v0 v1 : Value) : World := (w.setCell ⟨b, 0, none⟩ v0).setCell ⟨b, 1, none⟩ v1
theorem set2_heap {w : World} {b : Nat} {z0 z1 : Value} {T : TypeId} (hb : w.heap[b]? = some (.cells #[z0, z1] T (0, 0))) (v0 v1 : Value) : (set2 w b v0 v1).heap[b]? = some (.cells #[v0, v1] T (0, 0)) := by
  have h1 : (w.setCell ⟨b, 0, none⟩ v0).heap[b]? = some (.cells #[v0, z1] T (0, 0)) := by
    rw [setCell_eq_setRow w _ _ _ _ _ _ hb, setRow_heap w _ _ _ _ _ hb]
    rfl
  unfold set2
  rw [setCell_eq_setRow _ _ _ _ _ _ _ h1, setRow_heap _ _ _ _ _ _ h1]
  rfl
theorem set2_below {B : Nat} {w w' : World} {b : Nat} (h : Below B w w') (hb : B ≤ b) (v0 v1 : Value) : Below B w (set2 w' b v0 v1) :=
  (h.setCell (p := ⟨b, 0, none⟩) hb _).setCell (p := ⟨b, 1, none⟩) hb _
theorem set2_range {w : World} {b c o : Nat} {l : List Value} (h : w.rangeAt c o l) (hn : c ≠ b) (v0 v1 : Value) : (set2 w b v0 v1).rangeAt c o l :=
  (Chg.setCell _ ⟨b, 1, none⟩ v1).range ((Chg.setCell w ⟨b, 0, none⟩ v0).range h hn) hn
theorem cells2 {W : World} {b : Nat} {v0 v1 : Value} {T : TypeId} (h : W.heap[b]? = some (.cells #[v0, v1] T (0, 0))) : W.cell? ⟨b, 0, none⟩ = some v0 ∧ W.cell? ⟨b, 1, none⟩ = some v1 := by
  refine ⟨?_, ?_⟩ <;> (rw [Lib.cell_of_heap h]; rfl)
/-- What a conversion of a string makes. -/
theorem conv_bytes (w : World) (l : List UInt8) (hl : l.length ≤ 1000000) : ∃ cap W, (convert 9 22 (.string (bs l))).run Try.prog w = .ok (.slice (some ⟨w.heap.size, 0, none⟩) l.length cap) W ∧ W.rangeAt w.heap.size 0 (bCells l) ∧ l.length ≤ cap ∧ cap ≤ maxLen ∧ Below w.heap.size w W ∧ w.heap.size < W.heap.size := by
  have h := Lib.run_convert_string_bytes (P := Try.prog) w 9 22 5 (bs l) Try.underlying9 Try.underlying22 Try.underlying5
  rw [bs_size] at h
  refine ⟨_, _, h, ?_, grownCap_ge w l.length 0 5, grownCap_le_maxLen w l.length 0 5 (by unfold maxLen; omega), Lib.bytesWorld_below _ _ _, (Array.getElem?_eq_some_iff.1 (Lib.bytesWorld_at_new w 5 (bs l))).1⟩
  intro j u hj
  rw [Nat.zero_add, cell_in (Lib.bytesWorld_at_new w 5 (bs l))]
  have hjl : j < l.length := by
    have := (List.getElem?_eq_some_iff.1 hj).1
    rwa [bCells_len] at this
  have hs : (bs l).data.size = l.length := bs_size l
  unfold Lib.bytesCells
  rw [Array.getElem?_append_left (by simp [hs]; exact hjl), Array.getElem?_map]
  rw [← hj]
  simp [bs, bCells, hjl]
/-- Strings in a row of the call's own. -/
theorem strs_of_owns {w : World} {lo : Nat} {v : Value} {S : List Sec} (h : w.ownsRow lo 9 1 v S.length (sCells S)) : ∃ p c, v = .slice p S.length c ∧ (0 < S.length → ∃ b, p = some ⟨b, 0, none⟩ ∧ w.rangeAt b 0 (sCells S) ∧ b < w.heap.size ∧ lo ≤ b) := by
  rcases h.2 with ⟨h1, h2⟩ | ⟨g, cap, cur, rfl, hg, hc, _, _, _, hx⟩
  · exact ⟨none, 0, by rw [h1, h2], fun h3 => by omega⟩
  · refine ⟨_, _, rfl, fun _ => ⟨g, rfl, fun j u hj => ?_, (Array.getElem?_eq_some_iff.1 hc).1, hg⟩⟩
    rw [Nat.zero_add, cell_in hc, ← Array.getElem?_toList]
    rw [← hx, List.getElem?_take] at hj
    split at hj
    · exact hj
    · cases hj
theorem sCells_at {w : World} {b o : Nat} {S : List Sec} (h : w.rangeAt b o (sCells S)) (i : Nat) (hi : i < S.length) : w.cell? ⟨b, o + i, none⟩ = some (.string (bs S[i])) := h i _ (by simp [sCells, List.getElem?_eq_getElem hi])

set_option maxRecDepth 20000 in
set_option maxHeartbeats 4000000 in
theorem at_past (b o c n at_ stamp : Nat) (hat : n ≤ at_) (S : List Sec) (hS : S.length = n) (w : World) (_hcn : n ≤ 100000) :
    Calls Try.prog 38 #[.slice (some ⟨b, o, none⟩) n c, .int .i64 at_, .int .i64 stamp] w fun e w' => AtR w (S.drop at_) stamp e w' := by
  have hd := Lib.hid (show S.drop at_ = [] from List.drop_of_length_le (by omega))
  have d1 : decide ((n : Int) ≤ (at_ : Int)) = true := decide_eq_true (by omega)
  have d1' : decide (n ≤ at_) = true := decide_eq_true hat
  go_enter Try.func38, Try.ntmps38
  go_wp2
  have hB := heap_new w (.cells #[.int .i64 0, .slice none 0 0] 48)
  have e0 := cell_in (j := 0) hB
  have e1 := cell_in (j := 1) hB
  exact bodyPost_ret (v := .tuple #[.agg #[.int .i64 0, .slice none 0 0], .bool false]) (by simp [results, Try.results38, go_sem, e0, e1]) rfl ⟨0, none, 0, 0, false, rfl, bA (Below.refl _ _) _, by rw [hd.out]; rfl⟩

set_option maxRecDepth 20000 in
set_option maxHeartbeats 4000000 in
theorem at_more (b o c N at_ stamp : Nat) (S : List Sec) (hS : S.length = N) (hcn : N ≤ 1000) (hat : at_ < N) (hst : stamp < 9223372036854775808) (h64 : ∀ s ∈ S, s.length = 64) (w : World) (hr : w.rangeAt b o (sCells S)) (hb : b < w.heap.size) :
    Calls Try.prog 38 #[.slice (some ⟨b, o, none⟩) N c, .int .i64 at_, .int .i64 stamp] w fun e w' => AtR w (S.drop at_) stamp e w' := by
  have d1 : decide ((N : Int) ≤ (at_ : Int)) = false := decide_eq_false (by omega)
  have d1' : decide (N ≤ at_) = false := decide_eq_false (by omega)
  obtain ⟨h, hh⟩ : ∃ h, h = S[at_]'(by omega) := ⟨_, rfl⟩
  have hhl : h.length = 64 := by rw [hh]; exact h64 _ (List.getElem_mem _)
  have hk := sCells_at hr at_ (by omega)
  rw [← hh] at hk
  obtain ⟨n, hn⟩ : ∃ n, n = num ((h.drop 9).take 4) := ⟨_, rfl⟩
  have hnl : n < 4294967296 := by
    have := num_lt ((h.drop 9).take 4)
    rw [List.length_take, List.length_drop, hhl] at this
    rw [hn]
    exact this
  have hnum := fun w => refnum_any ((h.drop 9).take 4) (by rw [List.length_take]; omega) w
  rw [← hn] at hnum
  have he9 : (bs h).extract 9 13 = bs ((h.drop 9).take 4) := by rw [bs_mid, List.drop_take]
  obtain ⟨sh, hsh⟩ : ∃ s, s = bs h := ⟨_, rfl⟩
  obtain ⟨s9, hs9⟩ : ∃ s, s = bs ((h.drop 9).take 4) := ⟨_, rfl⟩
  rw [← hsh, ← hs9] at he9
  rw [← hs9] at hnum
  rw [← hsh] at hk
  have hzh : sh.size = 64 := by rw [hsh, bs_size, hhl]
  have hdr' : S.drop at_ = h :: S.drop (at_ + 1) := by rw [hh, List.drop_eq_getElem_cons]
  have HS := Lib.hid hS
  have HN := Lib.hid hn
  have HH := Lib.hid (show S[at_]? = some h ∧ h.length = 64 ∧ sh = bs h ∧ S.drop at_ = h :: S.drop (at_ + 1) from ⟨by rw [hh, List.getElem?_eq_getElem], hhl, hsh, hdr'⟩)
  have HR := Lib.hid hr
  have H64 := Lib.hid h64
  clear hn hh hhl hsh hs9 hr h64 hS hdr'
  have HFAIL := Lib.hid (show ∀ (w' : World), rdRec (S.drop at_) stamp = none → Below w.heap.size w w' → AtR w (S.drop at_) stamp (.returned (.tuple #[.agg #[.int .i64 0, .slice none 0 0], .bool false])) w' from fun w' hf hb => ⟨0, none, 0, 0, false, rfl, hb, by rw [hf]⟩)
  by_cases hbig : 1048576 < n
  · have d2 : decide ((1048576 : Int) < (n : Int)) = true := decide_eq_true (by omega)
    have d2' : decide (1048576 < n) = true := decide_eq_true hbig
    have HNO := Lib.hid (show rdRec (S.drop at_) stamp = none by
      rw [HH.out.2.2.2]
      unfold rdRec
      simp only [← HN.out]
      rw [if_pos (.inl hbig)])
    go_enter Try.func38, Try.ntmps38
    go_wp2_with fail
    obtain ⟨w0, hw0⟩ : ∃ w0, w.alloc (.cells #[.int .i64 0, .slice none 0 0] 48) = w0 := ⟨_, rfl⟩
    rw [hw0]
    have hB0 : w0.heap[w.heap.size]? = some (.cells #[.int .i64 0, .slice none 0 0] 48 (0, 0)) := by rw [← hw0]; exact heap_new w _
    have hb0 : Below w.heap.size w w0 := by rw [← hw0]; exact bA (Below.refl _ _) _
    have hk0 : w0.cell? ⟨b, o + at_, none⟩ = some (.string sh) := (hb0.cell (p := ⟨b, o + at_, none⟩) hb).trans hk
    have HR0 := Lib.hid ((Chg.below hb0 (fun _ => False)).range HR.out (fun e => e))
    have hs0 : w0.heap.size = w.heap.size + 1 := by rw [← hw0]; simp
    have HB0 := Lib.hid (show _ ∧ _ from ⟨hB0, hb0⟩)
    have HS0 := Lib.hid hs0
    clear hw0 hB0 hb0 hk hs0
    refine (hnum _).mono ?_
    rintro e w1 ⟨rfl, hw1⟩
    obtain rfl := hw1
    have kf0 : w0.frozen? ⟨w.heap.size, 0, none⟩ = false := frozen_in HB0.out.1 0
    have kf1 : w0.frozen? ⟨w.heap.size, 1, none⟩ = false := frozen_in HB0.out.1 1
    have e0 : w0.cell? ⟨w.heap.size, 0, none⟩ = some (.int .i64 0) := cell_in HB0.out.1
    have e1 : w0.cell? ⟨w.heap.size, 1, none⟩ = some (.slice none 0 0) := cell_in HB0.out.1
    go_wp2
    have hE := set2_heap HB0.out.1 (.int .i64 0) (.slice none 0 0)
    have hBE := set2_below HB0.out.2 (Nat.le_refl _) (.int .i64 0) (.slice none 0 0)
    show bodyPost _ _ _ _ _ (set2 w0 w.heap.size (.int .i64 0) (.slice none 0 0))
    generalize set2 w0 w.heap.size (.int .i64 0) (.slice none 0 0) = W at *
    clear e0 e1
    obtain ⟨e0, e1⟩ := cells2 hE
    refine bodyPost_ret (v := .tuple #[.agg #[.int .i64 0, .slice none 0 0], .bool false]) (by simp [results, Try.results38, go_sem, e0, e1]) rfl ?_
    exact HFAIL.out _ HNO.out hBE
  have d2 : decide ((1048576 : Int) < (n : Int)) = false := decide_eq_false (by omega)
  have d2' : decide (1048576 < n) = false := decide_eq_false hbig
  obtain ⟨K, hK⟩ : ∃ K, K = secs n := ⟨_, rfl⟩
  have hneed := fun w => need_big n (by omega) w
  rw [← hK] at hneed
  have hKn : K = 1 + (n + 62) / 63 := hK
  have HK := Lib.hid hK
  clear hK
  obtain ⟨M, hM⟩ : ∃ M, M = N - at_ := ⟨_, rfl⟩
  have eM : (N : Int) - (at_ : Int) = (M : Int) := by omega
  have HM := Lib.hid hM
  by_cases hfar : M < K
  · have d3 : decide ((M : Int) < (K : Int)) = true := decide_eq_true (by omega)
    have d3' : decide (M < K) = true := decide_eq_true hfar
    have HNO := Lib.hid (show rdRec (S.drop at_) stamp = none by
      rw [HH.out.2.2.2]
      unfold rdRec
      simp only [← HN.out]
      rw [if_pos (.inr (by rw [List.length_drop, HS.out, ← HK.out]; omega))])
    clear hM hKn
    go_enter Try.func38, Try.ntmps38
    go_wp2_with fail
    obtain ⟨w0, hw0⟩ : ∃ w0, w.alloc (.cells #[.int .i64 0, .slice none 0 0] 48) = w0 := ⟨_, rfl⟩
    rw [hw0]
    have hB0 : w0.heap[w.heap.size]? = some (.cells #[.int .i64 0, .slice none 0 0] 48 (0, 0)) := by rw [← hw0]; exact heap_new w _
    have hb0 : Below w.heap.size w w0 := by rw [← hw0]; exact bA (Below.refl _ _) _
    have hk0 : w0.cell? ⟨b, o + at_, none⟩ = some (.string sh) := (hb0.cell (p := ⟨b, o + at_, none⟩) hb).trans hk
    have HR0 := Lib.hid ((Chg.below hb0 (fun _ => False)).range HR.out (fun e => e))
    have hs0 : w0.heap.size = w.heap.size + 1 := by rw [← hw0]; simp
    have HB0 := Lib.hid (show _ ∧ _ from ⟨hB0, hb0⟩)
    have HS0 := Lib.hid hs0
    clear hw0 hB0 hb0 hk hs0
    refine (hnum _).mono ?_
    rintro e w1 ⟨rfl, hw1⟩
    obtain rfl := hw1
    go_wp2_with fail
    refine (hneed _).mono ?_
    rintro e w1 ⟨rfl, hw1⟩
    obtain rfl := hw1
    have kf0 : w0.frozen? ⟨w.heap.size, 0, none⟩ = false := frozen_in HB0.out.1 0
    have kf1 : w0.frozen? ⟨w.heap.size, 1, none⟩ = false := frozen_in HB0.out.1 1
    have e0 : w0.cell? ⟨w.heap.size, 0, none⟩ = some (.int .i64 0) := cell_in HB0.out.1
    have e1 : w0.cell? ⟨w.heap.size, 1, none⟩ = some (.slice none 0 0) := cell_in HB0.out.1
    go_wp2
    have hE := set2_heap HB0.out.1 (.int .i64 0) (.slice none 0 0)
    have hBE := set2_below HB0.out.2 (Nat.le_refl _) (.int .i64 0) (.slice none 0 0)
    show bodyPost _ _ _ _ _ (set2 w0 w.heap.size (.int .i64 0) (.slice none 0 0))
    generalize set2 w0 w.heap.size (.int .i64 0) (.slice none 0 0) = W at *
    clear e0 e1
    obtain ⟨e0, e1⟩ := cells2 hE
    refine bodyPost_ret (v := .tuple #[.agg #[.int .i64 0, .slice none 0 0], .bool false]) (by simp [results, Try.results38, go_sem, e0, e1]) rfl ?_
    exact HFAIL.out _ HNO.out hBE
  have d3 : decide ((M : Int) < (K : Int)) = false := decide_eq_false (by omega)
  have d3' : decide (M < K) = false := decide_eq_false hfar
  have hK1000 : K ≤ 1000 := by omega
  have haK : at_ + K ≤ N := by omega
  have HKN := Lib.hid hKn
  clear hM hKn
  go_enter Try.func38, Try.ntmps38
  go_wp2_with fail
  obtain ⟨w0, hw0⟩ : ∃ w0, w.alloc (.cells #[.int .i64 0, .slice none 0 0] 48) = w0 := ⟨_, rfl⟩
  rw [hw0]
  have hB0 : w0.heap[w.heap.size]? = some (.cells #[.int .i64 0, .slice none 0 0] 48 (0, 0)) := by rw [← hw0]; exact heap_new w _
  have hb0 : Below w.heap.size w w0 := by rw [← hw0]; exact bA (Below.refl _ _) _
  have hk0 : w0.cell? ⟨b, o + at_, none⟩ = some (.string sh) := (hb0.cell (p := ⟨b, o + at_, none⟩) hb).trans hk
  have HR0 := Lib.hid ((Chg.below hb0 (fun _ => False)).range HR.out (fun e => e))
  have hs0 : w0.heap.size = w.heap.size + 1 := by rw [← hw0]; simp
  have HB0 := Lib.hid (show _ ∧ _ from ⟨hB0, hb0⟩)
  have HS0 := Lib.hid hs0
  clear hw0 hB0 hb0 hk hs0
  refine (hnum _).mono ?_
  rintro e w1 ⟨rfl, hw1⟩
  obtain rfl := hw1
  go_wp2_with fail
  refine (hneed _).mono ?_
  rintro e w1 ⟨rfl, hw1⟩
  obtain rfl := hw1
  go_wp2
  go_loopw [9, 10] (fun s9 s10 wr => ∃ I : Nat, ∃ st : ByteArray, at_ + 1 ≤ I ∧ I ≤ at_ + K ∧ s9 = .string st ∧ s10 = .int .i64 (I : Int) ∧ st.size ≤ 63 * I ∧ Hid (st = bs ((((S.drop (at_ + 1)).take (I - (at_ + 1))).map (·.drop 1)).flatten)) ∧ wr = w0) (fun _ s10 _ => N - (intOf s10).toNat)
  case atStart => exact ⟨at_ + 1, _, Nat.le_refl _, by have := HKN.out; omega, rfl, by go_num, Nat.zero_le _, Lib.hid (by simp; rfl), rfl⟩
  case round =>
    obtain ⟨I, st, hI1, hI2, rfl, rfl, hzst, HST, rfl⟩ := hrel
    go_wp2_with fail
    refine (hneed _).mono ?_
    rintro e w1 ⟨rfl, hw1⟩
    obtain rfl := hw1
    by_cases hlt : I < at_ + K
    · have f1 : decide ((I : Int) < (at_ : Int) + (K : Int)) = true := decide_eq_true (by omega)
      obtain ⟨x, hx⟩ : ∃ x, x = S[I]'(by have := HS.out; omega) := ⟨_, rfl⟩
      have hxl : x.length = 64 := by rw [hx]; exact H64.out _ (List.getElem_mem _)
      have hkx := sCells_at HR0.out I (by have := HS.out; omega)
      rw [← hx] at hkx
      obtain ⟨sx, hsx⟩ : ∃ s, s = bs x := ⟨_, rfl⟩
      have hzx : sx.size = 64 := by rw [hsx, bs_size, hxl]
      rw [← hsx] at hkx
      obtain ⟨sd, hsd⟩ : ∃ s, s = bs (x.drop 1) := ⟨_, rfl⟩
      have hex : sx.extract 1 64 = sd := by rw [hsx, hsd]; exact bs_from _ _ _ hxl.symm
      have hzd : sd.size = 63 := by rw [hsd, bs_size, List.length_drop, hxl]
      have HX := Lib.hid (show S[I]? = some x ∧ sd = bs (x.drop 1) from ⟨by rw [hx, List.getElem?_eq_getElem], hsd⟩)
      have j1 : (I : Int) < (N : Int) := by omega
      have hbd : st.size + sd.size < 9223372036854775808 := by omega
      have HZ := Lib.hid hzd
      clear hx hxl hsx hsd hzd
      go_wp2
      go_roundw
      case rel =>
        refine ⟨I + 1, _, by omega, by omega, rfl, by go_num, by rw [ByteArray.size_append, HZ.out]; omega, Lib.hid ?_, trivial⟩
        rw [HST.out, HX.out.2, bs_app, show I + 1 - (at_ + 1) = (I - (at_ + 1)) + 1 by omega, List.take_add_one, List.getElem?_drop, show at_ + 1 + (I - (at_ + 1)) = I by omega, HX.out.1]
        simp
      case measure => simp [intOf]; omega
    · have f1 : decide ((I : Int) < (at_ : Int) + (K : Int)) = false := decide_eq_false (by omega)
      obtain ⟨body, hbody⟩ : ∃ l, l = unpacked ((S.drop (at_ + 1)).take (K - 1)) n := ⟨_, rfl⟩
      have hbl : body.length = n := by
        rw [hbody]
        refine unpacked_len (fun s hs => H64.out s (List.mem_of_mem_drop (List.mem_of_mem_take hs))) n ?_
        rw [List.length_take, List.length_drop, HS.out]
        have := HKN.out
        omega
      have hsn : st.extract 0 n = bs body := by
        rw [HST.out, bs_to, hbody, show I - (at_ + 1) = K - 1 by omega]
        rfl
      have hnz : n ≤ st.size := by
        have := congrArg ByteArray.size hsn
        rw [bs_size, hbl, ByteArray.size_extract] at this
        omega
      have hsI : (n : Int) ≤ (st.size : Int) := by omega
      obtain ⟨cap, W, hcv, hxr, hc1, hc2, hcb, hcz⟩ := conv_bytes wr body (by omega)
      rw [hbl] at hcv
      have hrec := record_any stamp hst wr.heap.size 0 cap body (by omega) W hxr
      rw [hbl] at hrec
      have HBY := Lib.hid (show body = unpacked ((S.drop (at_ + 1)).take (K - 1)) n ∧ body.length = n from ⟨hbody, hbl⟩)
      have HXR := Lib.hid hxr
      have HBW := Lib.hid (show Below w.heap.size w W from HB0.out.2.trans (hcb.mono HB0.out.2.size))
      have HB1 := Lib.hid (show W.heap[w.heap.size]? = some (.cells #[.int .i64 0, .slice none 0 0] 48 (0, 0)) from (hcb.block _ (by have := HS0.out; omega)).trans HB0.out.1)
      have HRW := Lib.hid ((Chg.below hcb (fun _ => False)).range HR0.out (fun e => e))
      have hkW : W.cell? ⟨b, o + at_, none⟩ = some (.string sh) := (hcb.cell (p := ⟨b, o + at_, none⟩) (by have := HS0.out; show b < _; omega)).trans hk0
      clear hbody hbl hxr
      go_wp2_with fail
      refine hrec.mono ?_
      rintro e w3 ⟨v, rfl, hrow, hb3⟩
      obtain ⟨pr, cr, rfl, hpr⟩ := strs_of_owns hrow
      obtain ⟨R, hRp⟩ : ∃ R, R = (packed body).length := ⟨_, rfl⟩
      have hRK : R = K - 1 := by rw [hRp, packed_len, HBY.out.2]; have := HKN.out; omega
      rw [← hRp] at hpr ⊢
      have HB3 := Lib.hid (show w3.heap[w.heap.size]? = some (.cells #[.int .i64 0, .slice none 0 0] 48 (0, 0)) from (hb3.block _ (by have := HBW.out.size; have := HS0.out; have := (Array.getElem?_eq_some_iff.1 HB1.out).1; omega)).trans HB1.out)
      have HW3 := Lib.hid (show Below w.heap.size w w3 from HBW.out.trans (hb3.mono HBW.out.size))
      have HR3 := Lib.hid ((Chg.below hb3 (fun _ => False)).range HRW.out (fun e => e))
      have HX3 := Lib.hid ((Chg.below hb3 (fun _ => False)).range HXR.out (fun e => e))
      have hk3 : w3.cell? ⟨b, o + at_, none⟩ = some (.string sh) := (hb3.cell (p := ⟨b, o + at_, none⟩) (by have := HBW.out.size; show b < _; omega)).trans hkW
      have HPR := Lib.hid hpr
      have HRP := Lib.hid hRp
      obtain ⟨sq, hsq⟩ : ∃ s, s = bs (hdr stamp body) := ⟨_, rfl⟩
      rw [← hsq]
      have hcmp : (sh.toList == sq.toList) = decide (h = hdr stamp body) := by rw [HH.out.2.2.1, hsq, bs_eq]
      have kf0 : w3.frozen? ⟨w.heap.size, 0, none⟩ = false := frozen_in HB3.out 0
      have kf1 : w3.frozen? ⟨w.heap.size, 1, none⟩ = false := frozen_in HB3.out 1
      have e0 : w3.cell? ⟨w.heap.size, 0, none⟩ = some (.int .i64 0) := cell_in HB3.out
      have e1 : w3.cell? ⟨w.heap.size, 1, none⟩ = some (.slice none 0 0) := cell_in HB3.out
      have HREC := Lib.hid (show rdRec (S.drop at_) stamp = if h = hdr stamp body ∧ (S.drop (at_ + 1)).take (K - 1) = packed body then some body else none by
        rw [HH.out.2.2.2]
        unfold rdRec
        simp only [← HN.out]
        rw [if_neg (by rw [List.length_drop, HS.out, ← HK.out]; omega), ← HK.out, ← HBY.out.1])
      have hn0 := HBY.out.2
      have hpos : wr.heap.size < W.heap.size := hcz
      clear hrow hb3 hpr hRp hrec hsq hcv hkW hk0 hcb hneed hnum
      by_cases hhd : h = hdr stamp body
      · rw [decide_eq_true hhd] at hcmp
        go_wp2
        obtain ⟨wo, hwo⟩ : ∃ wo, wo = wr := ⟨wr, rfl⟩
        subst hwo
        go_loopw [14] (fun s14 wi => ∃ i : Nat, i ≤ R ∧ s14 = .int .i64 (i : Int) ∧ Hid ((S.drop (at_ + 1)).take i = (packed body).take i) ∧ Hid (Below w3.heap.size w3 wi)) (fun s14 _ => R - (intOf s14).toNat)
        case atStart => exact ⟨0, Nat.zero_le _, rfl, Lib.hid (by simp), Lib.hid (Below.refl _ _)⟩
        case round =>
          obtain ⟨i, hi, rfl, HSM, HBI⟩ := hrel
          by_cases hil : i < R
          · have f2 : decide ((i : Int) < (R : Int)) = true := decide_eq_true (by omega)
            have f2' : decide (i < R) = true := decide_eq_true hil
            obtain ⟨gb, hgb, hgr, hgs, _⟩ := HPR.out (by have := HRP.out; omega)
            subst hgb
            have hgw3 : gb < w3.heap.size := hgs
            have hbw3 : b < w3.heap.size := by have := HW3.out.size; omega
            obtain ⟨x, hx⟩ : ∃ x, x = S[at_ + 1 + i]'(by have := HS.out; omega) := ⟨_, rfl⟩
            obtain ⟨y, hy⟩ : ∃ y, y = (packed body)[i]'(by have := HRP.out; omega) := ⟨_, rfl⟩
            have hkx := sCells_at HR3.out (at_ + 1 + i) (by have := HS.out; omega)
            have hky := sCells_at hgr i (by have := HRP.out; omega)
            rw [← hx] at hkx
            rw [← hy, Nat.zero_add] at hky
            obtain ⟨sx, hsx⟩ : ∃ s, s = bs x := ⟨_, rfl⟩
            obtain ⟨sy, hsy⟩ : ∃ s, s = bs y := ⟨_, rfl⟩
            rw [← hsx] at hkx
            rw [← hsy] at hky
            have hcxy : (sx.toList == sy.toList) = decide (x = y) := by rw [hsx, hsy, bs_eq]
            have HXY := Lib.hid (show S[at_ + 1 + i]? = some x ∧ (packed body)[i]? = some y from ⟨by rw [hx, List.getElem?_eq_getElem], by rw [hy, List.getElem?_eq_getElem]⟩)
            obtain ⟨J, hJ⟩ : ∃ J, J = at_ + 1 + i := ⟨_, rfl⟩
            have eJ : (at_ : Int) + 1 + (i : Int) = (J : Int) := by omega
            have j1 : (J : Int) < (N : Int) := by omega
            have j0 : (0 : Int) ≤ (J : Int) := by omega
            have q1 : IntKind.i64.wrap ((at_ : Int) + 1) = (at_ : Int) + 1 := by rw [IntKind.wrap_i64]; omega
            have q2 : IntKind.i64.wrap (J : Int) = (J : Int) := by rw [IntKind.wrap_i64]; omega
            rw [← hJ] at hkx
            clear hx hy hsx hsy hJ hgr
            go_wp2
            refine wp_region_noPanic ?_
            refine wp_region_held_drew (S := fun W => Below w3.heap.size w3 W) (by kernel_rfl) (Below.drew HBI.out) (fun hHeld => ?_)
            refine wpAnyH_take (i := 0) (v := ?_) rfl (by kernel_rfl) (by kernel_rfl) (by kernel_rfl) (fun _ _ _ h => h) (Or.inl ⟨by rfl, ?_⟩) (by assumption) ?_
            rotate_left
            · (intro w hSw; (try dsimp only at hSw); go_simp; try (with_reducible rfl))
            try simp only [Act.put, List.setIfInBounds_toArray, List.set_cons_zero, List.set_cons_succ, List.getElem_toArray, List.getElem_cons_zero]
            refine wpAnyH_take (i := 1) (v := ?_) rfl (by kernel_rfl) (by kernel_rfl) (by kernel_rfl) (fun _ _ _ h => h) (Or.inl ⟨by rfl, ?_⟩) (by assumption) ?_
            rotate_left
            · (intro w hSw; (try dsimp only at hSw); go_simp; try (with_reducible rfl))
            try simp only [Act.put, List.setIfInBounds_toArray, List.set_cons_zero, List.set_cons_succ, List.getElem_toArray, List.getElem_cons_zero, List.getElem_cons_succ]
            refine wpAnyH_take (i := 2) (v := ?_) rfl (by kernel_rfl) (by kernel_rfl) (by kernel_rfl) (fun _ _ _ h => h) (Or.inl ⟨by rfl, ?_⟩) (by assumption) ?_
            rotate_left
            · (intro w hSw; (try dsimp only at hSw); go_simp; try (with_reducible rfl))
            try simp only [Act.put, List.setIfInBounds_toArray, List.set_cons_zero, List.set_cons_succ, List.getElem_toArray, List.getElem_cons_zero, List.getElem_cons_succ]
            refine wpAnyH_take (i := 3) (v := ?_) rfl (by kernel_rfl) (by kernel_rfl) (by kernel_rfl) (fun _ _ _ h => h) (Or.inl ⟨by rfl, ?_⟩) (by assumption) ?_
            rotate_left
            · (intro w hSw; (try dsimp only at hSw); go_simp; try (with_reducible rfl))
            try simp only [Act.put, List.setIfInBounds_toArray, List.set_cons_zero, List.set_cons_succ, List.getElem_toArray, List.getElem_cons_zero, List.getElem_cons_succ]
            refine wpAnyH_take (i := 4) (v := ?_) rfl (by kernel_rfl) (by kernel_rfl) (by kernel_rfl) (fun _ _ _ h => h) (Or.inl ⟨by rfl, ?_⟩) (by assumption) ?_
            rotate_left
            · (intro w hSw; (try dsimp only at hSw); go_simp; try (with_reducible rfl))
            try simp only [Act.put, List.setIfInBounds_toArray, List.set_cons_zero, List.set_cons_succ, List.getElem_toArray, List.getElem_cons_zero, List.getElem_cons_succ]
            refine wpAnyH_take (i := 5) (v := ?_) rfl (by kernel_rfl) (by kernel_rfl) (by kernel_rfl) (fun _ _ _ h => h) (Or.inl ⟨by rfl, ?_⟩) (by assumption) ?_
            rotate_left
            · (intro w hSw; (try dsimp only at hSw); go_simp; try (with_reducible rfl))
            try simp only [Act.put, List.setIfInBounds_toArray, List.set_cons_zero, List.set_cons_succ, List.getElem_toArray, List.getElem_cons_zero, List.getElem_cons_succ]
            refine wpAnyH_take (i := 6) (v := ?_) rfl (by kernel_rfl) (by kernel_rfl) (by kernel_rfl) (fun _ _ _ h => h) (Or.inl ⟨by rfl, ?_⟩) (by assumption) ?_
            rotate_left
            · (intro w hSw; (try dsimp only at hSw); have hc := (hSw.cell (p := ⟨b, o + J, none⟩) hbw3).trans hkx; go_simp; try (with_reducible rfl))
            try simp only [Act.put, List.setIfInBounds_toArray, List.set_cons_zero, List.set_cons_succ, List.getElem_toArray, List.getElem_cons_zero, List.getElem_cons_succ]
            refine wpAnyH_take (i := 7) (v := ?_) rfl (by kernel_rfl) (by kernel_rfl) (by kernel_rfl) (fun _ _ _ h => h) (Or.inl ⟨by rfl, ?_⟩) (by assumption) ?_
            rotate_left
            · (intro w hSw; (try dsimp only at hSw); go_simp; try (with_reducible rfl))
            try simp only [Act.put, List.setIfInBounds_toArray, List.set_cons_zero, List.set_cons_succ, List.getElem_toArray, List.getElem_cons_zero, List.getElem_cons_succ]
            refine wpAnyH_take (i := 8) (v := ?_) rfl (by kernel_rfl) (by kernel_rfl) (by kernel_rfl) (fun _ _ _ h => h) (Or.inl ⟨by rfl, ?_⟩) (by assumption) ?_
            rotate_left
            · (intro w hSw; (try dsimp only at hSw); go_simp; try (with_reducible rfl))
            try simp only [Act.put, List.setIfInBounds_toArray, List.set_cons_zero, List.set_cons_succ, List.getElem_toArray, List.getElem_cons_zero, List.getElem_cons_succ]
            refine wpAnyH_take (i := 9) (v := ?_) rfl (by kernel_rfl) (by kernel_rfl) (by kernel_rfl) (fun _ _ _ h => h) (Or.inl ⟨by rfl, ?_⟩) (by assumption) ?_
            rotate_left
            · (intro w hSw; (try dsimp only at hSw); go_simp; try (with_reducible rfl))
            try simp only [Act.put, List.setIfInBounds_toArray, List.set_cons_zero, List.set_cons_succ, List.getElem_toArray, List.getElem_cons_zero, List.getElem_cons_succ]
            refine wpAnyH_take (i := 10) (v := ?_) rfl (by kernel_rfl) (by kernel_rfl) (by kernel_rfl) (fun _ _ _ h => h) (Or.inl ⟨by rfl, ?_⟩) (by assumption) ?_
            rotate_left
            · (intro w hSw; (try dsimp only at hSw); have hc := (hSw.cell (p := ⟨gb, i, none⟩) hgw3).trans hky; go_simp; try (with_reducible rfl))
            try simp only [Act.put, List.setIfInBounds_toArray, List.set_cons_zero, List.set_cons_succ, List.getElem_toArray, List.getElem_cons_zero, List.getElem_cons_succ]
            refine wpAnyH_take (i := 11) (v := ?_) rfl (by kernel_rfl) (by kernel_rfl) (by kernel_rfl) (fun _ _ _ h => h) (Or.inl ⟨by rfl, ?_⟩) (by assumption) ?_
            rotate_left
            · (intro w hSw; (try dsimp only at hSw); go_simp; try (with_reducible rfl))
            try simp only [Act.put, List.setIfInBounds_toArray, List.set_cons_zero, List.set_cons_succ, List.getElem_toArray, List.getElem_cons_zero, List.getElem_cons_succ]
            refine wpAnyH_done (by kernel_rfl) ?_ _
            refine NoPanic.normal ?_
            clear hHeld
            have hD : Below w3.heap.size w3 wr.drew := Below.drew HBI.out
            obtain ⟨wd, hwd⟩ : ∃ wd, wr.drew = wd := ⟨_, rfl⟩
            rw [hwd] at hD ⊢
            have HD := Lib.hid hD
            clear hwd hD
            have HBd := Lib.hid (show wd.heap[w.heap.size]? = some (.cells #[.int .i64 0, .slice none 0 0] 48 (0, 0)) from (HD.out.block _ (Array.getElem?_eq_some_iff.1 HB3.out).1).trans HB3.out)
            have HWd := Lib.hid (HW3.out.trans (HD.out.mono HW3.out.size))
            clear kf0 kf1 e0 e1
            have kf0 : wd.frozen? ⟨w.heap.size, 0, none⟩ = false := frozen_in HBd.out 0
            have kf1 : wd.frozen? ⟨w.heap.size, 1, none⟩ = false := frozen_in HBd.out 1
            have e0 : wd.cell? ⟨w.heap.size, 0, none⟩ = some (.int .i64 0) := cell_in HBd.out
            have e1 : wd.cell? ⟨w.heap.size, 1, none⟩ = some (.slice none 0 0) := cell_in HBd.out
            by_cases hxy : x = y
            · rw [decide_eq_true hxy]
              go_wp2
              refine ⟨⟨i + 1, by omega, by go_num, Lib.hid ?_, HD⟩, by simp [intOf]; omega⟩
              rw [List.take_add_one, List.take_add_one, HSM.out, List.getElem?_drop, HXY.out.1, HXY.out.2, hxy]
            · rw [decide_eq_false hxy]
              have HNO := Lib.hid (show rdRec (S.drop at_) stamp = none by
                rw [HREC.out, if_neg]
                rintro ⟨_, h2⟩
                have h3 := congrArg (·[i]?) h2
                simp only [List.getElem?_take, List.getElem?_drop, HXY.out.1, HXY.out.2] at h3
                rw [if_pos (by omega)] at h3
                exact hxy (Option.some.inj h3))
              go_wp2
              have hE := set2_heap HBd.out (.int .i64 0) (.slice none 0 0)
              have hBE := set2_below HWd.out (Nat.le_refl _) (.int .i64 0) (.slice none 0 0)
              show bodyPost _ _ _ _ _ (set2 wd w.heap.size (.int .i64 0) (.slice none 0 0))
              generalize set2 wd w.heap.size (.int .i64 0) (.slice none 0 0) = W9 at *
              clear e0 e1
              obtain ⟨e0, e1⟩ := cells2 hE
              refine bodyPost_ret (v := .tuple #[.agg #[.int .i64 0, .slice none 0 0], .bool false]) (by simp [results, Try.results38, go_sem, e0, e1]) rfl ?_
              exact HFAIL.out _ HNO.out hBE
          · have f2 : decide ((i : Int) < (R : Int)) = false := decide_eq_false (by omega)
            have f2' : decide (i < R) = false := decide_eq_false hil
            obtain ⟨wd, hwd⟩ : ∃ wd, wd = wr := ⟨_, rfl⟩
            rw [← hwd] at HBI ⊢
            have HD := HBI
            clear hwd
            have HBd := Lib.hid (show wd.heap[w.heap.size]? = some (.cells #[.int .i64 0, .slice none 0 0] 48 (0, 0)) from (HD.out.block _ (Array.getElem?_eq_some_iff.1 HB3.out).1).trans HB3.out)
            have HWd := Lib.hid (HW3.out.trans (HD.out.mono HW3.out.size))
            clear kf0 kf1 e0 e1
            have kf0 : wd.frozen? ⟨w.heap.size, 0, none⟩ = false := frozen_in HBd.out 0
            have kf1 : wd.frozen? ⟨w.heap.size, 1, none⟩ = false := frozen_in HBd.out 1
            have e0 : wd.cell? ⟨w.heap.size, 0, none⟩ = some (.int .i64 0) := cell_in HBd.out
            have e1 : wd.cell? ⟨w.heap.size, 1, none⟩ = some (.slice none 0 0) := cell_in HBd.out
            have HXd := Lib.hid ((Chg.below HD.out (fun _ => False)).range HX3.out (fun e => e))
            have HYES := Lib.hid (show rdRec (S.drop at_) stamp = some body by
              have h2 := HSM.out
              rw [show i = K - 1 by omega, List.take_of_length_le (l := packed body) (by rw [← HRP.out]; omega)] at h2
              rw [HREC.out, if_pos ⟨hhd, h2⟩])
            go_wp2
            have hE := set2_heap HBd.out (.int .i64 stamp) (.slice (some ⟨wo.heap.size, 0, none⟩) n cap)
            have hBE := set2_below HWd.out (Nat.le_refl _) (.int .i64 stamp) (.slice (some ⟨wo.heap.size, 0, none⟩) n cap)
            have hXE := set2_range HXd.out (b := w.heap.size) (by have := HS0.out; omega) (.int .i64 stamp) (.slice (some ⟨wo.heap.size, 0, none⟩) n cap)
            show bodyPost _ _ _ _ _ (set2 wd w.heap.size (.int .i64 stamp) (.slice (some ⟨wo.heap.size, 0, none⟩) n cap))
            generalize set2 wd w.heap.size (.int .i64 stamp) (.slice (some ⟨wo.heap.size, 0, none⟩) n cap) = W9 at *
            clear e0 e1
            obtain ⟨e0, e1⟩ := cells2 hE
            refine bodyPost_ret (v := .tuple #[.agg #[.int .i64 stamp, .slice (some ⟨wo.heap.size, 0, none⟩) n cap], .bool true]) (by simp [results, Try.results38, go_sem, e0, e1]) rfl ?_
            refine ⟨_, _, _, _, true, rfl, hBE, ?_⟩
            rw [HYES.out]
            exact ⟨rfl, _, rfl, rfl, hn0.symm, hXE, by have := HS0.out; omega⟩
      · rw [decide_eq_false hhd] at hcmp
        have HNO := Lib.hid (show rdRec (S.drop at_) stamp = none by rw [HREC.out, if_neg (fun h => hhd h.1)])
        go_wp2
        have hE := set2_heap HB3.out (.int .i64 0) (.slice none 0 0)
        have hBE := set2_below HW3.out (Nat.le_refl _) (.int .i64 0) (.slice none 0 0)
        show bodyPost _ _ _ _ _ (set2 w3 w.heap.size (.int .i64 0) (.slice none 0 0))
        generalize set2 w3 w.heap.size (.int .i64 0) (.slice none 0 0) = W9 at *
        clear e0 e1
        obtain ⟨e0, e1⟩ := cells2 hE
        refine bodyPost_ret (v := .tuple #[.agg #[.int .i64 0, .slice none 0 0], .bool false]) (by simp [results, Try.results38, go_sem, e0, e1]) rfl ?_
        exact HFAIL.out _ HNO.out hBE
end Go.Proofs.Ytgcifhhbhoafcaa
