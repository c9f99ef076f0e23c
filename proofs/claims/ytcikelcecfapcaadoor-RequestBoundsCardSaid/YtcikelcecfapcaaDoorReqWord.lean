/-
  request.cutLine and request.number, of any bytes. request.cutWord, of any bytes; strings.CutPrefix of one byte.
-/
import Derived.Test.YtcikelcecfapcaaDoorReqPure
import Derived.Test.YtcikelcecfapcaaDoorRespCut
import Derived.Test.YtcikelcecfapcaaDoorShelfC
import Derived.Deep.QuietTactic
import Derived.BigQuiet
namespace Go.Proofs.YtcikelcecfapcaaDoor
open Go.RowKit Rp Rq

theorem indexByte_lf : ∀ l : List UInt8, Lib.indexByte l 10 = if lfAt l < l.length then (lfAt l : Int) else -1
  | [] => rfl
  | x :: l => by
    have ih := indexByte_lf l
    unfold lfAt at ih ⊢
    rw [Lib.indexByte, List.findIdx_cons]
    by_cases h : x = 10
    · subst h; simp
    · have h1 : (x == 10) = false := by simpa using h
      generalize l.findIdx (fun x => x == 10) = F at *
      rw [h1]
      simp only [Bool.false_eq_true, if_false, cond_false, List.length_cons]
      by_cases h2 : F < l.length
      · have h3 : ((F : Int) == -1) = false := beq_eq_false_iff_ne.2 (by omega)
        rw [if_pos h2] at ih
        rw [ih, h3, if_pos (show F + 1 < l.length + 1 by omega)]
        simp
      · rw [if_neg h2] at ih
        rw [ih, if_neg (show ¬ F + 1 < l.length + 1 by omega)]
        rfl
theorem indexByte_take (l : List UInt8) (K : Nat) (hK : K ≤ l.length) : Lib.indexByte (l.take K) 10 = if lfAt l < K then (lfAt l : Int) else -1 := by
  rw [indexByte_lf]
  have e : lfAt (l.take K) = min K (lfAt l) := by unfold lfAt; exact List.findIdx_take
  rw [e, List.length_take, Nat.min_eq_left hK]
  by_cases h : lfAt l < K
  · rw [if_pos h, if_pos (by omega), Nat.min_eq_right (by omega)]
  · rw [if_neg h, if_neg (by omega)]
theorem suffix_two (u : List UInt8) (a b : UInt8) : Lib.hasSuffix (u ++ [a, b]) [13, 10] = (a == 13 && b == 10) := by
  unfold Lib.hasSuffix List.isSuffixOf
  rw [List.reverse_append]
  simp [List.isPrefixOf]
  rw [Bool.and_comm]
  congr 1
  · rw [Bool.eq_iff_iff]; simp; exact eq_comm
  · rw [Bool.eq_iff_iff]; simp; exact eq_comm
theorem lf_is {l : List UInt8} (h : lfAt l < l.length) : l[lfAt l] = 10 := by
  have := List.findIdx_getElem (w := h)
  exact beq_iff_eq.1 this
theorem lf_suffix {l : List UInt8} (h : lfAt l < l.length) : Lib.hasSuffix (l.take (lfAt l + 1)) [13, 10] = decide (lfAt l ≠ 0 ∧ l[lfAt l - 1]? = some 13) := by
  have h10 := lf_is h
  generalize lfAt l = k at *
  cases k with
  | zero =>
    rw [List.take_succ_eq_append_getElem h, h10, List.take_zero]
    simp
    rfl
  | succ k =>
    rw [List.take_succ_eq_append_getElem h, List.take_succ_eq_append_getElem (by omega), List.append_assoc, h10]
    show Lib.hasSuffix (l.take k ++ [l[k], 10]) [13, 10] = _
    rw [suffix_two]
    rw [Bool.eq_iff_iff]
    simp [List.getElem?_eq_getElem (show k < l.length by omega)]

/-- What cutLine answers. -/
def LineV (p : Option Addr) (c : Nat) (l : List UInt8) (e : Ending) (a : Except Int (Wd × List UInt8)) : Prop :=
  match a with
  | .ok (t, r) => ∃ q d, e = .returned (.tuple #[.string (bs t), .slice q r.length d, .int .i64 0]) ∧ Sub p c l q d r
  | .error x => e = .returned (.tuple #[.string ⟨#[]⟩, .slice none 0 0, .int .i64 x])

theorem cutline_nil (w : World) :
    Calls Tryd.prog 70 #[.slice none 0 0] w fun e w' => e = .returned (.tuple #[.string ⟨#[]⟩, .slice none 0 0, .int .i64 11]) ∧ Below w.heap.size w w' := by
  have HI := Lib.hid (fun W => Tryd.bytes_IndexByte_nil 10 W)
  go_enter Tryd.func70, Tryd.ntmps70
  go_wp2_with fail
  refine (HI.out _).mono ?_
  rintro e w1 ⟨rfl, rfl⟩
  go_wp2
  go_ret3
  exact ⟨rfl, Below.refl _ _⟩

theorem rest_cell {w : World} {b o c : Nat} {l : List UInt8} (h : Rest w (some ⟨b, o, none⟩) c l) : ∀ (j : Nat) (hj : j < l.length), w.cell? ⟨b, o + j, none⟩ = some (.int .u8 (l[j].toNat : Nat)) := by
  rcases h with ⟨h, _⟩ | ⟨b', o', h, _, _, h3⟩
  · cases h
  · simp only [Option.some.injEq, Addr.mk.injEq, and_true] at h
    obtain ⟨rfl, rfl⟩ := h
    exact h3
theorem nums_cells {w : World} {b o : Nat} {l : List UInt8} (K : Nat) (hK : K ≤ l.length) (h3 : ∀ (j : Nat) (h : j < l.length), w.cell? ⟨b, o + j, none⟩ = some (.int .u8 (l[j].toNat : Nat))) : ∀ i, i < K → w.cell? ⟨b, o + i, none⟩ = some (.int .u8 ((nums (l.take K)).getD i 0)) := fun i hi => by
  rw [h3 i (by omega)]
  simp [nums, List.getD, hi, show i < l.length by omega]
theorem nums_take_len (l : List UInt8) (K : Nat) (hK : K ≤ l.length) : (nums (l.take K)).length = K := by rw [nums_len, List.length_take]; omega

/-- bytes.IndexByte of LF in the first K bytes. -/
theorem idx_lf {w : World} {b o : Nat} {l : List UInt8} (c K : Nat) (hK : K ≤ l.length) (h3 : ∀ (j : Nat) (h : j < l.length), w.cell? ⟨b, o + j, none⟩ = some (.int .u8 (l[j].toNat : Nat))) :
    Calls Tryd.prog 90 #[.slice (some ⟨b, o, none⟩) K c, .int .u8 10] w fun e w' => e = .returned (.int .i64 (if lfAt l < K then (lfAt l : Int) else -1)) ∧ w = w' := by
  refine (Tryd.bytes_IndexByte b o K c (nums (l.take K)) 10 w (nums_take_len l K hK) (nums_cells K hK h3)).mono ?_
  rintro e w' ⟨rfl, rfl⟩
  refine ⟨?_, rfl⟩
  rw [nums_bytes]
  show Ending.returned (.int .i64 (Lib.indexByte (l.take K) 10)) = _
  rw [indexByte_take l K hK]

set_option maxRecDepth 20000 in
set_option maxHeartbeats 2000000 in
theorem cutline_more (l : List UInt8) (hn : ¬ lfAt l < l.length) (hl : l.length < 1026) (b o c : Nat) (w : World) (h : Rest w (some ⟨b, o, none⟩) c l) :
    Calls Tryd.prog 70 #[.slice (some ⟨b, o, none⟩) l.length c] w fun e w' => e = .returned (.tuple #[.string ⟨#[]⟩, .slice none 0 0, .int .i64 11]) ∧ w = w' := by
  have hi := fun cc => idx_lf cc l.length (Nat.le_refl _) (rest_cell h)
  rw [if_neg hn] at hi
  have HI := Lib.hid hi
  have hlc := h.bin.cap
  have hcm := h.bin.max
  unfold maxLen at hcm
  have hmin : min (l.length : Int) 1026 = (l.length : Int) := by omega
  have hd : decide ((l.length : Int) < 1026) = true := decide_eq_true (by omega)
  clear hn h hi
  go_enter Tryd.func70, Tryd.ntmps70
  go_wp2_with fail
  refine (HI.out _).mono ?_
  rintro e w1 ⟨rfl, rfl⟩
  go_wp2
  go_ret3
  exact ⟨rfl, rfl⟩

set_option maxRecDepth 20000 in
set_option maxHeartbeats 2000000 in
theorem cutline_far (l : List UInt8) (hn : ¬ lfAt l < 1026) (hl : ¬ l.length < 1026) (b o c : Nat) (w : World) (h : Rest w (some ⟨b, o, none⟩) c l) :
    Calls Tryd.prog 70 #[.slice (some ⟨b, o, none⟩) l.length c] w fun e w' => e = .returned (.tuple #[.string ⟨#[]⟩, .slice none 0 0, .int .i64 12]) ∧ w = w' := by
  have hi := fun cc => idx_lf cc 1026 (by omega) (rest_cell h)
  rw [if_neg hn] at hi
  have HI := Lib.hid hi
  have hlc := h.bin.cap
  have hcm := h.bin.max
  unfold maxLen at hcm
  have hmin : min (l.length : Int) 1026 = 1026 := by omega
  have hd : decide ((l.length : Int) < 1026) = false := decide_eq_false (by omega)
  have hcc : 1026 ≤ c := by omega
  clear hn h hi
  go_enter Tryd.func70, Tryd.ntmps70
  go_wp2_with fail
  refine (HI.out _).mono ?_
  rintro e w1 ⟨rfl, rfl⟩
  go_wp2
  go_ret3
  exact ⟨rfl, rfl⟩

set_option maxRecDepth 20000 in
set_option maxHeartbeats 4000000 in
theorem cutline_form (l : List UInt8) (k : Nat) (hlf : lfAt l = k) (h1 : k < l.length) (h2 : k < 1026) (hsf : Lib.hasSuffix (l.take (k + 1)) [13, 10] = false) (b o c : Nat) (w : World) (h : Rest w (some ⟨b, o, none⟩) c l) :
    Calls Tryd.prog 70 #[.slice (some ⟨b, o, none⟩) l.length c] w fun e w' => e = .returned (.tuple #[.string ⟨#[]⟩, .slice none 0 0, .int .i64 10]) ∧ Below w.heap.size w w' := by
  have hkl : k < l.length := by omega
  obtain ⟨K, hmin, hK, hkK⟩ : ∃ K : Nat, min (l.length : Int) 1026 = (K : Int) ∧ K ≤ l.length ∧ k < K := by
    by_cases h : l.length ≤ 1026
    · exact ⟨l.length, by omega, Nat.le_refl _, by omega⟩
    · exact ⟨1026, by omega, by omega, by omega⟩
  have H3 := Lib.hid (rest_cell h)
  have hi := fun cc => idx_lf cc K hK H3.out
  rw [hlf, if_pos hkK] at hi
  have HI := Lib.hid hi
  have hlc := h.bin.cap
  have hcx := h.bin.max
  have HMX := Lib.hid hcx
  unfold maxLen at hcx
  have hKc : K ≤ c := by omega
  have hkc : k + 1 ≤ c := by omega
  have hd0 : decide ((k : Int) < 0) = false := decide_eq_false (by omega)
  have HSF := Lib.hid hsf
  have HCS : Hid (∀ (W : World) (b2 : Nat), Below w.heap.size w W → W.cell? ⟨b2, 0, none⟩ = some (.int .u8 13) → W.cell? ⟨b2, 1, none⟩ = some (.int .u8 10) →
      Calls Tryd.prog 91 #[.slice (some ⟨b, o, none⟩) (k + 1) c, .slice (some ⟨b2, 0, none⟩) 2 2] W fun e w' => e = .returned (.tuple #[.slice (some ⟨b, o, none⟩) (k + 1) c, .bool false]) ∧ W = w') := Lib.hid fun W b2 hW c0 c1 => by
    refine (Tryd.bytes_CutSuffix b o (k + 1) c b2 0 2 2 (nums (l.take (k + 1))) [13, 10] W (nums_take_len l (k + 1) (by omega)) rfl hkc (by omega) (nums_cells (k + 1) (by omega) (fun j hj => (hW.cell (p := ⟨b, o + j, none⟩) (World.block_lt_of_cell? w _ (H3.out j hj))).trans (H3.out j hj))) ?_).mono ?_
    · intro i hi
      match i, hi with
      | 0, _ => exact c0
      | 1, _ => exact c1
    · rintro e w' ⟨rfl, rfl⟩
      refine ⟨?_, rfl⟩
      unfold Lib.bytesTrimSuffix
      rw [nums_bytes, show Lib.bytesOf [13, 10] = [13, 10] from rfl, HSF.out]
      rfl
  clear hlf hsf h hi hkl
  have kc : ∀ w1 : World, (convert 22 22 (.slice (some ⟨w1.heap.size, 0, none⟩) 2 2)).run Tryd.prog (w1.alloc (.cells #[.int .u8 13, .int .u8 10] 5)) = .ok (.slice (some ⟨w1.heap.size, 0, none⟩) 2 2) (w1.alloc (.cells #[.int .u8 13, .int .u8 10] 5 (2, 3))) := fun w1 => Lib.run_convert_bytes_const (P := Tryd.prog) w1 22 5 #[.int .u8 13, .int .u8 10] 2 2 Tryd.underlying22 Tryd.underlying5
  go_enter Tryd.func70, Tryd.ntmps70
  go_wp2_with fail
  refine (HI.out _).mono ?_
  rintro e w1 ⟨rfl, rfl⟩
  have hb2 := bA (Below.refl w.heap.size w) (.cells #[.int .u8 13, .int .u8 10] 5 (2, 3))
  have HB2 := Lib.hid hb2
  clear hb2
  go_wp2_with fail
  refine (HCS.out _ _ HB2.out (by rw [World.cell?_alloc_mark]; rfl) (by rw [World.cell?_alloc_mark]; rfl)).mono ?_
  rintro e w2 ⟨rfl, rfl⟩
  go_wp2
  go_ret3
  exact ⟨rfl, HB2.out⟩

set_option maxRecDepth 20000 in
set_option maxHeartbeats 4000000 in
theorem cutline_found (l : List UInt8) (k : Nat) (hlf : lfAt l = k) (h1 : k < l.length) (h2 : k < 1026) (hsf : Lib.hasSuffix (l.take (k + 1)) [13, 10] = true) (b o c : Nat) (w : World) (h : Rest w (some ⟨b, o, none⟩) c l) :
    Calls Tryd.prog 70 #[.slice (some ⟨b, o, none⟩) l.length c] w fun e w' => (∃ q d, e = .returned (.tuple #[.string (bs (l.take (k - 1))), .slice q (l.drop (k + 1)).length d, .int .i64 0]) ∧ Sub (some ⟨b, o, none⟩) c l q d (l.drop (k + 1))) ∧ Below w.heap.size w w' := by
  have hkl : k < l.length := by omega
  obtain ⟨K, hmin, hK, hkK⟩ : ∃ K : Nat, min (l.length : Int) 1026 = (K : Int) ∧ K ≤ l.length ∧ k < K := by
    by_cases h : l.length ≤ 1026
    · exact ⟨l.length, by omega, Nat.le_refl _, by omega⟩
    · exact ⟨1026, by omega, by omega, by omega⟩
  have H3 := Lib.hid (rest_cell h)
  have hi := fun cc => idx_lf cc K hK H3.out
  rw [hlf, if_pos hkK] at hi
  have HI := Lib.hid hi
  have hlc := h.bin.cap
  have hcx := h.bin.max
  have HMX := Lib.hid hcx
  unfold maxLen at hcx
  have hKc : K ≤ c := by omega
  have hkc : k + 1 ≤ c := by omega
  have hd0 : decide ((k : Int) < 0) = false := decide_eq_false (by omega)
  have HSF := Lib.hid hsf
  have HCS : Hid (∀ (W : World) (b2 : Nat), Below w.heap.size w W → W.cell? ⟨b2, 0, none⟩ = some (.int .u8 13) → W.cell? ⟨b2, 1, none⟩ = some (.int .u8 10) →
      Calls Tryd.prog 91 #[.slice (some ⟨b, o, none⟩) (k + 1) c, .slice (some ⟨b2, 0, none⟩) 2 2] W fun e w' => e = .returned (.tuple #[.slice (some ⟨b, o, none⟩) (k - 1) c, .bool true]) ∧ W = w') := Lib.hid fun W b2 hW c0 c1 => by
    refine (Tryd.bytes_CutSuffix b o (k + 1) c b2 0 2 2 (nums (l.take (k + 1))) [13, 10] W (nums_take_len l (k + 1) (by omega)) rfl hkc (by omega) (nums_cells (k + 1) (by omega) (fun j hj => (hW.cell (p := ⟨b, o + j, none⟩) (World.block_lt_of_cell? w _ (H3.out j hj))).trans (H3.out j hj))) ?_).mono ?_
    · intro i hi
      match i, hi with
      | 0, _ => exact c0
      | 1, _ => exact c1
    · rintro e w' ⟨rfl, rfl⟩
      refine ⟨?_, rfl⟩
      unfold Lib.bytesTrimSuffix
      rw [nums_bytes, show Lib.bytesOf [13, 10] = [13, 10] from rfl, HSF.out]
      rw [if_pos rfl]
      show Ending.returned (.tuple #[.slice (some ⟨b, o, none⟩) (k + 1 - 2) c, .bool true]) = _
      rw [show k + 1 - 2 = k - 1 by omega]
  clear hlf hsf h hi hkl
  have kc : ∀ w1 : World, (convert 22 22 (.slice (some ⟨w1.heap.size, 0, none⟩) 2 2)).run Tryd.prog (w1.alloc (.cells #[.int .u8 13, .int .u8 10] 5)) = .ok (.slice (some ⟨w1.heap.size, 0, none⟩) 2 2) (w1.alloc (.cells #[.int .u8 13, .int .u8 10] 5 (2, 3))) := fun w1 => Lib.run_convert_bytes_const (P := Tryd.prog) w1 22 5 #[.int .u8 13, .int .u8 10] 2 2 Tryd.underlying22 Tryd.underlying5
  have HCV : Hid (∀ W, Below w.heap.size w W → (convert 22 9 (.slice (some ⟨b, o, none⟩) (k - 1) c)).run Tryd.prog W = .ok (.string (bs (l.take (k - 1)))) W) := Lib.hid fun W hW => convert_rest c (k - 1) (by omega) (fun j hj => (hW.cell (p := ⟨b, o + j, none⟩) (World.block_lt_of_cell? w _ (H3.out j hj))).trans (H3.out j hj))
  have hdl : (l.drop (k + 1)).length = l.length - (k + 1) := List.length_drop
  rw [hdl]
  clear hdl
  have HSB := Lib.hid (fun q hq => sub_from (b := b) (o := o) (c := c) (l := l) (k + 1) (by omega) q hq)
  obtain ⟨q0, hq0, hck⟩ : ∃ q0, q0 = (if c = k + 1 then some (⟨b, o, none⟩ : Addr) else some ⟨b, o + (k + 1), none⟩) ∧ ((c = k + 1) = True ∧ q0 = some ⟨b, o, none⟩ ∨ (c = k + 1) = False ∧ q0 = some ⟨b, o + (k + 1), none⟩) := by
    refine ⟨_, rfl, ?_⟩
    by_cases hc : c = k + 1
    · exact .inl ⟨eq_true hc, by rw [if_pos hc]⟩
    · exact .inr ⟨eq_false hc, by rw [if_neg hc]⟩
  have HQ := Lib.hid hq0
  clear hq0
  rcases hck with ⟨hck, hq⟩ | ⟨hck, hq⟩
  all_goals
    subst hq
  all_goals
    go_enter Tryd.func70, Tryd.ntmps70
    go_wp2_with fail
    refine (HI.out _).mono ?_
    rintro e w1 ⟨rfl, rfl⟩
    have hb2 := bA (Below.refl w.heap.size w) (.cells #[.int .u8 13, .int .u8 10] 5 (2, 3))
    have HB2 := Lib.hid hb2
    clear hb2
    go_wp2_with fail
    refine (HCS.out _ _ HB2.out (by rw [World.cell?_alloc_mark]; rfl) (by rw [World.cell?_alloc_mark]; rfl)).mono ?_
    rintro e w2 ⟨rfl, rfl⟩
    generalize w.alloc (.cells #[.int .u8 13, .int .u8 10] 5 (2, 3)) = wB at *
    have hcv := HCV.out _ HB2.out
    have hcd := HCV.out _ (bD HB2.out)
    go_wp2_with fail
    go_region
    go_wp2
    go_ret3
    exact ⟨⟨_, _, rfl, HSB.out _ HQ.out⟩, bD HB2.out⟩

/-- request.cutLine, of any bytes. -/
theorem cutline_any (l : List UInt8) (p : Option Addr) (c : Nat) (w : World) (h : Rest w p c l) :
    Calls Tryd.prog 70 #[.slice p l.length c] w fun e w' => LineV p c l e (lineQ l) ∧ Below w.heap.size w w' := by
  rcases h with ⟨rfl, rfl, rfl⟩ | ⟨b, o, rfl, h1, h2, h3⟩
  · exact cutline_nil w
  have h : Rest w (some ⟨b, o, none⟩) c l := .inr ⟨b, o, rfl, h1, h2, h3⟩
  unfold lineQ
  by_cases hf : lfAt l < l.length ∧ lfAt l < 1026
  · rw [if_pos hf]
    have hs := lf_suffix hf.1
    by_cases hc : lfAt l ≠ 0 ∧ l[lfAt l - 1]? = some 13
    · rw [if_pos hc]
      rw [decide_eq_true hc] at hs
      exact cutline_found l _ rfl hf.1 hf.2 hs b o c w h
    · rw [if_neg hc]
      rw [decide_eq_false hc] at hs
      exact cutline_form l _ rfl hf.1 hf.2 hs b o c w h
  · rw [if_neg hf]
    by_cases hl : l.length < 1026
    · rw [if_pos hl]
      exact (cutline_more l (fun h5 => hf ⟨h5, by omega⟩) hl b o c w h).mono fun _ _ ⟨he, hw⟩ => ⟨he, hw ▸ Below.refl _ _⟩
    · rw [if_neg hl]
      exact (cutline_far l (fun h5 => hf ⟨by omega, h5⟩) hl b o c w h).mono fun _ _ ⟨he, hw⟩ => ⟨he, hw ▸ Below.refl _ _⟩

/-- What number answers. -/
def NumV (e : Ending) (a : Except Int Int) : Prop :=
  match a with
  | .ok n => e = .returned (.tuple #[.int .i64 n, .int .i64 0])
  | .error x => e = .returned (.tuple #[.int .i64 0, .int .i64 x])

set_option maxHeartbeats 1000000 in
theorem number_none (t : List UInt8) (htl : t.length ≤ 281474976710656) (hp : parseL t = none) (a b : Int) (w : World) (hL : Errs w) :
    Calls Tryd.prog 72 #[.string (bs t), .int .i64 a, .int .i64 b] w fun e w' => e = .returned (.tuple #[.int .i64 0, .int .i64 10]) ∧ Below w.heap.size w w' := by
  have HP := Lib.hid (parse_any t htl w hL)
  rw [hp] at HP
  clear hp hL
  go_enter Tryd.func72, Tryd.ntmps72
  go_wp2_with fail
  refine HP.out.mono ?_
  rintro e w1 ⟨rfl, hb1⟩
  go_wp2
  go_ret2
  exact ⟨rfl, hb1⟩

set_option maxHeartbeats 1000000 in
theorem number_some (t : List UInt8) (htl : t.length ≤ 281474976710656) (n : Int) (hp : parseL t = some n) (a b : Int) (v : Int) (x : Int) (hv : (n < a ∧ v = 0 ∧ x = 10) ∨ (¬ n < a ∧ b < n ∧ v = 0 ∧ x = 12) ∨ (¬ n < a ∧ ¬ b < n ∧ v = n ∧ x = 0)) (w : World) (hL : Errs w) :
    Calls Tryd.prog 72 #[.string (bs t), .int .i64 a, .int .i64 b] w fun e w' => e = .returned (.tuple #[.int .i64 v, .int .i64 x]) ∧ Below w.heap.size w w' := by
  have HP := Lib.hid (parse_any t htl w hL)
  rw [hp] at HP
  clear hp hL
  rcases hv with ⟨h1, rfl, rfl⟩ | ⟨h1, h2, rfl, rfl⟩ | ⟨h1, h2, rfl, rfl⟩
  · have d1 : decide (n < a) = true := decide_eq_true h1
    go_enter Tryd.func72, Tryd.ntmps72
    go_wp2_with fail
    refine HP.out.mono ?_
    rintro e w1 ⟨rfl, hb1⟩
    go_wp2
    go_ret2
    exact ⟨rfl, hb1⟩
  · have d1 : decide (n < a) = false := decide_eq_false h1
    have d2 : decide (b < n) = true := decide_eq_true h2
    go_enter Tryd.func72, Tryd.ntmps72
    go_wp2_with fail
    refine HP.out.mono ?_
    rintro e w1 ⟨rfl, hb1⟩
    go_wp2
    go_ret2
    exact ⟨rfl, hb1⟩
  · have d1 : decide (v < a) = false := decide_eq_false h1
    have d2 : decide (b < v) = false := decide_eq_false h2
    go_enter Tryd.func72, Tryd.ntmps72
    go_wp2_with fail
    refine HP.out.mono ?_
    rintro e w1 ⟨rfl, hb1⟩
    go_wp2
    go_ret2
    exact ⟨rfl, hb1⟩

/-- request.number. -/
theorem number_any (t : List UInt8) (htl : t.length ≤ 281474976710656) (a b : Int) (w : World) (hL : Errs w) :
    Calls Tryd.prog 72 #[.string (bs t), .int .i64 a, .int .i64 b] w fun e w' => NumV e (numQ t a b) ∧ Below w.heap.size w w' := by
  unfold numQ
  cases hp : parseL t with
  | none => exact number_none t htl hp a b w hL
  | some n =>
    simp only
    by_cases h1 : n < a
    · rw [if_pos h1]
      exact number_some t htl n hp a b 0 10 (.inl ⟨h1, rfl, rfl⟩) w hL
    rw [if_neg h1]
    by_cases h2 : b < n
    · rw [if_pos h2]
      exact number_some t htl n hp a b 0 12 (.inr (.inl ⟨h1, h2, rfl, rfl⟩)) w hL
    rw [if_neg h2]
    exact number_some t htl n hp a b n 0 (.inr (.inr ⟨h1, h2, rfl, rfl⟩)) w hL
end Go.Proofs.YtcikelcecfapcaaDoor

namespace Go.Proofs.YtcikelcecfapcaaDoor
open Go.RowKit Rp Rq

theorem bs_from1 (x : UInt8) (t : List UInt8) : (bs (x :: t)).extract 1 (bs (x :: t)).size = bs t := by
  apply ByteArray.ext
  rw [ByteArray.data_extract, bs_size]
  show (List.toArray (x :: t)).extract 1 (t.length + 1) = t.toArray
  simp

set_option maxHeartbeats 1000000 in
theorem lite_yes (x : UInt8) (t : List UInt8) (w : World) :
    Calls Tryd.prog 92 #[.string (bs (x :: t)), .string (bs [x])] w fun e w' => e = .returned (.tuple #[.string (bs t), .bool true]) ∧ w = w' := by
  have HP := Lib.hid (Tryd.stringslite_HasPrefix (bs (x :: t)) (bs [x]) w)
  rw [show Lib.hasPrefix (bs (x :: t)).data.toList (bs [x]).data.toList = true by simp [Lib.hasPrefix, bs]] at HP
  have h1 := bs_from1 x t
  have h2 : (bs [x]).size = 1 := rfl
  have h3 : 1 ≤ (bs (x :: t)).size := by rw [bs_size]; simp
  go_enter Tryd.func92, Tryd.ntmps92
  go_wp2_with fail
  refine HP.out.mono ?_
  rintro e w1 ⟨rfl, rfl⟩
  go_wp2
  go_ret2
  exact ⟨rfl, rfl⟩

set_option maxHeartbeats 1000000 in
theorem lite_no (x : UInt8) (t : List UInt8) (h : t.head? ≠ some x) (w : World) :
    Calls Tryd.prog 92 #[.string (bs t), .string (bs [x])] w fun e w' => e = .returned (.tuple #[.string (bs t), .bool false]) ∧ w = w' := by
  have HP := Lib.hid (Tryd.stringslite_HasPrefix (bs t) (bs [x]) w)
  rw [show Lib.hasPrefix (bs t).data.toList (bs [x]).data.toList = false by
    cases t with
    | nil => rfl
    | cons y t =>
      have hy : (x == y) = false := beq_eq_false_iff_ne.2 (fun e => h (by rw [e]; rfl))
      simp [Lib.hasPrefix, bs, List.isPrefixOf, hy]] at HP
  clear h
  go_enter Tryd.func92, Tryd.ntmps92
  go_wp2_with fail
  refine HP.out.mono ?_
  rintro e w1 ⟨rfl, rfl⟩
  go_wp2
  go_ret2
  exact ⟨rfl, rfl⟩

set_option maxHeartbeats 1000000 in
theorem cutpre_yes (x : UInt8) (t : List UInt8) (w : World) :
    Calls Tryd.prog 71 #[.string (bs (x :: t)), .string (bs [x])] w fun e w' => e = .returned (.tuple #[.string (bs t), .bool true]) ∧ w = w' := by
  have HP := Lib.hid (lite_yes x t w)
  go_enter Tryd.func71, Tryd.ntmps71
  go_wp2_with fail
  refine HP.out.mono ?_
  rintro e w1 ⟨rfl, rfl⟩
  go_wp2
  go_ret2
  exact ⟨rfl, rfl⟩

set_option maxHeartbeats 1000000 in
theorem cutpre_no (x : UInt8) (t : List UInt8) (h : t.head? ≠ some x) (w : World) :
    Calls Tryd.prog 71 #[.string (bs t), .string (bs [x])] w fun e w' => e = .returned (.tuple #[.string (bs t), .bool false]) ∧ w = w' := by
  have HP := Lib.hid (lite_no x t h w)
  clear h
  go_enter Tryd.func71, Tryd.ntmps71
  go_wp2_with fail
  refine HP.out.mono ?_
  rintro e w1 ⟨rfl, rfl⟩
  go_wp2
  go_ret2
  exact ⟨rfl, rfl⟩

/-- What cutWord answers. -/
def WordV (p : Option Addr) (c : Nat) (l : List UInt8) (e : Ending) (a : Except Int (Wd × List UInt8)) : Prop :=
  match a with
  | .ok (t, r) => ∃ q d, e = .returned (.tuple #[.string (bs t), .slice q r.length d, .int .i64 0]) ∧ Sub p c l q d r
  | .error x => e = .returned (.tuple #[.string ⟨#[]⟩, .slice none 0 0, .int .i64 x])

theorem lineQ_err {l : List UInt8} {e : Int} (h : lineQ l = .error e) : e = 10 ∨ e = 11 ∨ e = 12 := by
  unfold lineQ at h
  split at h
  · split at h
    · cases h
    · cases h; simp
  · split at h <;> (cases h; simp)
theorem lineQ_errne {l : List UInt8} {e : Int} (h : lineQ l = .error e) : (e != 0) = true := by
  rw [bne_iff_ne]
  rcases lineQ_err h with rfl | rfl | rfl <;> decide
theorem numQ_errne {s : Wd} {a b e : Int} (h : numQ s a b = .error e) : (e != 0) = true := by
  rw [bne_iff_ne]
  rcases numQ_err h with rfl | rfl <;> decide

set_option maxHeartbeats 1000000 in
theorem word_line (l : List UInt8) (x : Int) (hq : lineQ l = .error x) (p : Option Addr) (c : Nat) (w : World) (h : Rest w p c l) :
    Calls Tryd.prog 62 #[.slice p l.length c] w fun e w' => WordV p c l e (.error x) ∧ Below w.heap.size w w' := by
  have HL1 := Lib.hid (cutline_any l p c w h)
  rw [hq] at HL1
  have hx := lineQ_errne hq
  clear hq h
  go_enter Tryd.func62, Tryd.ntmps62
  go_wp2_with fail
  refine HL1.out.mono ?_
  rintro e w1 ⟨hv, hb1⟩
  obtain rfl := hv
  go_wp2
  go_ret3
  exact ⟨rfl, hb1⟩

set_option maxHeartbeats 1000000 in
theorem word_sign (l t r : List UInt8) (hq : lineQ l = .ok (t, r)) (ht : t.head? ≠ some 36) (p : Option Addr) (c : Nat) (w : World) (h : Rest w p c l) :
    Calls Tryd.prog 62 #[.slice p l.length c] w fun e w' => WordV p c l e (.error 10) ∧ Below w.heap.size w w' := by
  have HL1 := Lib.hid (cutline_any l p c w h)
  rw [hq] at HL1
  have HCP := Lib.hid (fun W => cutpre_no 36 t ht W)
  clear hq h ht
  go_enter Tryd.func62, Tryd.ntmps62
  go_wp2_with fail
  refine HL1.out.mono ?_
  rintro e w1 ⟨hv, hb1⟩
  obtain ⟨q, d, rfl, hs⟩ := hv
  go_wp2_with fail
  refine (HCP.out _).mono ?_
  rintro e w2 ⟨rfl, rfl⟩
  go_wp2
  go_ret3
  exact ⟨rfl, hb1⟩

set_option maxHeartbeats 1000000 in
theorem word_num (l t r : List UInt8) (hq : lineQ l = .ok (36 :: t, r)) (hl : l.length ≤ 1000000000) (x : Int) (hn : numQ t 0 4096 = .error x) (p : Option Addr) (c : Nat) (w : World) (hL : Errs w) (h : Rest w p c l) :
    Calls Tryd.prog 62 #[.slice p l.length c] w fun e w' => WordV p c l e (.error x) ∧ Below w.heap.size w w' := by
  have hlen := lineQ_len hq
  rw [List.length_cons] at hlen
  have HL1 := Lib.hid (cutline_any l p c w h)
  rw [hq] at HL1
  have HCP := Lib.hid (fun W => cutpre_yes 36 t W)
  have HN := Lib.hid (fun W (hW : Below w.heap.size w W) => number_any t (by omega) 0 4096 W (hL.on hW))
  rw [hn] at HN
  have hx := numQ_errne hn
  clear hq h hn hL hlen
  go_enter Tryd.func62, Tryd.ntmps62
  go_wp2_with fail
  refine HL1.out.mono ?_
  rintro e w1 ⟨hv, hb1⟩
  obtain ⟨q, d, rfl, hs⟩ := hv
  go_wp2_with fail
  refine (HCP.out _).mono ?_
  rintro e w2 ⟨rfl, rfl⟩
  go_wp2_with fail
  refine (HN.out _ hb1).mono ?_
  rintro e w3 ⟨hv, hb3⟩
  obtain rfl := hv
  go_wp2
  go_ret3
  exact ⟨rfl, bT hb1 hb3⟩

set_option maxHeartbeats 1000000 in
theorem word_short (l t r : List UInt8) (hq : lineQ l = .ok (36 :: t, r)) (hl : l.length ≤ 1000000000) (n : Nat) (hn : numQ t 0 4096 = .ok (n : Int)) (hr : r.length < n + 2) (p : Option Addr) (c : Nat) (w : World) (hL : Errs w) (h : Rest w p c l) :
    Calls Tryd.prog 62 #[.slice p l.length c] w fun e w' => WordV p c l e (.error 11) ∧ Below w.heap.size w w' := by
  have hlen := lineQ_len hq
  rw [List.length_cons] at hlen
  have HL1 := Lib.hid (cutline_any l p c w h)
  rw [hq] at HL1
  have HCP := Lib.hid (fun W => cutpre_yes 36 t W)
  have HN := Lib.hid (fun W (hW : Below w.heap.size w W) => number_any t (by omega) 0 4096 W (hL.on hW))
  rw [hn] at HN
  have hn4 := (numQ_ok hn).2.1
  have hd : decide ((r.length : Int) < (n : Int) + 2) = true := decide_eq_true (by omega)
  clear hq h hn hL hlen
  go_enter Tryd.func62, Tryd.ntmps62
  go_wp2_with fail
  refine HL1.out.mono ?_
  rintro e w1 ⟨hv, hb1⟩
  obtain ⟨q, d, rfl, hs⟩ := hv
  go_wp2_with fail
  refine (HCP.out _).mono ?_
  rintro e w2 ⟨rfl, rfl⟩
  go_wp2_with fail
  refine (HN.out _ hb1).mono ?_
  rintro e w3 ⟨hv, hb3⟩
  obtain rfl := hv
  go_wp2
  go_ret3
  exact ⟨rfl, bT hb1 hb3⟩

/-- What stands behind a word's first line. -/
def bodyK (n : Nat) (r : List UInt8) : Except Int (Wd × List UInt8) := if crlf (r.drop n) then .ok (r.take n, r.drop (n + 2)) else .error 10

set_option maxRecDepth 20000 in
set_option maxHeartbeats 4000000 in
theorem word_body (l t r : List UInt8) (hq : lineQ l = .ok (36 :: t, r)) (hl : l.length ≤ 1000000000) (n : Nat) (hn : numQ t 0 4096 = .ok (n : Int)) (hr : ¬ r.length < n + 2) (p : Option Addr) (c : Nat) (w : World) (hL : Errs w) (h : Rest w p c l) :
    Calls Tryd.prog 62 #[.slice p l.length c] w fun e w' => WordV p c l e (bodyK n r) ∧ Below w.heap.size w w' := by
  have hlen := lineQ_len hq
  rw [List.length_cons] at hlen
  have HL1 := Lib.hid (cutline_any l p c w h)
  rw [hq] at HL1
  have HCP := Lib.hid (fun W => cutpre_yes 36 t W)
  have HN := Lib.hid (fun W (hW : Below w.heap.size w W) => number_any t (by omega) 0 4096 W (hL.on hW))
  rw [hn] at HN
  have hn4 := (numQ_ok hn).2.1
  have hd : decide ((r.length : Int) < (n : Int) + 2) = false := decide_eq_false (by omega)
  have hr9 : r.length ≤ 1000000000 := by omega
  have HH := Lib.hid h
  clear hq h hn hL hlen
  have kc : ∀ w1 : World, (convert 22 22 (.slice (some ⟨w1.heap.size, 0, none⟩) 2 2)).run Tryd.prog (w1.alloc (.cells #[.int .u8 13, .int .u8 10] 5)) = .ok (.slice (some ⟨w1.heap.size, 0, none⟩) 2 2) (w1.alloc (.cells #[.int .u8 13, .int .u8 10] 5 (2, 3))) := fun w1 => Lib.run_convert_bytes_const (P := Tryd.prog) w1 22 5 #[.int .u8 13, .int .u8 10] 2 2 Tryd.underlying22 Tryd.underlying5
  go_enter Tryd.func62, Tryd.ntmps62
  go_wp2_with fail
  refine HL1.out.mono ?_
  rintro e w1 ⟨hv, hb1⟩
  obtain ⟨q, d, rfl, hs⟩ := hv
  have hrest : Rest w1 q d r := hs w1 (HH.out.below hb1)
  rcases hrest with ⟨-, hr0, -⟩ | ⟨b, o, rfl, h1, h2, h3⟩
  · rw [hr0] at hr; simp at hr
  have HS := Lib.hid hs
  have H3 := Lib.hid h3
  have HM2 := Lib.hid h2
  have hdx := h2
  unfold maxLen at hdx
  have hdn : (d = n) = False := eq_false (by omega)
  have hnd : n ≤ d := by omega
  have hnr : n ≤ r.length := by omega
  clear hs h3 h2
  go_wp2_with fail
  refine (HCP.out _).mono ?_
  rintro e w2 ⟨rfl, rfl⟩
  go_wp2_with fail
  refine (HN.out _ hb1).mono ?_
  rintro e w3 ⟨hv, hb3⟩
  obtain rfl := hv
  have hb4 : Below w1.heap.size w1 (w3.alloc (.cells #[.int .u8 13, .int .u8 10] 5 (2, 3))) := bA hb3 _
  have hcp := cutprefix_any (rest_from (w := w1) (c := d) n hnr h1 HM2.out H3.out (some ⟨b, o + n, none⟩) (by rw [if_neg (by omega)])) hb4 w3.heap.size 2 (by rw [World.cell?_alloc_mark]; rfl) (by rw [World.cell?_alloc_mark]; rfl)
  rw [List.length_drop] at hcp
  have HQ := Lib.hid hcp
  have HB4 := Lib.hid (bT hb1 hb4)
  have HCV := Lib.hid (convert_rest (w := w3.alloc (.cells #[.int .u8 13, .int .u8 10] 5 (2, 3))) d n hnr (fun j hj => (hb4.cell (p := ⟨b, o + j, none⟩) (World.block_lt_of_cell? w1 _ (H3.out j hj))).trans (H3.out j hj)))
  clear hcp hb4
  go_wp2_with fail
  refine HQ.out.mono ?_
  rintro e w4 ⟨rfl, hv⟩
  generalize w3.alloc (.cells #[.int .u8 13, .int .u8 10] 5 (2, 3)) = w4 at *
  have hcv := HCV.out
  rcases hv with ⟨hx, q', d', rfl, hq'⟩ | ⟨hx, rfl⟩
  · have HX := Lib.hid hx
    have HSQ := Lib.hid hq'
    clear hx hq'
    go_wp2
    go_ret3
    rw [bodyK, if_pos HX.out]
    refine ⟨⟨q', d', ?_, ?_⟩, HB4.out⟩
    · rw [List.length_drop]
      congr 5
    · have := HSQ.out
      rw [List.drop_drop] at this
      exact HS.out.trans ((sub_from n hnr (some ⟨b, o + n, none⟩) (by rw [if_neg (by omega)])).trans this)
  · have HX := Lib.hid hx
    clear hx
    go_wp2
    go_ret3
    rw [bodyK, if_neg (by rw [HX.out]; decide)]
    exact ⟨rfl, HB4.out⟩

/-- request.cutWord, of any bytes. -/
theorem cutword_any (l : List UInt8) (hl : l.length ≤ 1000000000) (p : Option Addr) (c : Nat) (w : World) (hL : Errs w) (h : Rest w p c l) :
    Calls Tryd.prog 62 #[.slice p l.length c] w fun e w' => WordV p c l e (wordQ l) ∧ Below w.heap.size w w' := by
  unfold wordQ
  cases hq : lineQ l with
  | error x => exact word_line l x hq p c w h
  | ok z =>
    obtain ⟨t, r⟩ := z
    cases t with
    | nil => exact word_sign l [] r hq (by simp) p c w h
    | cons x t =>
      simp only
      by_cases hx : x = 36
      · subst hx
        rw [if_pos rfl]
        cases hn : numQ t 0 4096 with
        | error y => exact word_num l t r hq hl y hn p c w hL h
        | ok n =>
          obtain ⟨N, rfl⟩ := Int.eq_ofNat_of_zero_le (numQ_ok hn).1
          simp only
          rw [Int.toNat_natCast, bodyQ]
          by_cases hr : r.length < N + 2
          · rw [if_pos hr]
            exact word_short l t r hq hl N hn hr p c w hL h
          · rw [if_neg hr]
            exact word_body l t r hq hl N hn hr p c w hL h
      · rw [if_neg hx]
        exact word_sign l (x :: t) r hq (by simpa using hx) p c w h
end Go.Proofs.YtcikelcecfapcaaDoor
