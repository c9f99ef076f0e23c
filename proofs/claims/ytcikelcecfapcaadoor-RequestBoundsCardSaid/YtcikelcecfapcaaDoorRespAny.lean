/-
  What strings.ContainsAny answers of "\r\n", in any string.
-/
import Derived.Test.YtcikelcecfapcaaDoorRespRune
import Derived.Test.YtcikelcecfapcaaDoorRespRight
namespace Go.Proofs.YtcikelcecfapcaaDoor
open Go.RowKit Rp

theorem get_at (s : ByteArray) (i : Nat) (h : i < s.size) : s.get! i = s[i] := by
  show s.data[i]! = s.data[i]
  exact getElem!_pos s.data i h

theorem dec_lo (s : ByteArray) (i : Nat) (h : i < s.size) (hx : s[i].toNat < 128) : Utf8.decode s i = (s[i].toNat, 1) := by
  rw [Lib.decode_at, get_at s i h]
  unfold Lib.decodeN
  rw [if_pos hx]

theorem decN_hi (n b0 b1 b2 b3 : Nat) (h : 128 ≤ b0) (h0 : b0 < 256) : 128 ≤ (Lib.decodeN n b0 b1 b2 b3).1 ∧ ((Lib.decodeN n b0 b1 b2 b3).1 < 55296 ∨ (57343 < (Lib.decodeN n b0 b1 b2 b3).1 ∧ (Lib.decodeN n b0 b1 b2 b3).1 ≤ 1114111)) ∧
    (Lib.decodeN n b0 b1 b2 b3).2 ≤ 4 ∧ (1 < (Lib.decodeN n b0 b1 b2 b3).2 → 1 < n ∧ 128 ≤ b1) ∧ (2 < (Lib.decodeN n b0 b1 b2 b3).2 → 2 < n ∧ 128 ≤ b2) ∧ (3 < (Lib.decodeN n b0 b1 b2 b3).2 → 3 < n ∧ 128 ≤ b3) := by
  unfold Lib.decodeN
  repeat' split
  all_goals (simp only; omega)

/-- From a byte beyond ASCII on: a rune beyond ASCII, none of whose bytes is CR or LF. -/
theorem dec_hi (s : ByteArray) (i : Nat) (h : i < s.size) (hx : 128 ≤ s[i].toNat) :
    128 ≤ (Utf8.decode s i).1 ∧ ((Utf8.decode s i).1 < 55296 ∨ (57343 < (Utf8.decode s i).1 ∧ (Utf8.decode s i).1 ≤ 1114111)) ∧ i + (Utf8.decode s i).2 ≤ s.size ∧
    ∀ j (hj : i + j < s.size), j < (Utf8.decode s i).2 → 128 ≤ s[i + j].toNat := by
  rw [Lib.decode_at, get_at s i h]
  have H := decN_hi (s.size - i) s[i].toNat (s.get! (i + 1)).toNat (s.get! (i + 2)).toNat (s.get! (i + 3)).toNat hx (UInt8.toNat_lt _)
  generalize Lib.decodeN (s.size - i) s[i].toNat (s.get! (i + 1)).toNat (s.get! (i + 2)).toNat (s.get! (i + 3)).toNat = D at *
  obtain ⟨a, b, c, d, e, f⟩ := H
  refine ⟨a, b, by omega, ?_⟩
  intro j hj hjk
  match j, hj, hjk with
  | 0, _, _ => exact hx
  | 1, hj, hjk => rw [← get_at s (i + 1) hj]; exact (d hjk).2
  | 2, hj, hjk => rw [← get_at s (i + 2) hj]; exact (e hjk).2
  | 3, hj, hjk => rw [← get_at s (i + 3) hj]; exact (f hjk).2
  | j + 4, _, hjk => omega

theorem calm_skip (s : ByteArray) (i : Nat) : ∀ (k : Nat), i + k ≤ s.size → (∀ j (hj : i + j < s.size), j < k → 128 ≤ s[i + j].toNat) → calm s.data.toList = calm (s.data.toList.drop i) → calm s.data.toList = calm (s.data.toList.drop (i + k))
  | 0, _, _, h => h
  | k + 1, hk, ha, h => by
    have h1 := calm_skip s i k (by omega) (fun j hj hjk => ha j hj (by omega)) h
    have hx := ha k (by omega) (by omega)
    exact calm_next s (i + k) (by omega) h1 (by rw [beq_eq_false_iff_ne]; intro e; rw [e] at hx; simp at hx) (by rw [beq_eq_false_iff_ne]; intro e; rw [e] at hx; simp at hx)

theorem indexAny_calm : ∀ l : List UInt8, (-1 ≤ Lib.indexAny l [13, 10] ∧ Lib.indexAny l [13, 10] < l.length + 1) ∧ decide (0 ≤ Lib.indexAny l [13, 10]) = !calm l
  | [] => ⟨⟨by decide, by decide⟩, by decide⟩
  | b :: l => by
    obtain ⟨⟨h0, h1⟩, h2⟩ := indexAny_calm l
    rw [Lib.indexAny]
    by_cases hb : [13, 10].contains b = true
    · rw [if_pos hb]
      refine ⟨⟨by omega, by simp only [List.length_cons]; omega⟩, ?_⟩
      have : calm (b :: l) = false := by
        rw [calm, List.all_cons]
        have hb' : b = 13 ∨ b = 10 := by simpa using hb
        rcases hb' with rfl | rfl <;> simp
      rw [this]; rfl
    · rw [if_neg hb]
      have hb' : (b != 13 && b != 10) = true := by simpa using hb
      have e : calm (b :: l) = calm l := by rw [calm, List.all_cons, hb', Bool.true_and]; rfl
      rw [e, ← h2]
      by_cases hm : Lib.indexAny l [13, 10] = -1
      · rw [hm, if_pos (by rfl)]
        exact ⟨⟨by omega, by simp only [List.length_cons]; omega⟩, by decide⟩
      · have hm' : (Lib.indexAny l [13, 10] == -1) = false := by simpa using hm
        rw [hm']
        simp only [Bool.false_eq_true, if_false]
        refine ⟨⟨by omega, by simp only [List.length_cons]; omega⟩, ?_⟩
        rw [decide_eq_decide]
        omega

/-- A place at which there is one, or none. -/
def Place (l : List UInt8) (w : World) (e : Ending) (w' : World) : Prop := ∃ v : Int, e = .returned (.int .i64 v) ∧ -1 ≤ v ∧ v < l.length + 1 ∧ decide (0 ≤ v) = !calm l ∧ Below w.heap.size w w'

theorem info_set : (Tryd.prog.info? 121).map (fun i => (i.zero, i.size)) = some (some (.agg (Array.replicate 256 (.bool false))), 256) := by kernel_rfl

theorem place_long (s : ByteArray) (h8 : 8 < s.size) (hs : s.size < 4294967281) (w : World) : Calls Tryd.prog 68 #[.string s, .string ⟨#[13, 10]⟩] w (Place s.data.toList w) := by
  refine (Tryd.strings_IndexAny_long (zero_of_info info_set).1 s ⟨#[13, 10]⟩ w (Nat.le_refl 2) h8 hs (by decide) ?_).mono ?_
  · intro j b hb
    match j, hb with
    | 0, hb => simp at hb; subst hb; decide
    | 1, hb => simp at hb; subst hb; decide
  · rintro e w' ⟨rfl, rfl⟩
    obtain ⟨⟨h0, h1⟩, h2⟩ := indexAny_calm s.data.toList
    exact ⟨_, rfl, h0, h1, h2, ((Below.refl _ w).alloc (Nat.le_refl _) _).alloc (by simp) _⟩

theorem place_here {S : ByteArray} {i : Nat} {w w' : World} (hi : i < S.size) (hc : calm S.data.toList = false) (hb : Below w.heap.size w w') : Place S.data.toList w (.returned (.int .i64 (i : Int))) w' := by
  have hl : S.data.toList.length = S.size := by simp
  refine ⟨_, rfl, by omega, by omega, ?_, hb⟩
  rw [hc]
  exact decide_eq_true (by omega)
theorem place_none {S : ByteArray} {w w' : World} (hc : calm S.data.toList = true) (hb : Below w.heap.size w w') : Place S.data.toList w (.returned (.int .i64 (-1))) w' := by
  refine ⟨_, rfl, by omega, by omega, ?_, hb⟩
  rw [hc]; rfl

set_option maxRecDepth 100000 in
set_option maxHeartbeats 2000000 in
theorem place_short (s : ByteArray) (h8 : s.size ≤ 8) (w : World) : Calls Tryd.prog 68 #[.string s, .string ⟨#[13, 10]⟩] w (Place s.data.toList w) := by
  have h8z : decide ((8 : Int) < (s.size : Int)) = false := decide_eq_false (by omega)
  go_enter Tryd.func68, Tryd.ntmps68
  go_wp2_with (go_at_call 87; refine (Tryd.strings_shouldUseASCIISet _ _).mono ?_; rintro e w' ⟨rfl, hw⟩; rw [hw, h8z])
  go_loopg [9, 10] s.size (fun g _ _ wx => ∃ i : Nat, wx.heap[w.heap.size]? = some (.stringIter s i) ∧ Below w.heap.size w wx ∧ s.size ≤ i + g ∧ Hid (calm s.data.toList = calm (s.data.toList.drop i)))
  case atStart => exact ⟨0, World.iter_heap w s 0, (Below.refl _ w).alloc (Nat.le_refl _) _, by omega, Lib.hid rfl⟩
  case round =>
    obtain ⟨i, hit, hbw, hfu, HM⟩ := hrel
    by_cases hi : i < s.size
    · obtain ⟨g', rfl⟩ : ∃ g', gk = g' + 1 := ⟨gk - 1, by omega⟩
      have hnx : ∀ ty, (Instr.next (.pointer (some ⟨w.heap.size, 0, none⟩)) true ty).run Tryd.prog wr = _ := fun ty => Lib.run_next_any_at wr w.heap.size s i ty hit hi
      by_cases hx : s[i].toNat < 128
      · rw [dec_lo s i hi hx] at hnx
        have hit2 := Lib.iterAt_heap wr w.heap.size s i (i + 1) hit
        have hbw2 := Lib.below_iterAt hbw (k := w.heap.size) (Nat.le_refl _) s (i + 1)
        obtain ⟨W, hWd⟩ : ∃ W, wr.iterAt w.heap.size s (i + 1) = W := ⟨_, rfl⟩
        simp only [hWd] at hnx hit2 hbw2
        have hir := ir_ascii s[i].toNat hx
        cases h1 : (s[i] == 13)
        · cases h2 : (s[i] == 10)
          · have HN := Lib.hid (calm_next s i hi HM.out h1 h2)
            have hv : Lib.indexByte [13, 10] (((s[i].toNat : Nat) : Int)).toNat.toUInt8 = -1 := by
              have e : (((s[i].toNat : Nat) : Int)).toNat.toUInt8 = s[i] := by simp
              rw [e, Lib.indexByte, Lib.indexByte, Lib.indexByte]
              have e1 : ((13 : UInt8) == s[i]) = false := by rw [beq_eq_false_iff_ne] at h1 ⊢; exact fun h => h1 h.symm
              have e2 : ((10 : UInt8) == s[i]) = false := by rw [beq_eq_false_iff_ne] at h2 ⊢; exact fun h => h2 h.symm
              rw [e1, e2]; rfl
            rw [hv] at hir
            have HIR := Lib.hid hir
            clear hir h1 h2 hv
            go_wp2_with (go_at_call 86; refine (HIR.out _).mono ?_; rintro e w' ⟨rfl, rfl⟩)
            go_roundg g'
            case measure => omega
            case rel => exact ⟨i + 1, hit2, hbw2, by omega, HN⟩
          · have HN := Lib.hid (calm_stop s i hi HM.out (.inr h2))
            have hv : Lib.indexByte [13, 10] (((s[i].toNat : Nat) : Int)).toNat.toUInt8 = 1 := by
              have e : (((s[i].toNat : Nat) : Int)).toNat.toUInt8 = s[i] := by simp
              rw [e, eq_of_beq h2]; rfl
            rw [hv] at hir
            have HIR := Lib.hid hir
            clear hir h1 h2 hv
            go_wp2_with (go_at_call 86; refine (HIR.out _).mono ?_; rintro e w' ⟨rfl, rfl⟩)
            go_ret
            exact place_here hi HN.out hbw2
        · have HN := Lib.hid (calm_stop s i hi HM.out (.inl h1))
          have hv : Lib.indexByte [13, 10] (((s[i].toNat : Nat) : Int)).toNat.toUInt8 = 0 := by
            have e : (((s[i].toNat : Nat) : Int)).toNat.toUInt8 = s[i] := by simp
            rw [e, eq_of_beq h1]; rfl
          rw [hv] at hir
          have HIR := Lib.hid hir
          clear hir h1 hv
          go_wp2_with (go_at_call 86; refine (HIR.out _).mono ?_; rintro e w' ⟨rfl, rfl⟩)
          go_ret
          exact place_here hi HN.out hbw2
      · obtain ⟨d1, d2, d3, d4⟩ := dec_hi s i hi (by omega)
        have HN := Lib.hid (calm_skip s i _ d3 d4 HM.out)
        have hK := Lib.width_pos s i
        obtain ⟨R, hR⟩ : ∃ R, (Utf8.decode s i).1 = R := ⟨_, rfl⟩
        obtain ⟨K, hKk⟩ : ∃ K, (Utf8.decode s i).2 = K := ⟨_, rfl⟩
        rw [hR] at d1 d2
        rw [hKk] at d3 hK HN
        rw [hR, hKk] at hnx
        clear d4 hR hKk
        have hit2 := Lib.iterAt_heap wr w.heap.size s i (i + K) hit
        have hbw2 := Lib.below_iterAt hbw (k := w.heap.size) (Nat.le_refl _) s (i + K)
        obtain ⟨W, hWd⟩ : ∃ W, wr.iterAt w.heap.size s (i + K) = W := ⟨_, rfl⟩
        simp only [hWd] at hnx hit2 hbw2
        have hir : Calls Tryd.prog 86 #[.string ⟨#[13, 10]⟩, .int .i32 R] W fun e w' => e = .returned (.int .i64 (-1)) ∧ Below W.heap.size W w' := by
          by_cases h5 : R = 65533
          · subst h5; exact ir_err W
          · exact ir_big R d1 d2 h5 W
        have HIR := Lib.hid hir
        clear hir d1 d2
        have hil : w.heap.size < W.heap.size := (Array.getElem?_eq_some_iff.1 hit2).1
        go_wp2_with (go_at_call 86; refine HIR.out.mono ?_; rintro e w' ⟨rfl, hbI⟩)
        go_roundg g'
        case measure => omega
        case rel => exact ⟨i + K, (hbI.block _ hil).trans hit2, hbw2.trans (hbI.mono hbw2.size), by omega, HN⟩
    · have hnx : ∀ ty, (Instr.next (.pointer (some ⟨w.heap.size, 0, none⟩)) true ty).run Tryd.prog wr = _ := fun ty => Lib.run_next_end_at wr w.heap.size s i ty hit hi
      have HN := Lib.hid (show calm s.data.toList = true by rw [HM.out, List.drop_eq_nil_of_le (by simp; omega)]; rfl)
      go_wp2
      go_ret
      exact place_none HN.out hbw

theorem place_any (s : ByteArray) (hs : s.size < 4294967281) (w : World) : Calls Tryd.prog 68 #[.string s, .string ⟨#[13, 10]⟩] w (Place s.data.toList w) := by
  by_cases h8 : 8 < s.size
  · exact place_long s h8 hs w
  · exact place_short s (by omega) w

set_option maxHeartbeats 400000 in
/-- strings.ContainsAny(s, "\r\n"), s any string. -/
theorem contains_any (s : ByteArray) (hs : s.size < 4294967281) (w : World) : Calls Tryd.prog 58 #[.string s, .string ⟨#[13, 10]⟩] w fun e w' => e = .returned (.bool (!calm s.data.toList)) ∧ Below w.heap.size w w' := by
  go_enter Tryd.func58, Tryd.ntmps58
  go_wp2_with fail
  refine (place_any s hs w).mono ?_
  rintro e w' ⟨v, rfl, h0, h1, h2, hb⟩
  have h0' : decide (v ≥ 0) = !calm s.data.toList := h2
  go_wp2
  go_ret
  exact ⟨rfl, hb⟩
end Go.Proofs.YtcikelcecfapcaaDoor
