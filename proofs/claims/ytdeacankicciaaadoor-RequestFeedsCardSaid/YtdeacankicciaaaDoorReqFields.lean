/-
  strings.FieldsFunc at the byte 32: the words of a line.
-/
import Derived.Test.YtdeacankicciaaaDoorReqMem
import Derived.Lib.FieldsP
import Derived.Lib.TrimUEq
namespace Go.Proofs.YtdeacankicciaaaDoor
open Go.RowKit Rp Rq Go.Lib

theorem fieldsQ_space (r : List UInt8) (cur : Wd) : fieldsQ (32 :: r) cur = if cur = [] then fieldsQ r [] else cur :: fieldsQ r [] := by
  rw [fieldsQ, if_pos rfl]
theorem fieldsQ_many : ∀ (u r : List UInt8) (cur : Wd), (∀ x ∈ u, x ≠ 32) → fieldsQ (u ++ r) cur = fieldsQ r (cur ++ u)
  | [], r, cur, _ => by simp
  | x :: u, r, cur, h => by
    rw [List.cons_append, fieldsQ, if_neg (h x List.mem_cons_self), fieldsQ_many u r (cur ++ [x]) (fun y hy => h y (List.mem_cons_of_mem _ hy)), List.append_assoc]
    rfl
theorem fieldsQ_ne : ∀ (l : List UInt8) (w : Wd), ∀ x ∈ fieldsQ l w, x ≠ []
  | [], w, x, h => by
    rw [fieldsQ] at h
    split at h
    · simp at h
    · simp at h; rw [h]; assumption
  | c :: s, w, x, h => by
    rw [fieldsQ] at h
    split at h
    · split at h
      · exact fieldsQ_ne s [] x h
      · rcases List.mem_cons.1 h with rfl | h
        · assumption
        · exact fieldsQ_ne s [] x h
    · exact fieldsQ_ne s _ x h

theorem dN_32 (n b0 b1 b2 b3 : Nat) (h : (decodeN n b0 b1 b2 b3).1 = 32) : b0 = 32 ∧ (decodeN n b0 b1 b2 b3).2 = 1 := by
  unfold decodeN at h ⊢
  repeat' split at h
  all_goals simp_all
  all_goals omega
theorem dN_ne (n b0 b1 b2 b3 : Nat) (h : (decodeN n b0 b1 b2 b3).1 ≠ 32) : b0 ≠ 32 ∧ (2 ≤ (decodeN n b0 b1 b2 b3).2 → b1 ≠ 32) ∧ (3 ≤ (decodeN n b0 b1 b2 b3).2 → b2 ≠ 32) ∧ (4 ≤ (decodeN n b0 b1 b2 b3).2 → b3 ≠ 32) ∧ (decodeN n b0 b1 b2 b3).2 ≤ 4 := by
  unfold decodeN at h ⊢
  repeat' split
  all_goals (simp_all; try omega)

theorem getD_drop (l : List UInt8) (pos j : Nat) (h : pos + j < l.length) : (l.drop pos)[j]'(by rw [List.length_drop]; omega) = l.getD (pos + j) 0 := by
  rw [List.getElem_drop, List.getD_eq_getElem?_getD, List.getElem?_eq_getElem h]
  rfl
theorem rune_32 (s : ByteArray) (pos : Nat) (h : pos < s.data.toList.length) (hr : (Utf8.decode s pos).1 = 32) : s.data.toList.drop pos = 32 :: s.data.toList.drop (pos + 1) ∧ (Utf8.decode s pos).2 = 1 := by
  rw [decode_N] at hr ⊢
  obtain ⟨h0, h1⟩ := dN_32 _ _ _ _ _ hr
  refine ⟨?_, h1⟩
  rw [List.drop_eq_getElem_cons h]
  congr 1
  rw [List.getD_eq_getElem?_getD, List.getElem?_eq_getElem h] at h0
  exact UInt8.toNat_inj.1 h0
theorem rune_ne (s : ByteArray) (pos : Nat) (hr : (Utf8.decode s pos).1 ≠ 32) : ∀ x ∈ (s.data.toList.drop pos).take (Utf8.decode s pos).2, x ≠ 32 := by
  rw [decode_N] at hr ⊢
  obtain ⟨h0, h1, h2, h3, h4⟩ := dN_ne _ _ _ _ _ hr
  intro x hx
  obtain ⟨j, hj, rfl⟩ := List.getElem_of_mem hx
  rw [List.length_take, List.length_drop] at hj
  rw [List.getElem_take, getD_drop _ _ _ (by omega)]
  have key : ∀ y : UInt8, y.toNat ≠ 32 → y ≠ 32 := fun y hy e => hy (by rw [e]; rfl)
  match j, hj with
  | 0, _ => exact key _ h0
  | 1, hj => exact key _ (h1 (by omega))
  | 2, hj => exact key _ (h2 (by omega))
  | 3, hj => exact key _ (h3 (by omega))
  | j + 4, hj => omega

def is32 (r : Nat) : Bool := decide (r = 32)
/-- THE PASS OVER THE RUNES. -/
theorem spans32 (s : ByteArray) : ∀ (f pos : Nat) (st : Option Nat) (acc : List (Nat × Nat)), s.size ≤ pos + f → pos ≤ s.size → (∀ a, st = some a → a < pos) →
    acc.map (fun p => pieceU s.data.toList p.1 p.2) ++ fieldsQ (s.data.toList.drop pos) (openPiece s.data.toList st pos) = (closeSpans s (spansFromP is32 s f pos st acc)).map (fun p => pieceU s.data.toList p.1 p.2)
  | 0, pos, st, acc, h, hp, hst => by
    obtain rfl : pos = s.size := by omega
    have hd : s.data.toList.drop s.size = [] := List.drop_eq_nil_of_le (by rw [← size_eq]; exact Nat.le_refl _)
    rw [hd, fieldsQ]
    cases st with
    | none => simp [spansFromP, closeSpans, openPiece]
    | some a =>
      have := pieceU_ne s.data.toList a s.size (hst a rfl) (by rw [← size_eq]; exact Nat.le_refl _)
      simp [spansFromP, closeSpans, openPiece, this]
  | f + 1, pos, st, acc, h, hp, hst => by
    by_cases hlt : pos < s.size
    · have hw := width_pos s pos
      have hwn : pos + (Utf8.decode s pos).2 ≤ s.size := by
        have := decodeN_le_n' (s.size - pos) (s.get! pos).toNat (s.get! (pos + 1)).toNat (s.get! (pos + 2)).toNat (s.get! (pos + 3)).toNat (by omega)
        rw [← decode_at] at this
        omega
      simp only [spansFromP, if_pos hlt]
      cases hsp : is32 (Utf8.decode s pos).1 with
      | true =>
        obtain ⟨hd, h1⟩ := rune_32 s pos (by rw [← size_eq]; exact hlt) (of_decide_eq_true hsp)
        rw [h1] at hwn
        rw [hd, fieldsQ_space]
        simp only [if_true, h1]
        cases st with
        | none =>
          have ih := spans32 s f (pos + 1) none acc (by omega) hwn (fun a h => by cases h)
          simpa [openPiece] using ih
        | some a =>
          have hpn := pieceU_ne s.data.toList a pos (hst a rfl) (by rw [← size_eq]; omega)
          have ih := spans32 s f (pos + 1) none (acc ++ [(a, pos)]) (by omega) hwn (fun a h => by cases h)
          simpa [openPiece, hpn] using ih
      | false =>
        have hne := rune_ne s pos (of_decide_eq_false hsp)
        have hsplit : fieldsQ (s.data.toList.drop pos) (openPiece s.data.toList st pos) = fieldsQ (s.data.toList.drop (pos + (Utf8.decode s pos).2)) (openPiece s.data.toList st pos ++ (s.data.toList.drop pos).take (Utf8.decode s pos).2) := by
          rw [← fieldsQ_many _ _ _ hne, ← List.drop_drop, List.take_append_drop]
        rw [hsplit]
        simp only [Bool.false_eq_true, if_false]
        cases st with
        | none =>
          have ih := spans32 s f (pos + (Utf8.decode s pos).2) (some pos) acc (by omega) hwn (fun a h => by cases h; omega)
          have e : ([] : List UInt8) ++ (s.data.toList.drop pos).take (Utf8.decode s pos).2 = pieceU s.data.toList pos (pos + (Utf8.decode s pos).2) := by
            unfold pieceU
            rw [List.nil_append, Nat.add_sub_cancel_left]
          simp only [openPiece] at ih ⊢
          rw [e]
          exact ih
        | some a =>
          have ih := spans32 s f (pos + (Utf8.decode s pos).2) (some a) acc (by omega) hwn (fun b h => by cases h; have := hst a rfl; omega)
          simp only [openPiece] at ih ⊢
          rw [pieceU_grow _ _ _ _ (Nat.le_of_lt (hst a rfl))]
          exact ih
    · obtain rfl : pos = s.size := by omega
      have hd : s.data.toList.drop s.size = [] := List.drop_eq_nil_of_le (by rw [← size_eq]; exact Nat.le_refl _)
      rw [hd, fieldsQ, spansFromP_end _ s _ _ _ _ hlt]
      cases st with
      | none => simp [closeSpans, openPiece]
      | some a =>
        have := pieceU_ne s.data.toList a s.size (hst a rfl) (by rw [← size_eq]; exact Nat.le_refl _)
        simp [closeSpans, openPiece, this]

theorem pieceU_bs (l : List UInt8) (a b : Nat) : (bs l).extract a b = bs (pieceU l a b) := by
  apply ByteArray.ext
  rw [ByteArray.data_extract]
  simp [bs, pieceU, List.extract]
theorem goFields_32 (t : List UInt8) : goFieldsP is32 (bs t) = (fieldsQ t []).map bs := by
  have h := spans32 (bs t) (bs t).size 0 none [] (by omega) (Nat.zero_le _) (fun a h => by cases h)
  rw [list_bs, List.drop_zero] at h
  simp only [List.map_nil, List.nil_append, openPiece] at h
  rw [h]
  unfold goFieldsP spansOfP
  rw [List.map_map]
  apply List.map_congr_left
  intro x _
  exact pieceU_bs t x.1 x.2

set_option maxHeartbeats 400000 in
theorem is_space (w : World) : PredAtRunes Tryd.prog 74 #[] is32 w := fun W x _ _ => by
  show Calls Tryd.prog 74 #[encR x] W _
  unfold encR
  go_enter Tryd.func74, Tryd.ntmps74
  go_wp2
  go_ret
  refine ⟨?_, 0, rfl⟩
  show Ending.returned (.bool ((x : Int) == 32)) = _
  congr 2
  unfold is32
  rw [Bool.eq_iff_iff, beq_iff_eq, decide_eq_true_iff]
  omega

/-- strings.FieldsFunc at the byte 32. -/
theorem fields_any (t : List UInt8) (ht : t.length ≤ 1000000000) (w : World) :
    Calls Tryd.prog 73 #[.string (bs t), .func (.func 74) #[] #[]] w fun e w' => ∃ A, e = .returned (.slice (some ⟨A, 0, none⟩) (fieldsQ t []).length (fieldsQ t []).length) ∧ w.heap.size ≤ A ∧
      w'.ownsRow w.heap.size 9 1 (.slice (some ⟨A, 0, none⟩) (fieldsQ t []).length (fieldsQ t []).length) (fieldsQ t []).length (wCells (fieldsQ t [])) ∧ Below w.heap.size w w' := by
  have h := Tryd.strings_FieldsFunc_runes 74 #[] (fun args w => by kernel_rfl) is32 (bs t) w (by rw [bs_size]; omega) (is_space w)
  rw [goFields_32] at h
  simp only [List.length_map, List.map_map] at h
  exact h
end Go.Proofs.YtdeacankicciaaaDoor
