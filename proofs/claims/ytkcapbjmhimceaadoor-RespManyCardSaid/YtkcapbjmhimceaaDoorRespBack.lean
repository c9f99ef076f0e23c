/-
  A reply's encoding is read as that reply.
-/
import Derived.Test.YtkcapbjmhimceaaDoorRespRead
namespace Go.Proofs.YtkcapbjmhimceaaDoor
open Go.RowKit Rp

theorem brk_line (u : List UInt8) : ∀ (y : List UInt8), (∀ c ∈ y, c ≠ 13 ∧ c ≠ 10) → brk (y ++ 13 :: u) = y.length
  | [], _ => by simp [brk, List.findIdx_cons, isB]
  | a :: y, h => by
    have ih := brk_line u y (fun c hc => h c (List.mem_cons_of_mem _ hc))
    obtain ⟨h1, h2⟩ := h a List.mem_cons_self
    unfold brk at ih ⊢
    rw [List.cons_append, List.findIdx_cons, ih]
    have e1 : (a == 13) = false := beq_eq_false_iff_ne.2 h1
    have e2 : (a == 10) = false := beq_eq_false_iff_ne.2 h2
    simp [isB, e1, e2]
theorem cut_line (y t : List UInt8) (h : ∀ c ∈ y, c ≠ 13 ∧ c ≠ 10) : cut (y ++ 13 :: 10 :: t) = some (y, t) := by
  unfold cut
  rw [brk_line (10 :: t) y h, List.drop_left, List.take_left]
  rw [if_pos (by rfl), List.drop_append]
  simp

/-- What take does with an array. -/
def arD : Nat → List UInt8 → List UInt8 → Option (Rep × List UInt8)
  | 0 => fun _ _ => none
  | d + 1 => arrayOf (rd d)
theorem rd_as : ∀ (d : Nat) (l : List UInt8), rd d l = takeOf (arD d) l
  | 0, l => rd_zero l
  | d + 1, l => rd_succ d l
theorem rd_line (d : Nat) (x : UInt8) (y t : List UInt8) (hx : x ≠ 13 ∧ x ≠ 10) (h : ∀ c ∈ y, c ≠ 13 ∧ c ≠ 10) : rd d (x :: (y ++ 13 :: 10 :: t)) = kindOf (arD d) x y t := by
  rw [rd_as, takeOf]
  have := cut_line (x :: y) t (fun c hc => by
    rcases List.mem_cons.1 hc with rfl | hc
    · exact hx
    · exact h c hc)
  rw [List.cons_append] at this
  rw [this]
theorem parse_itoa (n : Int) (h : Fits n) : parseL (Lib.itoa n) = some n := by
  unfold parseL
  rw [Num.atoi_itoa n h.1 h.2]
  simp
theorem itoa_len_ne (n : Nat) : Lib.itoa (n : Int) ≠ [45, 49] := by
  intro e
  rw [itoa_nat] at e
  have := digits_all n 45 (by rw [e]; simp)
  simp at this
theorem many_enc (d : Nat) : ∀ (l : List Rep) (t : List UInt8), (∀ x ∈ l, ∀ t, rd d (enc x ++ t) = some (x, t)) → many (rd d) l.length (encL l ++ t) = some (l, t)
  | [], t, _ => by simp [many, encL]
  | x :: l, t, h => by
    rw [List.length_cons, many, encL, List.append_assoc, h x List.mem_cons_self]
    simp only
    rw [many_enc d l t (fun y hy => h y (List.mem_cons_of_mem _ hy))]

theorem fits_len {n : Nat} (h : n ≤ maxLen) : Fits (n : Int) := by unfold maxLen at h; exact ⟨by omega, by omega⟩

theorem rd_enc (w : World) (r : Rep) : ∀ (d : Nat) (p : Option Addr) (c : Nat), RepIn w r p c → right d r = true → ∀ t, rd d (enc r ++ t) = some (r, t) := by
  refine Rep.ind (p := fun r => ∀ (d : Nat) (p : Option Addr) (c : Nat), RepIn w r p c → right d r = true → ∀ t, rd d (enc r ++ t) = some (r, t)) ?_ r
  intro k s n l ih d p c h hr t
  obtain ⟨_, hn, hs, hlc, hcm, _⟩ := h.parts
  rw [right.eq_def] at hr
  simp only at hr
  by_cases h0 : k = 0
  · subst h0
    simp only [true_or, if_true, Bool.and_eq_true, beq_iff_eq, List.isEmpty_iff] at hr
    obtain ⟨⟨rfl, rfl⟩, hc⟩ := hr
    have e : enc (.mk 0 s 0 []) ++ t = 43 :: (s ++ 13 :: 10 :: t) := by simp [enc]
    rw [e, rd_line d 43 s t (by decide) (calm_of hc)]
    rfl
  by_cases h1 : k = 1
  · subst h1
    simp only [or_true, if_true, Bool.and_eq_true, beq_iff_eq, List.isEmpty_iff] at hr
    obtain ⟨⟨rfl, rfl⟩, hc⟩ := hr
    have e : enc (.mk 1 s 0 []) ++ t = 45 :: (s ++ 13 :: 10 :: t) := by simp [enc]
    rw [e, rd_line d 45 s t (by decide) (calm_of hc)]
    rfl
  rw [if_neg (by omega)] at hr
  by_cases h2 : k = 2
  · subst h2
    simp only [if_true, Bool.and_eq_true, List.isEmpty_iff] at hr
    obtain ⟨rfl, rfl⟩ := hr
    have e : enc (.mk 2 [] n []) ++ t = 58 :: (Lib.itoa n ++ 13 :: 10 :: t) := by simp [enc]
    rw [e, rd_line d 58 _ t (by decide) (itoa_calm n)]
    show (match parseL (Lib.itoa n) with | none => none | some n => some (Rep.mk 2 [] n [], t)) = _
    rw [parse_itoa n hn]
  rw [if_neg h2] at hr
  by_cases h3 : k = 3
  · subst h3
    simp only [if_true, Bool.and_eq_true, beq_iff_eq, List.isEmpty_iff] at hr
    obtain ⟨rfl, rfl⟩ := hr
    have e : enc (.mk 3 s 0 []) ++ t = 36 :: (Lib.itoa s.length ++ 13 :: 10 :: (s ++ 13 :: 10 :: t)) := by simp [enc]
    rw [e, rd_line d 36 _ _ (by decide) (itoa_calm _)]
    show bulkOf (Lib.itoa s.length) (s ++ 13 :: 10 :: t) = _
    rw [bulkOf, if_neg (itoa_len_ne _), parse_itoa _ (fits_len hs)]
    simp only
    rw [if_pos ⟨by omega, by simp; omega⟩, Int.toNat_natCast, List.drop_left, List.take_left, if_pos (by rfl), List.drop_append]
    simp
  rw [if_neg h3] at hr
  by_cases h4 : k = 4
  · subst h4
    simp only [if_true, Bool.and_eq_true, beq_iff_eq, List.isEmpty_iff] at hr
    obtain ⟨⟨rfl, rfl⟩, rfl⟩ := hr
    have e : enc (.mk 4 [] 0 []) ++ t = 36 :: ([45, 49] ++ 13 :: 10 :: t) := by simp [enc]
    rw [e, rd_line d 36 _ _ (by decide) (by decide)]
    rfl
  rw [if_neg h4] at hr
  by_cases h5 : k = 5
  · subst h5
    simp only [if_true, Bool.and_eq_true, beq_iff_eq, List.isEmpty_iff] at hr
    obtain ⟨⟨rfl, rfl⟩, hl⟩ := hr
    cases d with
    | zero => cases hl
    | succ d =>
      have e : enc (.mk 5 [] 0 l) ++ t = 42 :: (Lib.itoa l.length ++ 13 :: 10 :: (encL l ++ t)) := by simp [enc]
      rw [e, rd_line (d + 1) 42 _ _ (by decide) (itoa_calm _)]
      show arrayOf (rd d) (Lib.itoa l.length) (encL l ++ t) = _
      rw [arrayOf, parse_itoa _ (fits_len (Nat.le_trans hlc hcm))]
      simp only
      rw [if_pos (by omega), Int.toNat_natCast, many_enc d l t (fun x hx t => by
        obtain ⟨j, hj, rfl⟩ := List.getElem_of_mem hx
        obtain ⟨b, o, q, e', _, _, hi⟩ := h.kid j hj
        exact ih _ (List.getElem_mem hj) d q e' hi (rightL_mem hl _ (List.getElem_mem hj)) t)]
  · rw [if_neg h5] at hr; cases hr
end Go.Proofs.YtkcapbjmhimceaaDoor
