/-
  Words, counts and lines at their limits: plain mathematics.
-/
import Derived.Test.YtcikelcecfapcaaDoorReqRefP
namespace Go.Proofs.YtcikelcecfapcaaDoor
open Go.RowKit Rp Rq

theorem lfAt_crlf (u r : List UInt8) (h : ∀ x ∈ u, x ≠ 10) : lfAt (u ++ 13 :: 10 :: r) = u.length + 1 := by
  have e : u ++ 13 :: 10 :: r = (u ++ [13]) ++ 10 :: r := by simp
  rw [e, lfAt_calm _ _ (fun x hx => by
    rcases List.mem_append.1 hx with hx | hx
    · exact h x hx
    · obtain rfl : x = 13 := by simpa using hx
      decide)]
  simp
theorem lineQ_full (u r : List UInt8) (h : ∀ x ∈ u, x ≠ 10) (hl : u.length ≤ 1024) : lineQ (u ++ 13 :: 10 :: r) = .ok (u, r) := by
  unfold lineQ
  rw [lfAt_crlf u r h, if_pos ⟨by simp, by omega⟩, if_pos ⟨by omega, by simp⟩]
  have e3 : u ++ 13 :: 10 :: r = (u ++ [13, 10]) ++ r := by simp
  have h4 : (u ++ 13 :: 10 :: r).drop (u.length + 1 + 1) = r := by
    rw [e3]
    exact List.drop_left' (by simp)
  rw [h4]
  simp
theorem lineQ_over (u r : List UInt8) (h : ∀ x ∈ u, x ≠ 10) (hl : 1025 ≤ u.length) : lineQ (u ++ 13 :: 10 :: r) = .error 12 := by
  unfold lineQ
  rw [lfAt_crlf u r h, if_neg (fun h => by omega), if_neg (by simp; omega)]
theorem numQ_over {n : Nat} {a b : Int} (hf : parseL (Lib.itoa (n : Int)) = some (n : Int)) (h1 : a ≤ n) (h2 : b < (n : Int)) : numQ (Lib.itoa (n : Int)) a b = .error 12 := by
  unfold numQ
  rw [hf]
  simp only
  rw [if_neg (by omega), if_pos h2]

/-- A long word in a list of one. -/
theorem go_word (w : Wd) (h : w.length ≤ 4096) : Rq.Go (St.new (encQ [w])) [[w]] (.more (St.new [])) := by
  have := go_enc [w] (by simp) (by simp) (fun x hx => by
    obtain rfl : x = w := by simpa using hx
    exact h) [] [] _ (Rq.Go.stop (s := St.new []) (e := 11) rfl)
  rw [List.append_nil] at this
  exact this
theorem go_word_over (w : Wd) (h : 4096 < w.length) (h2 : w.length ≤ 1000000) : Rq.Go (St.new (encQ [w])) [] (.err 12) := by
  have hli := itoa_line 42 (by decide) 1 (by omega)
  have e : encQ [w] = (42 :: Lib.itoa ((1 : Nat) : Int)) ++ 13 :: 10 :: (encW w) := by simp [encQ]
  have hlq := lineQ_calm (42 :: Lib.itoa ((1 : Nat) : Int)) (encW w) hli.1 hli.2
  have hst : Rq.step (St.new (encQ [w])) = .ok (⟨1, [], (encQ [w]).length - (encW w).length, encW w⟩, []) := by
    rw [step_new, e, lineStep_star hlq, numQ_itoa (parse_itoa _ ⟨by omega, by omega⟩) (by omega) (by omega)]
    rfl
  have hl := itoa_line 36 (by decide) w.length h2
  have e2 : encW w = (36 :: Lib.itoa (w.length : Int)) ++ 13 :: 10 :: (w ++ [13, 10]) := by simp [encW]
  have hw : wordQ (encW w) = .error 12 := by
    rw [e2]
    unfold wordQ
    rw [lineQ_calm _ _ hl.1 hl.2]
    simp only [if_pos]
    rw [numQ_over (parse_itoa _ ⟨by omega, by omega⟩) (by omega) (by omega)]
  have hst2 : Rq.step ⟨1, [], (encQ [w]).length - (encW w).length, encW w⟩ = .error 12 := by
    rw [step_in (by decide)]
    unfold wordStep
    rw [hw]
  have := Rq.Go.next hst (Rq.Go.stop hst2)
  simpa [stopOf] using this

/-- Many words. -/
theorem go_count (ws : List Wd) (h0 : ws ≠ []) (h : ws.length ≤ 128) (hw : ∀ w ∈ ws, w.length ≤ 4096) : Rq.Go (St.new (encQ ws)) [ws] (.more (St.new [])) := by
  have := go_enc ws h0 h hw [] [] _ (Rq.Go.stop (s := St.new []) (e := 11) rfl)
  rw [List.append_nil] at this
  exact this
theorem go_count_over (ws : List Wd) (h : 128 < ws.length) (h2 : ws.length ≤ 1000000) : Rq.Go (St.new (encQ ws)) [] (.err 12) := by
  have hli := itoa_line 42 (by decide) ws.length h2
  have hlq := lineQ_calm (42 :: Lib.itoa (ws.length : Int)) ((ws.map encW).flatten) hli.1 hli.2
  have e : encQ ws = (42 :: Lib.itoa (ws.length : Int)) ++ 13 :: 10 :: ((ws.map encW).flatten) := by simp [encQ]
  have hst : Rq.step (St.new (encQ ws)) = .error 12 := by
    rw [step_new, e, lineStep_star hlq, numQ_over (parse_itoa _ ⟨by omega, by omega⟩) (by omega) (by omega)]
  have := Rq.Go.stop hst
  simpa [stopOf] using this

/-- A long line. -/
theorem go_line (u : Wd) (h0 : u ≠ []) (h : ∀ x ∈ u, x ≠ 10 ∧ x ≠ 32 ∧ x ≠ 42) (hl : u.length ≤ 1024) : Rq.Go (St.new (u ++ [13, 10])) [[u]] (.more (St.new [])) := by
  have hq : lineQ (u ++ [13, 10]) = .ok (u, []) := lineQ_full u [] (fun x hx => (h x hx).1) hl
  have hf : fieldsQ u [] = [u] := by
    have := fieldsQ_many u [] [] (fun x hx => (h x hx).2.1)
    rw [List.append_nil] at this
    rw [this, List.nil_append, fieldsQ, if_neg h0]
  have hh : u.head? ≠ some 42 := by
    cases u with
    | nil => simp
    | cons x u => intro e; simp at e; exact (h x List.mem_cons_self).2.2 e
  have hst : Rq.step (St.new (u ++ [13, 10])) = .ok (St.new [], [[u]]) := by
    rw [step_new, lineStep_text hq hh, hf]
    simp
  have := Rq.Go.next hst (Rq.Go.stop (s := St.new []) (e := 11) rfl)
  simpa [stopOf] using this
theorem go_line_over (u : Wd) (h : ∀ x ∈ u, x ≠ 10) (hl : 1025 ≤ u.length) : Rq.Go (St.new (u ++ [13, 10])) [] (.err 12) := by
  have hq : lineQ (u ++ [13, 10]) = .error 12 := lineQ_over u [] h hl
  have hst : Rq.step (St.new (u ++ [13, 10])) = .error 12 := by
    rw [step_new]
    unfold lineStep
    rw [hq]
  have := Rq.Go.stop hst
  simpa [stopOf] using this

/-- The last digits of a number. -/
def Digs (n0 n : Nat) (S : ByteArray) : Prop := ∃ t, S = bs t ∧ ((n = 0 ∧ t = Lib.decDigits n0) ∨ (n ≠ 0 ∧ Lib.decDigits n ++ t = Lib.decDigits n0))
theorem Digs.start {n : Nat} (h : n ≠ 0) : Digs n n ⟨#[]⟩ := ⟨[], rfl, .inr ⟨h, by simp⟩⟩
theorem Digs.next {n0 n : Nat} {S : ByteArray} (H : Digs n0 n S) (h : n ≠ 0) : Digs n0 (n / 10) (bs [UInt8.ofNat (48 + n % 10)] ++ S) := by
  obtain ⟨t, rfl, (⟨h1, _⟩ | ⟨_, h2⟩)⟩ := H
  · exact absurd h1 h
  · refine ⟨UInt8.ofNat (48 + n % 10) :: t, by rw [bsq_app]; rfl, ?_⟩
    by_cases hs : n < 10
    · refine .inl ⟨by omega, ?_⟩
      rw [Lib.decDigits, dif_pos hs] at h2
      rw [← h2, Nat.mod_eq_of_lt hs]
      rfl
    · refine .inr ⟨by omega, ?_⟩
      rw [Lib.decDigits, dif_neg hs] at h2
      rw [← h2]
      simp
theorem Digs.stop {n0 : Nat} {S : ByteArray} (H : Digs n0 0 S) : S = bs (Lib.itoa (n0 : Int)) := by
  obtain ⟨t, rfl, (⟨_, h1⟩ | ⟨h, _⟩)⟩ := H
  · rw [h1]
    unfold Lib.itoa
    rw [if_neg (by omega)]
    rfl
  · exact absurd rfl h
theorem Digs.size {n0 n : Nat} {S : ByteArray} (H : Digs n0 n S) (h : n0 ≤ 1000000) : S.size ≤ 100 := by
  obtain ⟨t, rfl, h2⟩ := H
  have hi := itoa_len (n0 : Int) (by omega) (by omega)
  have e : Lib.itoa (n0 : Int) = Lib.decDigits n0 := by
    unfold Lib.itoa
    rw [if_neg (by omega)]
    rfl
  rw [e] at hi
  rw [bs_size]
  rcases h2 with ⟨_, h2⟩ | ⟨_, h2⟩
  · rw [h2]; omega
  · have := congrArg List.length h2
    rw [List.length_append] at this
    omega
end Go.Proofs.YtcikelcecfapcaaDoor
