/-
  What glob.bracket answers.
-/
import Derived.Test.YtimnnldjmmdlmaaGlobListed
namespace Go.Proofs.Ytimnnldjmmdlmaa
open Go.RowKit

/-- Whether a class's text begins with '^', and the text of its bytes. -/
def turnedRound (l : List UInt8) : Bool := l.head? == some 94
def bodyOf (l : List UInt8) : List UInt8 := if turnedRound l then l.tail else l

theorem cut_any (l : List UInt8) (w : World) :
    Calls Try.prog 23 #[.string (bs l), .string ⟨#[94]⟩] w fun e w' => e = .returned (.tuple #[.string (bs (bodyOf l)), .bool (turnedRound l)]) ∧ w = w' := by
  refine (Try.strings_CutPrefix (bs l) ⟨#[94]⟩ w).mono ?_
  rintro e w' ⟨rfl, rfl⟩
  have e1 : Lib.hasPrefix (bs l).data.toList [94] = turnedRound l := by
    rw [list_bs]
    cases l with
    | nil => rfl
    | cons c r =>
      simp only [Lib.hasPrefix, turnedRound, List.isPrefixOf, List.head?_cons, Bool.and_true]
      rw [Bool.eq_iff_iff]
      simp
      exact eq_comm
  have e2 : Lib.trimPrefix (bs l).data.toList [94] = bodyOf l := by
    rw [list_bs]
    cases l with
    | nil => rfl
    | cons c r =>
      unfold Lib.trimPrefix bodyOf
      rw [list_bs] at e1
      rw [e1]
      rfl
  refine ⟨?_, rfl⟩
  show Ending.returned (.tuple #[.string ⟨(Lib.trimPrefix (bs l).data.toList [94]).toArray⟩, .bool (Lib.hasPrefix (bs l).data.toList [94])]) = _
  rw [e1, e2]
  rfl

theorem ending_no (l : List UInt8) (hs : l.length ≤ 1099511627776) (h : Glob.ending l = none) (w : World) :
    Calls Try.prog 24 #[.string (bs l)] w fun e w' => e = .returned (.tuple #[.int .i64 0, .bool false]) ∧ Below w.heap.size w w' := by
  have := ending_any (bs l) (by rw [bs_size]; exact hs) w
  rw [list_bs, h] at this
  exact this
theorem ending_yes (l : List UInt8) (n : Nat) (hs : l.length ≤ 1099511627776) (h : Glob.ending l = some n) (w : World) :
    Calls Try.prog 24 #[.string (bs l)] w fun e w' => e = .returned (.tuple #[.int .i64 n, .bool true]) ∧ Below w.heap.size w w' := by
  have := ending_any (bs l) (by rw [bs_size]; exact hs) w
  rw [list_bs, h] at this
  exact this

theorem size_alloc' (w : World) (o : Obj) : (w.alloc o).heap.size = w.heap.size + 1 := by simp

theorem bodyOf_len (l : List UInt8) : (bodyOf l).length ≤ l.length := by
  unfold bodyOf
  split
  · simp
  · exact Nat.le_refl _

/-- What a block of four cells gives a walk. -/
theorem cells4 {W : World} {b : Nat} {v0 v1 v2 v3 : Value} {T : TypeId} (h : W.heap[b]? = some (.cells #[v0, v1, v2, v3] T (0, 0))) :
    W.cell? ⟨b, 0, none⟩ = some v0 ∧ W.cell? ⟨b, 1, none⟩ = some v1 ∧ W.cell? ⟨b, 2, none⟩ = some v2 ∧ W.cell? ⟨b, 3, none⟩ = some v3 := by
  refine ⟨?_, ?_, ?_, ?_⟩ <;> rw [Lib.cell_of_heap h] <;> rfl
theorem frozen4 {W : World} {b : Nat} {cs : Array Value} {T : TypeId} (h : W.heap[b]? = some (.cells cs T (0, 0))) : ∀ j, W.frozen? ⟨b, j, none⟩ = false := fun j => by rw [Lib.frozen_of_heap h]

set_option maxHeartbeats 1000000 in
theorem bracket_none (l : List UInt8) (hs : l.length ≤ 1099511627776) (h : Glob.ending (bodyOf l) = none) (w : World) :
    Calls Try.prog 20 #[.string (bs l)] w fun e w' => e = .returned (.tuple #[.agg #[.int .u64 0, .int .u64 0, .int .u64 0, .int .u64 0], .string ⟨#[]⟩, .bool false]) ∧ Below w.heap.size w w' := by
  have hb := bodyOf_len l
  have H := Lib.hid h
  clear h
  go_enter Try.func20, Try.ntmps20
  go_wp2_with fail
  refine (cut_any l _).mono ?_
  rintro e w1 ⟨rfl, rfl⟩
  go_wp2_with fail
  refine (ending_no (bodyOf l) (by omega) H.out _).mono ?_
  rintro e w1 ⟨rfl, B1⟩
  have hz : w1.heap[w.heap.size]? = some (.cells #[.int .u64 0, .int .u64 0, .int .u64 0, .int .u64 0] 47 (0, 0)) := (B1.block _ (by simp)).trans (heap_alloc_new _ _)
  obtain ⟨d0, d1, d2, d3⟩ := cells4 hz
  have fz := frozen4 hz
  have HB : Below w.heap.size w w1 := ((Below.refl _ _).alloc (Nat.le_refl _) _).trans (B1.mono (by simp))
  go_wp2
  have hE := heap_set4 hz (.int .u64 0) (.int .u64 0) (.int .u64 0) (.int .u64 0)
  have HE : Below w.heap.size w (set4 w1 w.heap.size (.int .u64 0) (.int .u64 0) (.int .u64 0) (.int .u64 0)) := set4_below HB (Nat.le_refl _) _ _ _ _
  show bodyPost _ _ _ _ _ (set4 w1 w.heap.size (.int .u64 0) (.int .u64 0) (.int .u64 0) (.int .u64 0))
  generalize set4 w1 w.heap.size (.int .u64 0) (.int .u64 0) (.int .u64 0) (.int .u64 0) = W at *
  obtain ⟨e0, e1, e2, e3⟩ := cells4 hE
  exact bodyPost_ret (v := .tuple #[.agg #[.int .u64 0, .int .u64 0, .int .u64 0, .int .u64 0], .string ⟨#[]⟩, .bool false]) (by simp [results, Try.results20, go_sem, e0, e1, e2, e3]) rfl ⟨rfl, HE⟩

set_option maxHeartbeats 1000000 in
theorem bracket_plain (l : List UInt8) (hs : l.length ≤ 1099511627776) (n : Nat) (h : Glob.ending (bodyOf l) = some n) (ht : turnedRound l = false) (w : World) :
    Calls Try.prog 20 #[.string (bs l)] w fun e w' => (∃ cs, e = .returned (.tuple #[.agg cs, .string (bs ((bodyOf l).drop (n + 1))), .bool true]) ∧ Words (Glob.listed ((bodyOf l).take n)) cs) ∧ Below w.heap.size w w' := by
  have hb := bodyOf_len l
  have hn := Glob.ending_lt _ _ h
  have H := Lib.hid h
  have e1 : (bs (bodyOf l)).extract 0 n = bs ((bodyOf l).take n) := bs_to _ _
  have e2 : (bs (bodyOf l)).extract (n + 1) (bs (bodyOf l)).size = bs ((bodyOf l).drop (n + 1)) := bs_from _ _ _ (bs_size _)
  have hsz := bs_size (bodyOf l)
  have hn1 : n ≤ (bs (bodyOf l)).size := by omega
  have hn2 : n + 1 ≤ (bs (bodyOf l)).size := by omega
  have hlen : ((bodyOf l).take n).length ≤ 1099511627776 := by rw [List.length_take]; omega
  generalize hu : (bodyOf l).take n = u at *
  generalize hv : (bodyOf l).drop (n + 1) = v at *
  clear h hsz
  go_enter Try.func20, Try.ntmps20
  go_wp2_with fail
  refine (cut_any l _).mono ?_
  rw [ht]
  rintro e w1 ⟨rfl, rfl⟩
  go_wp2_with fail
  refine (ending_yes (bodyOf l) n (by omega) H.out _).mono ?_
  rintro e w1 ⟨rfl, B1⟩
  go_wp2_with fail
  refine (listed_any u hlen _).mono ?_
  rintro e w2 ⟨cs, rfl, hW, B2⟩
  obtain ⟨x0, x1, x2, x3, rfl, hW⟩ := words_four hW
  have s1 := B1.size
  simp only [size_alloc'] at s1
  have hz : (w2.alloc (.cells #[.int .u64 x0, .int .u64 x1, .int .u64 x2, .int .u64 x3] 47)).heap[w.heap.size]? = some (.cells #[.int .u64 0, .int .u64 0, .int .u64 0, .int .u64 0] 47 (0, 0)) :=
    (Lib.alloc_old _ _ _ (by have := B2.size; omega)).trans ((B2.block _ (by omega)).trans ((B1.block _ (by simp)).trans (heap_alloc_new _ _)))
  have hc := heap_alloc_new w2 (.cells #[.int .u64 x0, .int .u64 x1, .int .u64 x2, .int .u64 x3] 47)
  have HB : Below w.heap.size w (w2.alloc (.cells #[.int .u64 x0, .int .u64 x1, .int .u64 x2, .int .u64 x3] 47)) := (((Below.refl _ _).alloc (Nat.le_refl _) _).trans ((B1.mono (by simp)).trans (B2.mono (by omega)))).alloc (by have := B2.size; omega) _
  go_wp2
  generalize (w2.alloc (.cells #[.int .u64 x0, .int .u64 x1, .int .u64 x2, .int .u64 x3] 47)) = W at *
  obtain ⟨c0, c1, c2, c3⟩ := cells4 hc
  obtain ⟨d0, d1, d2, d3⟩ := cells4 hz
  have fz := frozen4 hz
  go_region
  go_wp2
  have hE := heap_set4 hz (.int .u64 x0) (.int .u64 x1) (.int .u64 x2) (.int .u64 x3)
  have HE : Below w.heap.size w (set4 W w.heap.size (.int .u64 x0) (.int .u64 x1) (.int .u64 x2) (.int .u64 x3)).drew := (set4_below HB (Nat.le_refl _) _ _ _ _).drew
  show bodyPost _ _ _ _ _ (set4 W w.heap.size (.int .u64 x0) (.int .u64 x1) (.int .u64 x2) (.int .u64 x3)).drew
  generalize set4 W w.heap.size (.int .u64 x0) (.int .u64 x1) (.int .u64 x2) (.int .u64 x3) = W at *
  obtain ⟨e0, e1, e2, e3⟩ := cells4 hE
  exact bodyPost_ret (v := .tuple #[.agg #[.int .u64 x0, .int .u64 x1, .int .u64 x2, .int .u64 x3], .string (bs v), .bool true]) (by simp [results, Try.results20, go_sem, e0, e1, e2, e3]) rfl ⟨⟨_, rfl, hW⟩, HE⟩

set_option maxHeartbeats 1000000 in
theorem bracket_turned (l : List UInt8) (hs : l.length ≤ 1099511627776) (n : Nat) (h : Glob.ending (bodyOf l) = some n) (ht : turnedRound l = true) (w : World) :
    Calls Try.prog 20 #[.string (bs l)] w fun e w' => (∃ cs, e = .returned (.tuple #[.agg cs, .string (bs ((bodyOf l).drop (n + 1))), .bool true]) ∧ Words (Glob.others (Glob.listed ((bodyOf l).take n))) cs) ∧ Below w.heap.size w w' := by
  have hb := bodyOf_len l
  have hn := Glob.ending_lt _ _ h
  have H := Lib.hid h
  have e1 : (bs (bodyOf l)).extract 0 n = bs ((bodyOf l).take n) := bs_to _ _
  have e2 : (bs (bodyOf l)).extract (n + 1) (bs (bodyOf l)).size = bs ((bodyOf l).drop (n + 1)) := bs_from _ _ _ (bs_size _)
  have hsz := bs_size (bodyOf l)
  have hn1 : n ≤ (bs (bodyOf l)).size := by omega
  have hn2 : n + 1 ≤ (bs (bodyOf l)).size := by omega
  have hlen : ((bodyOf l).take n).length ≤ 1099511627776 := by rw [List.length_take]; omega
  generalize hu : (bodyOf l).take n = u at *
  generalize hv : (bodyOf l).drop (n + 1) = v at *
  clear h hsz
  go_enter Try.func20, Try.ntmps20
  go_wp2_with fail
  refine (cut_any l _).mono ?_
  rw [ht]
  rintro e w1 ⟨rfl, rfl⟩
  go_wp2_with fail
  refine (ending_yes (bodyOf l) n (by omega) H.out _).mono ?_
  rintro e w1 ⟨rfl, B1⟩
  go_wp2_with fail
  refine (listed_any u hlen _).mono ?_
  rintro e w2 ⟨cs, rfl, hW, B2⟩
  obtain ⟨y0, y1, y2, y3, rfl, hY⟩ := words_four hW
  clear hW
  go_wp2_with fail
  refine (others_any _ _ hY _).mono ?_
  rintro e w3 ⟨cs, rfl, hW, B3⟩
  obtain ⟨x0, x1, x2, x3, rfl, hW⟩ := words_four hW
  have s1 := B1.size
  have s2 := B2.size
  have s3 := B3.size
  simp only [size_alloc'] at s1 s3
  have hc3 : w3.heap[w2.heap.size]? = some (.cells #[.int .u64 y0, .int .u64 y1, .int .u64 y2, .int .u64 y3] 47 (0, 0)) := (B3.block _ (by simp)).trans (heap_alloc_new _ _)
  have hz3 : w3.heap[w.heap.size]? = some (.cells #[.int .u64 0, .int .u64 0, .int .u64 0, .int .u64 0] 47 (0, 0)) :=
    (B3.block _ (by simp; omega)).trans ((Lib.alloc_old _ _ _ (by omega)).trans ((B2.block _ (by omega)).trans ((B1.block _ (by simp)).trans (heap_alloc_new _ _))))
  have HB3 : Below w.heap.size w w3 := ((((Below.refl _ _).alloc (Nat.le_refl _) _).trans ((B1.mono (by simp)).trans (B2.mono (by omega)))).alloc (by omega) _).trans (B3.mono (by simp; omega))
  obtain ⟨c0, c1, c2, c3⟩ := cells4 hc3
  have fc := frozen4 hc3
  go_wp2
  have hc := heap_set4 hc3 (.int .u64 x0) (.int .u64 x1) (.int .u64 x2) (.int .u64 x3)
  have hz := (set4_other w3 w2.heap.size w.heap.size (.int .u64 x0) (.int .u64 x1) (.int .u64 x2) (.int .u64 x3) (by omega)).trans hz3
  have HB := set4_below HB3 (show w.heap.size ≤ w2.heap.size by omega) (.int .u64 x0) (.int .u64 x1) (.int .u64 x2) (.int .u64 x3)
  clear c0 c1 c2 c3 fc
  show Code.wp _ _ _ _ (set4 w3 w2.heap.size (.int .u64 x0) (.int .u64 x1) (.int .u64 x2) (.int .u64 x3))
  generalize set4 w3 w2.heap.size (.int .u64 x0) (.int .u64 x1) (.int .u64 x2) (.int .u64 x3) = W at *
  obtain ⟨c0, c1, c2, c3⟩ := cells4 hc
  obtain ⟨d0, d1, d2, d3⟩ := cells4 hz
  have fz := frozen4 hz
  go_region
  go_wp2
  have hE := heap_set4 hz (.int .u64 x0) (.int .u64 x1) (.int .u64 x2) (.int .u64 x3)
  have HE : Below w.heap.size w (set4 W w.heap.size (.int .u64 x0) (.int .u64 x1) (.int .u64 x2) (.int .u64 x3)).drew := (set4_below HB (Nat.le_refl _) _ _ _ _).drew
  show bodyPost _ _ _ _ _ (set4 W w.heap.size (.int .u64 x0) (.int .u64 x1) (.int .u64 x2) (.int .u64 x3)).drew
  generalize set4 W w.heap.size (.int .u64 x0) (.int .u64 x1) (.int .u64 x2) (.int .u64 x3) = W at *
  obtain ⟨e0, e1, e2, e3⟩ := cells4 hE
  exact bodyPost_ret (v := .tuple #[.agg #[.int .u64 x0, .int .u64 x1, .int .u64 x2, .int .u64 x3], .string (bs v), .bool true]) (by simp [results, Try.results20, go_sem, e0, e1, e2, e3]) rfl ⟨⟨_, rfl, hW⟩, HE⟩

theorem bracket_eq (l : List UInt8) : Glob.bracket l = match Glob.ending (bodyOf l) with
    | none => none
    | some e => some (if turnedRound l then Glob.others (Glob.listed ((bodyOf l).take e)) else Glob.listed ((bodyOf l).take e), (bodyOf l).drop (e + 1)) := rfl

theorem bracket_no (l : List UInt8) (hs : l.length ≤ 1099511627776) (h : Glob.bracket l = none) (w : World) :
    Calls Try.prog 20 #[.string (bs l)] w fun e w' => e = .returned (.tuple #[.agg #[.int .u64 0, .int .u64 0, .int .u64 0, .int .u64 0], .string ⟨#[]⟩, .bool false]) ∧ Below w.heap.size w w' := by
  refine bracket_none l hs ?_ w
  rw [bracket_eq] at h
  cases he : Glob.ending (bodyOf l) with
  | none => rfl
  | some e => rw [he] at h; cases h

theorem bracket_yes (l : List UInt8) (hs : l.length ≤ 1099511627776) (P : Glob.CSet) (r : List UInt8) (h : Glob.bracket l = some (P, r)) (w : World) :
    Calls Try.prog 20 #[.string (bs l)] w fun e w' => (∃ cs, e = .returned (.tuple #[.agg cs, .string (bs r), .bool true]) ∧ Words P cs) ∧ Below w.heap.size w w' := by
  rw [bracket_eq] at h
  cases he : Glob.ending (bodyOf l) with
  | none => rw [he] at h; cases h
  | some e =>
    rw [he] at h
    simp only [Option.some.injEq, Prod.mk.injEq] at h
    obtain ⟨rfl, rfl⟩ := h
    cases ht : turnedRound l with
    | false => exact bracket_plain l hs e he ht w
    | true => exact bracket_turned l hs e he ht w

end Go.Proofs.Ytimnnldjmmdlmaa
