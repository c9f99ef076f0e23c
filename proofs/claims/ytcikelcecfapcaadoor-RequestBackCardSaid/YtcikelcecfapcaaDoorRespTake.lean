/-
  resp.takeArray: what is kept of it while its row grows. resp.takeArray, of any text and bytes, resp.take one deep less. resp.take, of any bytes. resp.Read, of any bytes. A reply's encoding is read as that reply.
-/
import Derived.Test.YtcikelcecfapcaaDoorRespBulk
import Derived.Deep.AppendLies
namespace Go.Proofs.YtcikelcecfapcaaDoor
open Go.RowKit Rp

/-- A reply with its slice's address and capacity. -/
abbrev Held := Rep × Option Addr × Nat
/-- Their cells. -/
def flatK (xs : List Held) : List Value := xs.flatMap fun x => (repCs x.1 x.2.1 x.2.2).toList
theorem flatK_snoc (xs : List Held) (x : Held) : flatK (xs ++ [x]) = flatK xs ++ [.int .i64 x.1.kind, .string (bs x.1.str), .int .i64 x.1.num, .slice x.2.1 x.1.kids.length x.2.2] := by simp [flatK, repCs]
theorem flatK_len (xs : List Held) : (flatK xs).length = xs.length * 4 := by
  induction xs with
  | nil => rfl
  | cons r rs ih => simp only [flatK, repCs, List.flatMap_cons, List.length_append, List.length_cons, List.length_nil] at ih ⊢; omega
theorem flatK_at : ∀ (xs : List Held) (j : Nat) (h : j < xs.length), (flatK xs)[j * 4]? = some (.int .i64 xs[j].1.kind) ∧ (flatK xs)[j * 4 + 1]? = some (.string (bs xs[j].1.str)) ∧ (flatK xs)[j * 4 + 2]? = some (.int .i64 xs[j].1.num) ∧ (flatK xs)[j * 4 + 3]? = some (.slice xs[j].2.1 xs[j].1.kids.length xs[j].2.2)
  | x :: xs, 0, _ => by simp [flatK, repCs]
  | x :: xs, j + 1, h => by
    have ih := flatK_at xs j (by simpa using h)
    have e : ∀ i, (flatK (x :: xs))[(j + 1) * 4 + i]? = (flatK xs)[j * 4 + i]? := fun i => by
      rw [show flatK (x :: xs) = [.int .i64 x.1.kind, .string (bs x.1.str), .int .i64 x.1.num, .slice x.2.1 x.1.kids.length x.2.2] ++ flatK xs from by simp [flatK, repCs], List.getElem?_append_right (by simp; omega)]
      congr 1
      simp; omega
    exact ⟨(e 0).trans ih.1, (e 1).trans ih.2.1, (e 2).trans ih.2.2.1, (e 3).trans ih.2.2.2⟩

/-- A reply that stands, whatever becomes of the blocks below lo, of B and of g. -/
def Keeps (lo B : Nat) (g : Option Nat) (w : World) (x : Held) : Prop := ∀ W : World, (∀ k, lo ≤ k → k < w.heap.size → k ≠ B → some k ≠ g → W.heap[k]? = w.heap[k]?) → RepIn W x.1 x.2.1 x.2.2

theorem Keeps.on {lo B : Nat} {g g' : Option Nat} {w w' : World} {x : Held} (h : Keeps lo B g w x) (hs : w.heap.size ≤ w'.heap.size) (hg : ∀ k, g' = some k → g = some k ∨ w.heap.size ≤ k)
    (hk : ∀ k, k < w.heap.size → k ≠ B → some k ≠ g → w'.heap[k]? = w.heap[k]?) : Keeps lo B g' w' x := fun W hW => h W fun k k1 k2 k3 k4 => by
  rw [hW k k1 (by omega) k3 (fun e => by
    rcases hg k e.symm with h1 | h1
    · exact k4 h1.symm
    · omega), hk k k2 k3 k4]

theorem RepFrom.keeps {lo lo0 B : Nat} {g : Option Nat} {w w' : World} {x : Held} (h : RepFrom lo0 w x.1 x.2.1 x.2.2) (hl : lo ≤ lo0) (hB : B < lo0) (hg : ∀ k, g = some k → k < lo0 ∨ w.heap.size ≤ k) (hs : w.heap.size ≤ w'.heap.size)
    (hk : ∀ k, lo0 ≤ k → k < w.heap.size → w'.heap[k]? = w.heap[k]?) : Keeps lo B g w' x := fun W hW => h W fun k k1 k2 => by
  rw [hW k (by omega) (by omega) (by omega) (fun e => by
    rcases hg k e.symm with h1 | h1 <;> omega), hk k k1 k2]

/-- The whole array. -/
theorem array_from {lo lo1 B j : Nat} {a : Option Addr} {cap base : Nat} {w w' : World} {xs : List Held} (hj : xs.length = j) (hrow : w.ownsRow base 26 4 (.slice a j cap) j (flatK xs)) (hk : ∀ x ∈ xs, Keeps lo1 B (Value.ownBlock (.slice a j cap)) w x)
    (hb : lo1 ≤ base) (hl : lo ≤ lo1) (hs : w.heap.size ≤ w'.heap.size) (hw : ∀ k, lo1 ≤ k → k < w.heap.size → w'.heap[k]? = w.heap[k]?) : RepFrom lo w' (.mk 5 [] 0 (xs.map (·.1))) a cap := by
  intro W hW
  have hE : ∀ k, lo1 ≤ k → k < w.heap.size → W.heap[k]? = w.heap[k]? := fun k k1 k2 => by rw [hW k (by omega) (by omega), hw k k1 k2]
  have hK : ∀ x ∈ xs, RepIn W x.1 x.2.1 x.2.2 := fun x hx => hk x hx W fun k k1 k2 _ _ => hE k k1 k2
  rw [RepIn]
  rcases hrow.2 with ⟨hv, hn⟩ | ⟨g, cap', cur, hv, hB, hg, hn, hm, hsz, ht⟩
  · simp only [Value.slice.injEq] at hv
    obtain ⟨_, _, rfl⟩ := hv
    exact ⟨⟨by decide, by decide⟩, ⟨by decide, by decide⟩, by simp [maxLen], by rw [List.length_map]; omega, by simp [maxLen], .inl (by rw [List.eq_nil_of_length_eq_zero (hj.trans hn)]; rfl)⟩
  · simp only [Value.slice.injEq, true_and] at hv
    obtain ⟨rfl, rfl⟩ := hv
    refine ⟨⟨by decide, by decide⟩, ⟨by decide, by decide⟩, by simp [maxLen], by rw [List.length_map, hj]; exact hn, hm, .inr ⟨g, 0, rfl, row_mk fun i hi => ?_⟩⟩
    rw [List.length_map] at hi
    have hgl : g < w.heap.size := (Array.getElem?_eq_some_iff.1 hg).1
    have hgW : W.heap[g]? = some (.cells cur 26 (0, 0)) := (hE g (by omega) hgl).trans hg
    obtain ⟨f0, f1, f2, f3⟩ := flatK_at xs i hi
    have hc : ∀ m v, (flatK xs)[m]? = some v → W.cell? ⟨g, m, none⟩ = some v := fun m v hv => by
      have hm : m < j * 4 := by
        have := (List.getElem?_eq_some_iff.1 hv).1
        rw [flatK_len, hj] at this
        exact this
      have h1 := hrow.cellAt m hm
      rw [hv, Lib.cell_of_heap hg] at h1
      rw [Lib.cell_of_heap hgW]
      exact h1
    rw [List.getElem_map]
    refine ⟨xs[i].2.1, xs[i].2.2, ⟨?_, ?_, ?_, ?_⟩, hK _ (List.getElem_mem hi)⟩
    · have := hc _ _ f0; rw [Nat.zero_add]; exact this
    · have := hc _ _ f1; rw [Nat.zero_add]; exact this
    · have := hc _ _ f2; rw [Nat.zero_add]; exact this
    · have := hc _ _ f3; rw [Nat.zero_add]; exact this

/-! ### What is read -/
def joinR (xs : List Rep) (o : Option (List Rep × List UInt8)) : Option (List Rep × List UInt8) := match o with | none => none | some (ys, r) => some (xs ++ ys, r)
theorem joined_nil (o : Option (List Rep × List UInt8)) : o = joinR [] o := by cases o <;> rfl
theorem joined_step (f : List UInt8 → Option (Rep × List UInt8)) (xs : List Rep) (n : Nat) (l l2 : List UInt8) (x : Rep) (h : f l = some (x, l2)) : joinR xs (many f (n + 1) l) = joinR (xs ++ [x]) (many f n l2) := by
  rw [many, h]
  simp only
  cases many f n l2 with
  | none => rfl
  | some y => simp [joinR]
theorem joined_fail (f : List UInt8 → Option (Rep × List UInt8)) (xs : List Rep) (n : Nat) (l : List UInt8) (h : f l = none) : joinR xs (many f (n + 1) l) = none := by
  rw [many, h]; rfl

theorem crlf_len {l : List UInt8} (h : crlf l = true) : 2 ≤ l.length := by
  match l, h with
  | [], h => cases h
  | [a], h => simp [crlf] at h
  | a :: b :: r, _ => simp
theorem cut_len {l t r : List UInt8} (h : cut l = some (t, r)) : t.length + r.length + 2 = l.length := by
  unfold cut at h
  split at h
  · rename_i hc
    have := crlf_len hc
    rw [List.length_drop] at this
    simp only [Option.some.injEq, Prod.mk.injEq] at h
    obtain ⟨rfl, rfl⟩ := h
    rw [List.length_take, List.length_drop]
    omega
  · cases h
theorem many_len (f : List UInt8 → Option (Rep × List UInt8)) (hf : ∀ b r s, f b = some (r, s) → s.length < b.length) : ∀ (n : Nat) (b : List UInt8) (xs : List Rep) (s : List UInt8), many f n b = some (xs, s) → s.length ≤ b.length
  | 0, b, xs, s, h => by
    simp only [many, Option.some.injEq, Prod.mk.injEq] at h
    rw [h.2]; exact Nat.le_refl _
  | n + 1, b, xs, s, h => by
    rw [many] at h
    cases h1 : f b with
    | none => rw [h1] at h; cases h
    | some y =>
      obtain ⟨x, b1⟩ := y
      rw [h1] at h
      simp only at h
      cases h2 : many f n b1 with
      | none => rw [h2] at h; cases h
      | some z =>
        obtain ⟨zs, b2⟩ := z
        rw [h2] at h
        simp only [Option.some.injEq, Prod.mk.injEq] at h
        have := many_len f hf n b1 zs b2 h2
        have := hf _ _ _ h1
        rw [← h.2]; omega
theorem bulk_len {t b : List UInt8} {r : Rep} {s : List UInt8} (h : bulkOf t b = some (r, s)) : s.length ≤ b.length := by
  unfold bulkOf at h
  repeat' split at h
  all_goals first
    | (cases h; done)
    | (simp only [Option.some.injEq, Prod.mk.injEq] at h; obtain ⟨_, rfl⟩ := h; first | exact Nat.le_refl _ | (rw [List.length_drop]; omega))
theorem kind_len {ar : List UInt8 → List UInt8 → Option (Rep × List UInt8)} (ha : ∀ t b r s, ar t b = some (r, s) → s.length ≤ b.length) {x : UInt8} {t b : List UInt8} {r : Rep} {s : List UInt8} (h : kindOf ar x t b = some (r, s)) : s.length ≤ b.length := by
  unfold kindOf at h
  repeat' split at h
  all_goals first
    | exact bulk_len h
    | exact ha _ _ _ _ h
    | (cases h; done)
    | (simp only [Option.some.injEq, Prod.mk.injEq] at h; obtain ⟨_, rfl⟩ := h; exact Nat.le_refl _)
theorem rd_len : ∀ (d : Nat) (b : List UInt8) (r : Rep) (s : List UInt8), rd d b = some (r, s) → s.length < b.length
  | 0, b, r, s, h => by
    rw [rd] at h
    split at h
    · cases h
    · cases h
    · rename_i hc
      have := cut_len hc
      have := kind_len (fun _ _ _ _ h => by cases h) h
      omega
  | d + 1, b, r, s, h => by
    rw [rd] at h
    split at h
    · cases h
    · cases h
    · rename_i hc
      have := cut_len hc
      have := kind_len (fun t b r s h => by
        unfold arrayOf at h
        repeat' split at h
        all_goals first
          | (cases h; done)
          | (rename_i hm; simp only [Option.some.injEq, Prod.mk.injEq] at h; obtain ⟨_, rfl⟩ := h; exact many_len _ (rd_len d) _ _ _ _ hm)) h
      omega
end Go.Proofs.YtcikelcecfapcaaDoor

namespace Go.Proofs.YtcikelcecfapcaaDoor
open Go.RowKit Rp

/-- resp.take, arrays nested at most d deep. -/
def TakeAt (d : Nat) : Prop := ∀ (l : List UInt8), l.length ≤ 1000000000 → ∀ (p : Option Addr) (c : Nat) (w : World), Errs w → Runes w → Rest w p c l →
  Calls Tryd.prog 32 #[.slice p l.length c, .int .i64 d] w fun e w' => TookR w.heap.size w' p c l e (rd d l) ∧ Below w.heap.size w w'

set_option maxHeartbeats 2000000 in
theorem array_unparsed (f : List UInt8 → Option (Rep × List UInt8)) (D : Nat) (t l : List UInt8) (htl : t.length ≤ 281474976710656) (hp : parseL t = none) (p : Option Addr) (c : Nat) (w : World) (hL : Errs w) :
    Calls Tryd.prog 57 #[.string (bs t), .slice p l.length c, .int .i64 D] w fun e w' => TookR w.heap.size w' p c l e (arrayOf f t l) ∧ Below w.heap.size w w' := by
  have HB := Lib.hid (show arrayOf f t l = none by rw [arrayOf, hp])
  have HP := Lib.hid (fun (W : World) (hW : Below w.heap.size w W) => parse_any t htl W (hL.on hW))
  rw [hp] at HP
  clear hp
  go_enter Tryd.func57, Tryd.ntmps57
  go_wp2_with fail
  refine (HP.out _ (bA (Below.refl _ _) _)).mono ?_
  rintro e w1 ⟨rfl, hb1⟩
  have hbx : w1.heap[w.heap.size]? = some (.cells #[.int .i64 0, .string ⟨#[]⟩, .int .i64 0, .slice none 0 0] 26 (0, 0)) := (hb1.block _ (by simp)).trans (heap_alloc_new w _)
  obtain ⟨c0, c1, c2, c3⟩ := cells4 hbx
  have fz := frozen4 hbx
  go_wp2_with fail
  have hE := heap_set4 hbx (.int .i64 0) (.string ⟨#[]⟩) (.int .i64 0) (.slice none 0 0)
  have HE : Below w.heap.size w (set4 w1 w.heap.size (.int .i64 0) (.string ⟨#[]⟩) (.int .i64 0) (.slice none 0 0)) := set4_below (bT (bA (Below.refl _ _) _) hb1) (Nat.le_refl _) _ _ _ _
  show bodyPost _ _ _ _ _ (set4 w1 w.heap.size (.int .i64 0) (.string ⟨#[]⟩) (.int .i64 0) (.slice none 0 0))
  generalize set4 w1 w.heap.size (.int .i64 0) (.string ⟨#[]⟩) (.int .i64 0) (.slice none 0 0) = W at *
  obtain ⟨e0, e1, e2, e3⟩ := cells4 hE
  refine bodyPost_ret (v := .tuple #[.agg #[.int .i64 0, .string ⟨#[]⟩, .int .i64 0, .slice none 0 0], .slice none 0 0, .bool false]) (by simp [results, Tryd.results57, go_sem, e0, e1, e2, e3]) rfl ?_
  rw [HB.out]
  exact ⟨⟨_, _, _, _, _, _, _, _, _, rfl⟩, HE⟩

set_option maxHeartbeats 2000000 in
theorem array_neg (f : List UInt8 → Option (Rep × List UInt8)) (D : Nat) (t l : List UInt8) (htl : t.length ≤ 281474976710656) (n : Int) (hp : parseL t = some n) (hn : n < 0) (p : Option Addr) (c : Nat) (w : World) (hL : Errs w) :
    Calls Tryd.prog 57 #[.string (bs t), .slice p l.length c, .int .i64 D] w fun e w' => TookR w.heap.size w' p c l e (arrayOf f t l) ∧ Below w.heap.size w w' := by
  have HB := Lib.hid (show arrayOf f t l = none by rw [arrayOf, hp]; exact if_neg (by omega))
  have HP := Lib.hid (fun (W : World) (hW : Below w.heap.size w W) => parse_any t htl W (hL.on hW))
  rw [hp] at HP
  have hd0 : decide (n < 0) = true := decide_eq_true hn
  clear hp
  go_enter Tryd.func57, Tryd.ntmps57
  go_wp2_with fail
  refine (HP.out _ (bA (Below.refl _ _) _)).mono ?_
  rintro e w1 ⟨rfl, hb1⟩
  have hbx : w1.heap[w.heap.size]? = some (.cells #[.int .i64 0, .string ⟨#[]⟩, .int .i64 0, .slice none 0 0] 26 (0, 0)) := (hb1.block _ (by simp)).trans (heap_alloc_new w _)
  obtain ⟨c0, c1, c2, c3⟩ := cells4 hbx
  have fz := frozen4 hbx
  go_wp2_with fail
  have hE := heap_set4 hbx (.int .i64 0) (.string ⟨#[]⟩) (.int .i64 0) (.slice none 0 0)
  have HE : Below w.heap.size w (set4 w1 w.heap.size (.int .i64 0) (.string ⟨#[]⟩) (.int .i64 0) (.slice none 0 0)) := set4_below (bT (bA (Below.refl _ _) _) hb1) (Nat.le_refl _) _ _ _ _
  show bodyPost _ _ _ _ _ (set4 w1 w.heap.size (.int .i64 0) (.string ⟨#[]⟩) (.int .i64 0) (.slice none 0 0))
  generalize set4 w1 w.heap.size (.int .i64 0) (.string ⟨#[]⟩) (.int .i64 0) (.slice none 0 0) = W at *
  obtain ⟨e0, e1, e2, e3⟩ := cells4 hE
  refine bodyPost_ret (v := .tuple #[.agg #[.int .i64 0, .string ⟨#[]⟩, .int .i64 0, .slice none 0 0], .slice none 0 0, .bool false]) (by simp [results, Tryd.results57, go_sem, e0, e1, e2, e3]) rfl ?_
  rw [HB.out]
  exact ⟨⟨_, _, _, _, _, _, _, _, _, rfl⟩, HE⟩

set_option maxHeartbeats 2000000 in
theorem array_flat (t l : List UInt8) (htl : t.length ≤ 281474976710656) (n : Int) (hp : parseL t = some n) (hn : ¬ n < 0) (p : Option Addr) (c : Nat) (w : World) (hL : Errs w) :
    Calls Tryd.prog 57 #[.string (bs t), .slice p l.length c, .int .i64 ((0 : Nat) : Int)] w fun e w' => TookR w.heap.size w' p c l e ((none : Option (Rep × List UInt8))) ∧ Below w.heap.size w w' := by
  have HB := Lib.hid (show (none : Option (Rep × List UInt8)) = none by rfl)
  have HP := Lib.hid (fun (W : World) (hW : Below w.heap.size w W) => parse_any t htl W (hL.on hW))
  rw [hp] at HP
  have hd0 : decide (n < 0) = false := decide_eq_false hn
  clear hp
  go_enter Tryd.func57, Tryd.ntmps57
  go_wp2_with fail
  refine (HP.out _ (bA (Below.refl _ _) _)).mono ?_
  rintro e w1 ⟨rfl, hb1⟩
  have hbx : w1.heap[w.heap.size]? = some (.cells #[.int .i64 0, .string ⟨#[]⟩, .int .i64 0, .slice none 0 0] 26 (0, 0)) := (hb1.block _ (by simp)).trans (heap_alloc_new w _)
  obtain ⟨c0, c1, c2, c3⟩ := cells4 hbx
  have fz := frozen4 hbx
  go_wp2_with fail
  have hE := heap_set4 hbx (.int .i64 0) (.string ⟨#[]⟩) (.int .i64 0) (.slice none 0 0)
  have HE : Below w.heap.size w (set4 w1 w.heap.size (.int .i64 0) (.string ⟨#[]⟩) (.int .i64 0) (.slice none 0 0)) := set4_below (bT (bA (Below.refl _ _) _) hb1) (Nat.le_refl _) _ _ _ _
  show bodyPost _ _ _ _ _ (set4 w1 w.heap.size (.int .i64 0) (.string ⟨#[]⟩) (.int .i64 0) (.slice none 0 0))
  generalize set4 w1 w.heap.size (.int .i64 0) (.string ⟨#[]⟩) (.int .i64 0) (.slice none 0 0) = W at *
  obtain ⟨e0, e1, e2, e3⟩ := cells4 hE
  refine bodyPost_ret (v := .tuple #[.agg #[.int .i64 0, .string ⟨#[]⟩, .int .i64 0, .slice none 0 0], .slice none 0 0, .bool false]) (by simp [results, Tryd.results57, go_sem, e0, e1, e2, e3]) rfl ?_
  exact ⟨⟨_, _, _, _, _, _, _, _, _, rfl⟩, HE⟩

theorem array_zero (t l : List UInt8) (htl : t.length ≤ 281474976710656) (p : Option Addr) (c : Nat) (w : World) (hL : Errs w) :
    Calls Tryd.prog 57 #[.string (bs t), .slice p l.length c, .int .i64 ((0 : Nat) : Int)] w fun e w' => TookR w.heap.size w' p c l e (none : Option (Rep × List UInt8)) ∧ Below w.heap.size w w' := by
  cases hp : parseL t with
  | none =>
    have := array_unparsed (fun _ => none) 0 t l htl hp p c w hL
    rw [arrayOf, hp] at this
    exact this
  | some n =>
    by_cases hn : n < 0
    · have := array_neg (fun _ => none) 0 t l htl n hp hn p c w hL
      rw [arrayOf, hp] at this
      simp only [show ¬ (0 ≤ n) from by omega, if_false] at this
      exact this
    · exact array_flat t l htl n hp hn p c w hL

theorem joinR_end (f : List UInt8 → Option (Rep × List UInt8)) (xs : List Rep) (l : List UInt8) : joinR xs (many f 0 l) = some (xs, l) := by rw [many, joinR, List.append_nil]

/-- What stands at the head of a round. -/
structure Grow (d N : Nat) (l : List UInt8) (p : Option Addr) (c : Nat) (w : World) (B j : Nat) (xs : List Held) (l1 : List UInt8) (p1 : Option Addr) (c1 : Nat) (a : Option Addr) (cap : Nat) (wr : World) : Prop where
  len : xs.length = j
  sub : Sub p c l p1 c1 l1
  red : many (rd d) N l = joinR (xs.map (·.1)) (many (rd d) (N - j) l1)
  short : j + l1.length ≤ l.length
  below : Below w.heap.size w wr
  box : wr.heap[w.heap.size]? = some (.cells #[.int .i64 0, .string ⟨#[]⟩, .int .i64 0, .slice none 0 0] 26 (0, 0))
  own : wr.heap[B]? = some (.cells #[.int .i64 5, .string ⟨#[]⟩, .int .i64 0, .slice a j cap] 26 (0, 0))
  row : wr.ownsRow (B + 1) 26 4 (.slice a j cap) j (flatK xs)
  kids : ∀ x ∈ xs, Keeps (w.heap.size + 1) B (Value.ownBlock (.slice a j cap)) wr x

theorem joinR_nil' (o : Option (List Rep × List UInt8)) : o = joinR (([] : List Held).map (·.1)) o := by cases o <;> rfl

theorem Grow.step {d N : Nat} {l : List UInt8} {p : Option Addr} {c : Nat} {w : World} {B j : Nat} {xs : List Held} {l1 : List UInt8} {p1 : Option Addr} {c1 : Nat} {a : Option Addr} {cap : Nat} {wr w2 w3 : World} (G : Grow d N l p c w B j xs l1 p1 c1 a cap wr) (hj : j < N) (hwB : w.heap.size < B)
    (hb2 : Below wr.heap.size wr w2) {x : Rep} {q : Option Addr} {e : Nat} (hf : RepFrom wr.heap.size w2 x q e) {p2 : Option Addr} {c2 : Nat} {l2 : List UInt8} (hs : Sub p1 c1 l1 p2 c2 l2) (hr : rd d l1 = some (x, l2)) (x4 y4 : Obj) {g cap1 : Nat}
    (hown : w3.ownsRow (B + 1) 26 4 (.slice (some ⟨g, 0, none⟩) (j + 1) cap1) (j + 1) (flatK xs ++ [.int .i64 x.kind, .string (bs x.str), .int .i64 x.num, .slice q x.kids.length e]))
    (hgrow : ((w2.alloc x4).alloc y4).grownBy w3 (Value.ownBlock (.slice a j cap))) (hgs : Value.ownBlock (.slice a j cap) = some g ∨ g = w2.heap.size + 2) :
    Grow d N l p c w B (j + 1) (xs ++ [(x, q, e)]) l2 p2 c2 (some ⟨g, 0, none⟩) cap1 (w3.setCell ⟨B, 3, none⟩ (.slice (some ⟨g, 0, none⟩) (j + 1) cap1)) := by
  have hB : B < wr.heap.size := (Array.getElem?_eq_some_iff.1 G.own).1
  have hbB : Below wr.heap.size wr ((w2.alloc x4).alloc y4) := bA (bA hb2 x4) y4
  have hszB : ((w2.alloc x4).alloc y4).heap.size = w2.heap.size + 2 := by simp
  have hs2 := hb2.size
  have hs3 := hgrow.size
  rw [hszB] at hs3
  have hlt := G.row.lt
  have hset : ∀ k v, k ≠ B → (w3.setCell ⟨B, 3, none⟩ v).heap[k]? = w3.heap[k]? := fun k v hk => Below.heap_setCell _ _ _ _ hk
  have hssz : ∀ v, (w3.setCell ⟨B, 3, none⟩ v).heap.size = w3.heap.size := fun v => by simp [World.setCell]
  have h3 : ∀ k, k < w2.heap.size + 2 → some k ≠ Value.ownBlock (.slice a j cap) → w3.heap[k]? = ((w2.alloc x4).alloc y4).heap[k]? := fun k hk hn => hgrow.block k (by rw [hszB]; exact hk) hn
  have h3w : ∀ k, k < wr.heap.size → some k ≠ Value.ownBlock (.slice a j cap) → w3.heap[k]? = wr.heap[k]? := fun k hk hn => (h3 k (by omega) hn).trans (hbB.block k hk)
  refine ⟨by rw [List.length_append, G.len]; rfl, G.sub.trans hs, ?_, ?_, ?_, ?_, ?_, ?_, ?_⟩
  · rw [G.red, show N - j = (N - (j + 1)) + 1 by omega, joined_step _ _ _ _ _ _ hr, List.map_append]
    rfl
  · have := rd_len d l1 x l2 hr
    have := G.short
    omega
  · refine Below.setCell (p := ⟨B, 3, none⟩) ?_ (Nat.le_of_lt hwB) _
    exact (bA (bA (bT G.below hb2) x4) y4).grown hgrow (by have := G.below.size; rw [hszB]; omega) (fun k hk => by have := (hlt k hk).1; omega)
  · rw [hset _ _ (by omega), h3w _ (by omega) (fun e => by have := (hlt _ e.symm).1; omega)]
    exact G.box
  · have := h3w B hB (fun e => by have := (hlt _ e.symm).1; omega)
    exact heap_set (this.trans G.own) _
  · rw [flatK_snoc]
    exact ownsRow_setCell_below hown (a := ⟨B, 3, none⟩) (Nat.lt_succ_self B) _
  · intro y hy
    have hog : ∀ k, Value.ownBlock (.slice (some ⟨g, 0, none⟩) (j + 1) cap1) = some k → k = g := fun k hk => by simp [Value.ownBlock] at hk; exact hk.symm
    rcases List.mem_append.1 hy with hy | hy
    · refine (G.kids y hy).on (by rw [hssz]; omega) (fun k hk => ?_) (fun k k1 k2 k3 => ?_)
      · rw [hog k hk]
        rcases hgs with h | h
        · exact .inl h
        · exact .inr (by omega)
      · rw [hset k _ k2]
        exact h3w k k1 k3
    · obtain rfl : y = (x, q, e) := by simpa using hy
      refine RepFrom.keeps hf (by have := G.below.size; omega) hB (fun k hk => ?_) (by rw [hssz]; omega) (fun k k1 k2 => ?_)
      · rw [hog k hk]
        rcases hgs with h | h
        · exact .inl (hlt g h).2
        · exact .inr (by omega)
      · rw [hset k _ (by omega), h3 k (by omega) (fun e => by have := (hlt _ e.symm).2; omega)]
        exact (bA (bA (Below.refl _ w2) x4) y4).block k k2

set_option maxRecDepth 20000 in
set_option maxHeartbeats 8000000 in
theorem array_step (d : Nat) (hd4 : d < 100) (hT : TakeAt d) (t l : List UInt8) (hl : l.length ≤ 1000000000) (htl : t.length ≤ 281474976710656) (N : Nat) (hp : parseL t = some (N : Int)) (p : Option Addr) (c : Nat) (w : World) (hL : Errs w) (hR : Runes w) (h : Rest w p c l) :
    Calls Tryd.prog 57 #[.string (bs t), .slice p l.length c, .int .i64 ((d + 1 : Nat) : Int)] w fun e w' => TookR w.heap.size w' p c l e (arrayOf (rd d) t l) ∧ Below w.heap.size w w' := by
  obtain ⟨i0, hi, hz0, hz1, hz2⟩ := info_parts info_rep
  have HB := Lib.hid (show arrayOf (rd d) t l = match many (rd d) N l with | none => none | some (l, r) => some (.mk 5 [] 0 l, r) by
    rw [arrayOf, hp]
    show (if (0 : Int) ≤ (N : Int) then _ else _) = _
    rw [if_pos (by omega), Int.toNat_natCast]
    cases many (rd d) N l <;> rfl)
  have HP := Lib.hid (fun (W : World) (hW : Below w.heap.size w W) => parse_any t htl W (hL.on hW))
  rw [hp] at HP
  have hNf : Fits (N : Int) := (parseL_some hp).1
  have hd0 : decide ((N : Int) < 0) = false := decide_eq_false (by omega)
  have hd1 : decide (((d + 1 : Nat) : Int) < 1) = false := decide_eq_false (by omega)
  have hN63 : N ≤ 9223372036854775807 := by have := hNf.2; omega
  have hsub : wrap64 (((d + 1 : Nat) : Int) - 1) = (d : Int) := by unfold wrap64; omega
  have HL := Lib.hid hL
  have HR := Lib.hid hR
  have HH := Lib.hid h
  have HTT := Lib.hid hT
  obtain ⟨D, hD⟩ : ∃ D : Int, ((d + 1 : Nat) : Int) = D := ⟨_, rfl⟩
  rw [hD] at hd1 hsub ⊢
  clear hD
  clear hp hNf hL hR h hT
  go_enter Tryd.func57, Tryd.ntmps57
  go_wp2_with fail
  refine (HP.out _ (bA (Below.refl _ _) _)).mono ?_
  rintro e w1 ⟨rfl, hb1⟩
  have HBX := Lib.hid (show w1.heap[w.heap.size]? = some (.cells #[.int .i64 0, .string ⟨#[]⟩, .int .i64 0, .slice none 0 0] 26 (0, 0)) from (hb1.block _ (by simp)).trans (heap_alloc_new w _))
  have hB1 : Below w.heap.size w w1 := bT (bA (Below.refl _ _) _) hb1
  have hlt1 : w.heap.size < w1.heap.size := by have := hb1.size; simp at this; omega
  clear hb1
  have hlt1' := hlt1
  obtain ⟨B, hBd⟩ : ∃ B : Nat, w1.heap.size = B := ⟨_, rfl⟩
  go_wp2_with fail
  go_loopw [1, 33] (fun s1 s33 wr => ∃ (j : Nat) (xs : List Held) (l1 : List UInt8) (p1 : Option Addr) (c1 : Nat) (a : Option Addr) (cap : Nat), j ≤ N ∧ s33 = .int .i64 j ∧ s1 = .slice p1 l1.length c1 ∧ Hid (Grow d N l p c w B j xs l1 p1 c1 a cap wr)) (fun _ i _ => N - (intOf i).toNat)
  case atStart =>
    refine ⟨0, [], l, p, c, none, 0, Nat.zero_le _, rfl, rfl, Lib.hid ⟨rfl, Sub.refl _ _ _, joinR_nil' _, by omega, hB1.alloc hB1.size _, ?_, ?_, World.ownsRow_nil _ _ _ _, fun x hx => by cases hx⟩⟩
    · exact ((bA (Below.refl _ w1) _).block _ hlt1').trans HBX.out
    · rw [← hBd]; exact heap_alloc_new w1 _
  case round =>
    obtain ⟨j, xs, l1, p1, c1, a, cap, hj, rfl, rfl, HG⟩ := hrel
    by_cases hjl : j < N
    · have hdj : decide ((j : Int) < (N : Int)) = true := decide_eq_true (by omega)
      have HTK := Lib.hid (HTT.out l1 (by have := HG.out.short; omega) p1 c1 wr (HL.out.on HG.out.below) (HR.out.on HG.out.below) (HG.out.sub wr (HH.out.below HG.out.below)))
      go_wp2_with fail
      refine HTK.out.mono ?_
      rintro e w2 ⟨ht, hb2⟩
      cases hrd : rd d l1 with
      | none =>
        rw [hrd] at ht
        obtain ⟨k', S', n', q', m', d', p', x', c', rfl⟩ := ht
        have hbxA : ∀ X, (w2.alloc X).heap[w.heap.size]? = some (.cells #[.int .i64 0, .string ⟨#[]⟩, .int .i64 0, .slice none 0 0] 26 (0, 0)) := fun X => ((bA hb2 X).block _ (Array.getElem?_eq_some_iff.1 HG.out.box).1).trans HG.out.box
        have c0 := fun X => (cells4 (hbxA X)).1
        have c1 := fun X => (cells4 (hbxA X)).2.1
        have c2 := fun X => (cells4 (hbxA X)).2.2.1
        have c3 := fun X => (cells4 (hbxA X)).2.2.2
        have fz := fun X => frozen4 (hbxA X)
        have HBA := Lib.hid hbxA
        clear hbxA
        go_wp2_with fail
        have hE := heap_set4 (HBA.out (.cells #[.int .i64 k', .string S', .int .i64 n', .slice q' m' d'] 26 (0, 0))) (.int .i64 0) (.string ⟨#[]⟩) (.int .i64 0) (.slice none 0 0)
        have HE : Below w.heap.size w (set4 (w2.alloc (.cells #[.int .i64 k', .string S', .int .i64 n', .slice q' m' d'] 26 (0, 0))) w.heap.size (.int .i64 0) (.string ⟨#[]⟩) (.int .i64 0) (.slice none 0 0)) := set4_below (bA (HG.out.below.trans (hb2.mono HG.out.below.size)) _) (Nat.le_refl _) _ _ _ _
        show bodyPost _ _ _ _ _ (set4 (w2.alloc (.cells #[.int .i64 k', .string S', .int .i64 n', .slice q' m' d'] 26 (0, 0))) w.heap.size (.int .i64 0) (.string ⟨#[]⟩) (.int .i64 0) (.slice none 0 0))
        generalize set4 (w2.alloc (.cells #[.int .i64 k', .string S', .int .i64 n', .slice q' m' d'] 26 (0, 0))) w.heap.size (.int .i64 0) (.string ⟨#[]⟩) (.int .i64 0) (.slice none 0 0) = W at *
        obtain ⟨e0, e1, e2, e3⟩ := cells4 hE
        refine bodyPost_ret (v := .tuple #[.agg #[.int .i64 0, .string ⟨#[]⟩, .int .i64 0, .slice none 0 0], .slice none 0 0, .bool false]) (by simp [results, Tryd.results57, go_sem, e0, e1, e2, e3]) rfl ?_
        have hnone : many (rd d) N l = none := by
          rw [HG.out.red, show N - j = (N - j - 1) + 1 by omega]
          exact joined_fail _ _ _ _ hrd
        rw [HB.out, hnone]
        exact ⟨⟨_, _, _, _, _, _, _, _, _, rfl⟩, HE⟩
      | some y =>
        obtain ⟨x, l2⟩ := y
        rw [hrd] at ht
        obtain ⟨q', d', p2, c2, rfl, hfrom, hsub2⟩ := ht
        simp only [repCs]
        have hownA : ∀ X, (w2.alloc X).heap[B]? = some (.cells #[.int .i64 5, .string ⟨#[]⟩, .int .i64 0, .slice a j cap] 26 (0, 0)) := fun X => ((bA hb2 X).block _ (Array.getElem?_eq_some_iff.1 HG.out.own).1).trans HG.out.own
        have o3 := fun X => (cells4 (hownA X)).2.2.2
        clear hownA
        have HF := Lib.hid hfrom
        have HS := Lib.hid hsub2
        have HRD := Lib.hid hrd
        clear hfrom hsub2 hrd
        obtain ⟨x4, hx4⟩ : ∃ x4 : Obj, x4 = .cells #[.int .i64 x.kind, .string (bs x.str), .int .i64 x.num, .slice q' x.kids.length d'] 26 := ⟨_, rfl⟩
        have hsz2 : B < wr.heap.size := (Array.getElem?_eq_some_iff.1 HG.out.own).1
        have hs2 := hb2.size
        have hjb : j + 1 ≤ 1000000000 := by have := HG.out.short; have := rd_len d l1 x l2 HRD.out; omega
        have HROW := Lib.hid (HG.out.row.kept (below_grown (bA (bA hb2 x4) x4) none) (by simp [Value.ownBlock]; cases a <;> simp))
        rw [hx4] at HROW
        go_wp2_with (at_builtin; refine wpList_append_lies _ rfl (.tmp 47) (.tmp 49) 24 rfl (B + 1) 26 i0 (.agg #[.int .i64 0, .string ⟨#[]⟩, .int .i64 0, .slice none 0 0]) 4 56 Tryd.underlying24 hi hz0 hz1 hz2 rfl (by decide) _ j _ rfl HROW.out ⟨w2.heap.size + 1, 0, none⟩ 1 1 [.int .i64 x.kind, .string (bs x.str), .int .i64 x.num, .slice q' x.kids.length d'] rfl rfl ?c1 (by intro y hy; simp at hy; rcases hy with rfl | rfl | rfl | rfl <;> rfl) (by decide) (by unfold maxLen; omega) (by omega) (by simp; omega) (w2.heap.size + 2) (by simp) ?_)
        case c1 =>
          intro k u hk
          have hnew := heap_alloc_new' (w2.alloc (.cells #[.int .i64 x.kind, .string (bs x.str), .int .i64 x.num, .slice q' x.kids.length d'] 26)) (.cells #[.int .i64 x.kind, .string (bs x.str), .int .i64 x.num, .slice q' x.kids.length d'] 26) (w2.heap.size + 1) (by simp)
          rw [Lib.add_plain, Nat.zero_add, Lib.cell_of_heap hnew]
          rw [← hk]
          match k with
          | 0 => rfl
          | 1 => rfl
          | 2 => rfl
          | 3 => rfl
          | k + 4 => rfl
        intro g cap' w3 hown hgrow hgs hgl
        have hG2 := HG.out.step hjl (by omega) hb2 HF.out HS.out HRD.out _ _ hown hgrow hgs
        have HG2 := Lib.hid hG2
        have hown3 : w3.heap[B]? = some (.cells #[.int .i64 5, .string ⟨#[]⟩, .int .i64 0, .slice a j cap] 26 (0, 0)) := by
          have hl := HG.out.row.lt
          rw [hgrow.block B (by simp; omega) (fun e => by have := (hl _ e.symm).1; omega)]
          exact ((bA (bA hb2 _) _).block B hsz2).trans HG.out.own
        have f3 := frozen4 hown3 3
        have u3 := (cells4 hown3).2.2.2
        clear hown hgrow hG2 hown3
        go_wp2
        go_roundw
        case rel => exact ⟨j + 1, _, l2, p2, c2, some ⟨g, 0, none⟩, cap', by omega, by go_num, rfl, HG2⟩
        case measure => simp [intOf]; omega
    · have hdj : decide ((j : Int) < (N : Int)) = false := decide_eq_false (by omega)
      obtain rfl : j = N := by omega
      obtain ⟨o0, o1, o2, o3⟩ := cells4 HG.out.own
      have hbx := HG.out.box
      obtain ⟨z0, z1, z2, z3⟩ := cells4 hbx
      have fz := frozen4 hbx
      clear hbx
      go_wp2_with fail
      have hE := heap_set4 HG.out.box (.int .i64 5) (.string ⟨#[]⟩) (.int .i64 0) (.slice a j cap)
      have HE : Below w.heap.size w (set4 wr w.heap.size (.int .i64 5) (.string ⟨#[]⟩) (.int .i64 0) (.slice a j cap)) := set4_below HG.out.below (Nat.le_refl _) _ _ _ _
      have hFrom := array_from (lo := w.heap.size) (w' := set4 wr w.heap.size (.int .i64 5) (.string ⟨#[]⟩) (.int .i64 0) (.slice a j cap)) HG.out.len HG.out.row HG.out.kids (by omega) (Nat.le_succ _) (by rw [set4_size]; exact Nat.le_refl _) (fun k k1 _ => set4_other _ _ _ _ _ _ _ (by omega))
      show bodyPost _ _ _ _ _ (set4 wr w.heap.size (.int .i64 5) (.string ⟨#[]⟩) (.int .i64 0) (.slice a j cap))
      generalize set4 wr w.heap.size (.int .i64 5) (.string ⟨#[]⟩) (.int .i64 0) (.slice a j cap) = W at *
      obtain ⟨e0, e1, e2, e3⟩ := cells4 hE
      refine bodyPost_ret (v := .tuple #[.agg #[.int .i64 5, .string ⟨#[]⟩, .int .i64 0, .slice a j cap], .slice p1 l1.length c1, .bool true]) (by simp [results, Tryd.results57, go_sem, e0, e1, e2, e3]) rfl ?_
      have hsome : many (rd d) j l = some (xs.map (·.1), l1) := by
        rw [HG.out.red, Nat.sub_self]
        exact joinR_end _ _ _
      rw [HB.out, hsome]
      have hlen := HG.out.len
      refine ⟨⟨a, cap, p1, c1, ?_, hFrom, HG.out.sub⟩, HE⟩
      simp [repCs, Rep.kids, Rep.kind, Rep.str, Rep.num, hlen, bs]
end Go.Proofs.YtcikelcecfapcaaDoor

namespace Go.Proofs.YtcikelcecfapcaaDoor
open Go.RowKit Rp

/-- What takeArray answers, deep of D. -/
def ArrayAt (D : Nat) (ar : List UInt8 → List UInt8 → Option (Rep × List UInt8)) : Prop := ∀ (t l : List UInt8), l.length ≤ 1000000000 → t.length ≤ 281474976710656 → ∀ (p : Option Addr) (c : Nat) (w : World), Errs w → Runes w → Rest w p c l →
  Calls Tryd.prog 57 #[.string (bs t), .slice p l.length c, .int .i64 (D : Int)] w fun e w' => TookR w.heap.size w' p c l e (ar t l) ∧ Below w.heap.size w w'

/-- What take answers, given that. -/
def takeOf (ar : List UInt8 → List UInt8 → Option (Rep × List UInt8)) (l : List UInt8) : Option (Rep × List UInt8) :=
  match cut l with | none => none | some ([], _) => none | some (x :: t, rest) => kindOf ar x t rest

set_option maxHeartbeats 2000000 in
theorem take_none (ar : List UInt8 → List UInt8 → Option (Rep × List UInt8)) (l : List UInt8) (hc : cut l = none) (D : Int) (p : Option Addr) (c : Nat) (w : World) (hR : Runes w) (h : Rest w p c l) :
    Calls Tryd.prog 32 #[.slice p l.length c, .int .i64 D] w fun e w' => TookR w.heap.size w' p c l e (takeOf ar l) ∧ Below w.heap.size w w' := by
  have HO := Lib.hid (show takeOf ar l = none by rw [takeOf, hc])
  have HC := Lib.hid hc
  have HL1 := Lib.hid (fun (W : World) (hW : Below w.heap.size w W) => line_take l p c W (hR.on hW) (h.below hW))
  clear hc hR h
  go_enter Tryd.func32, Tryd.ntmps32
  go_wp2_with fail
  refine (HL1.out _ (bA (Below.refl _ _) _)).mono ?_
  rintro e w1 ⟨hv, hb1⟩
  rw [HC.out] at hv
  obtain ⟨S, q, n, d, rfl⟩ := hv
  have hbx : w1.heap[w.heap.size]? = some (.cells #[.int .i64 0, .string ⟨#[]⟩, .int .i64 0, .slice none 0 0] 26 (0, 0)) := (hb1.block _ (by simp)).trans (heap_alloc_new w _)
  obtain ⟨z0, z1, z2, z3⟩ := cells4 hbx
  have fz := frozen4 hbx
  go_wp2_with fail
  have hE := heap_set4 hbx (.int .i64 0) (.string ⟨#[]⟩) (.int .i64 0) (.slice none 0 0)
  have HE : Below w.heap.size w (set4 w1 w.heap.size (.int .i64 0) (.string ⟨#[]⟩) (.int .i64 0) (.slice none 0 0)) := set4_below (bT (bA (Below.refl _ _) _) hb1) (Nat.le_refl _) _ _ _ _
  show bodyPost _ _ _ _ _ (set4 w1 w.heap.size (.int .i64 0) (.string ⟨#[]⟩) (.int .i64 0) (.slice none 0 0))
  generalize set4 w1 w.heap.size (.int .i64 0) (.string ⟨#[]⟩) (.int .i64 0) (.slice none 0 0) = W at *
  obtain ⟨e0, e1, e2, e3⟩ := cells4 hE
  refine bodyPost_ret (v := .tuple #[.agg #[.int .i64 0, .string ⟨#[]⟩, .int .i64 0, .slice none 0 0], .slice none 0 0, .bool false]) (by simp [results, Tryd.results32, go_sem, e0, e1, e2, e3]) rfl ?_
  rw [HO.out]
  exact ⟨⟨_, _, _, _, _, _, _, _, _, rfl⟩, HE⟩

set_option maxHeartbeats 2000000 in
theorem take_empty (ar : List UInt8 → List UInt8 → Option (Rep × List UInt8)) (l r : List UInt8) (hc : cut l = some ([], r)) (D : Int) (p : Option Addr) (c : Nat) (w : World) (hR : Runes w) (h : Rest w p c l) :
    Calls Tryd.prog 32 #[.slice p l.length c, .int .i64 D] w fun e w' => TookR w.heap.size w' p c l e (takeOf ar l) ∧ Below w.heap.size w w' := by
  have HO := Lib.hid (show takeOf ar l = none by rw [takeOf, hc])
  have HC := Lib.hid hc
  have HL1 := Lib.hid (fun (W : World) (hW : Below w.heap.size w W) => line_take l p c W (hR.on hW) (h.below hW))
  clear hc hR h
  go_enter Tryd.func32, Tryd.ntmps32
  go_wp2_with fail
  refine (HL1.out _ (bA (Below.refl _ _) _)).mono ?_
  rintro e w1 ⟨hv, hb1⟩
  rw [HC.out] at hv
  obtain ⟨q, d, he, hs⟩ := hv
  rw [show bs [] = (⟨#[]⟩ : ByteArray) from rfl] at he
  subst he
  have hbx : w1.heap[w.heap.size]? = some (.cells #[.int .i64 0, .string ⟨#[]⟩, .int .i64 0, .slice none 0 0] 26 (0, 0)) := (hb1.block _ (by simp)).trans (heap_alloc_new w _)
  obtain ⟨z0, z1, z2, z3⟩ := cells4 hbx
  have fz := frozen4 hbx
  go_wp2_with fail
  have hE := heap_set4 hbx (.int .i64 0) (.string ⟨#[]⟩) (.int .i64 0) (.slice none 0 0)
  have HE : Below w.heap.size w (set4 w1 w.heap.size (.int .i64 0) (.string ⟨#[]⟩) (.int .i64 0) (.slice none 0 0)) := set4_below (bT (bA (Below.refl _ _) _) hb1) (Nat.le_refl _) _ _ _ _
  show bodyPost _ _ _ _ _ (set4 w1 w.heap.size (.int .i64 0) (.string ⟨#[]⟩) (.int .i64 0) (.slice none 0 0))
  generalize set4 w1 w.heap.size (.int .i64 0) (.string ⟨#[]⟩) (.int .i64 0) (.slice none 0 0) = W at *
  obtain ⟨e0, e1, e2, e3⟩ := cells4 hE
  refine bodyPost_ret (v := .tuple #[.agg #[.int .i64 0, .string ⟨#[]⟩, .int .i64 0, .slice none 0 0], .slice none 0 0, .bool false]) (by simp [results, Tryd.results32, go_sem, e0, e1, e2, e3]) rfl ?_
  rw [HO.out]
  exact ⟨⟨_, _, _, _, _, _, _, _, _, rfl⟩, HE⟩

theorem bs_tail (x : UInt8) (t : List UInt8) : (bs (x :: t)).extract 1 (bs (x :: t)).size = bs t := by
  apply ByteArray.ext
  rw [ByteArray.data_extract, bs_size]
  show (List.toArray (x :: t)).extract 1 (t.length + 1) = t.toArray
  simp
theorem bs_head (x y : UInt8) (t : List UInt8) : (((bs (x :: t)).extract 0 1).toList == [y]) = decide (x = y) := by
  have e : (bs (x :: t)).extract 0 1 = bs [x] := by
    apply ByteArray.ext
    rw [ByteArray.data_extract]
    show (List.toArray (x :: t)).extract 0 1 = [x].toArray
    simp
  rw [e, Lib.toList_data, list_bs]
  by_cases h : x = y
  · subst h; simp
  · simp [h]

theorem RepFrom.on {lo lo1 : Nat} {w w' : World} {x : Rep} {q : Option Addr} {d : Nat} (h : RepFrom lo1 w x q d) (hl : lo ≤ lo1) (hs : w.heap.size ≤ w'.heap.size) (hk : ∀ k, lo1 ≤ k → k < w.heap.size → w'.heap[k]? = w.heap[k]?) : RepFrom lo w' x q d := fun W hW => h W fun k k1 k2 => by
  rw [hW k (by omega) (by omega), hk k k1 k2]

set_option maxHeartbeats 4000000 in
theorem take_simple (ar : List UInt8 → List UInt8 → Option (Rep × List UInt8)) (l t r : List UInt8) (hc : cut l = some ((43 : UInt8) :: t, r)) (hl : l.length ≤ 1000000000) (D : Int) (p : Option Addr) (c : Nat) (w : World) (hL : Errs w) (hR : Runes w) (h : Rest w p c l) :
    Calls Tryd.prog 32 #[.slice p l.length c, .int .i64 D] w fun e w' => TookR w.heap.size w' p c l e (takeOf ar l) ∧ Below w.heap.size w w' := by
  have HO := Lib.hid (show takeOf ar l = kindOf ar (43 : UInt8) t r by rw [takeOf, hc])
  have HC := Lib.hid hc
  have hcl := cut_len hc
  rw [List.length_cons] at hcl
  have htl : t.length ≤ 281474976710656 := by omega
  have hrl : r.length ≤ 1000000000 := by omega
  have htm := Lib.hid (show t.length ≤ maxLen by unfold maxLen; omega)
  have hx1 := bs_tail (43 : UInt8) t
  have hemp : (bs ((43 : UInt8) :: t)).toList.isEmpty = false := by rw [Lib.toList_data, list_bs]; rfl
  have hge : 1 ≤ (bs ((43 : UInt8) :: t)).size := by rw [bs_size]; simp
  have k43 := bs_head 43 43 t
  rw [show decide ((43 : UInt8) = 43) = true from rfl] at k43
  have k45 := bs_head 43 45 t
  rw [show decide ((43 : UInt8) = 45) = false from rfl] at k45
  have k58 := bs_head 43 58 t
  rw [show decide ((43 : UInt8) = 58) = false from rfl] at k58
  have k36 := bs_head 43 36 t
  rw [show decide ((43 : UInt8) = 36) = false from rfl] at k36
  have k42 := bs_head 43 42 t
  rw [show decide ((43 : UInt8) = 42) = false from rfl] at k42
  have HL1 := Lib.hid (fun (W : World) (hW : Below w.heap.size w W) => line_take l p c W (hR.on hW) (h.below hW))
  have HL := Lib.hid hL
  have HR := Lib.hid hR
  have HH := Lib.hid h
  clear hc hL hR h hcl
  go_enter Tryd.func32, Tryd.ntmps32
  go_wp2_with fail
  refine (HL1.out _ (bA (Below.refl _ _) _)).mono ?_
  rintro e w1 ⟨hv, hb1⟩
  rw [HC.out] at hv
  obtain ⟨q, d, rfl, hs⟩ := hv
  have hB1 : Below w.heap.size w w1 := bT (bA (Below.refl _ _) _) hb1
  have hlt1 : w.heap.size < w1.heap.size := by have := hb1.size; simp at this; omega
  have HBX := Lib.hid (show w1.heap[w.heap.size]? = some (.cells #[.int .i64 0, .string ⟨#[]⟩, .int .i64 0, .slice none 0 0] 26 (0, 0)) from (hb1.block _ (by simp)).trans (heap_alloc_new w _))
  go_wp2_with fail
  refine (text_any _ _).mono ?_
  rintro e w2 ⟨rfl, hb2⟩
  have hbx2 := (hb2.block _ (Array.getElem?_eq_some_iff.1 HBX.out).1).trans HBX.out
  obtain ⟨z0, z1, z2, z3⟩ := cells4 hbx2
  have fz := frozen4 hbx2
  go_wp2_with fail
  have hE := heap_set4 hbx2 (.int .i64 0) (.string (bs t)) (.int .i64 0) (.slice none 0 0)
  have HE : Below w.heap.size w (set4 w2 w.heap.size (.int .i64 0) (.string (bs t)) (.int .i64 0) (.slice none 0 0)) := set4_below (bT hB1 hb2) (Nat.le_refl _) _ _ _ _
  show bodyPost _ _ _ _ _ (set4 w2 w.heap.size (.int .i64 0) (.string (bs t)) (.int .i64 0) (.slice none 0 0))
  generalize set4 w2 w.heap.size (.int .i64 0) (.string (bs t)) (.int .i64 0) (.slice none 0 0) = W at *
  obtain ⟨e0, e1, e2, e3⟩ := cells4 hE
  refine bodyPost_ret (v := .tuple #[.agg #[.int .i64 0, .string (bs t), .int .i64 0, .slice none 0 0], .slice q r.length d, .bool true]) (by simp [results, Tryd.results32, go_sem, e0, e1, e2, e3]) rfl ?_
  rw [HO.out, show kindOf ar (43 : UInt8) t r = some (.mk 0 t 0 [], r) from rfl]
  exact ⟨⟨none, 0, q, d, rfl, leaf_rep _ _ _ _ _ ⟨by decide, by decide⟩ ⟨by decide, by decide⟩ htm.out, hs⟩, HE⟩

set_option maxHeartbeats 4000000 in
theorem take_fault (ar : List UInt8 → List UInt8 → Option (Rep × List UInt8)) (l t r : List UInt8) (hc : cut l = some ((45 : UInt8) :: t, r)) (hl : l.length ≤ 1000000000) (D : Int) (p : Option Addr) (c : Nat) (w : World) (hL : Errs w) (hR : Runes w) (h : Rest w p c l) :
    Calls Tryd.prog 32 #[.slice p l.length c, .int .i64 D] w fun e w' => TookR w.heap.size w' p c l e (takeOf ar l) ∧ Below w.heap.size w w' := by
  have HO := Lib.hid (show takeOf ar l = kindOf ar (45 : UInt8) t r by rw [takeOf, hc])
  have HC := Lib.hid hc
  have hcl := cut_len hc
  rw [List.length_cons] at hcl
  have htl : t.length ≤ 281474976710656 := by omega
  have hrl : r.length ≤ 1000000000 := by omega
  have htm := Lib.hid (show t.length ≤ maxLen by unfold maxLen; omega)
  have hx1 := bs_tail (45 : UInt8) t
  have hemp : (bs ((45 : UInt8) :: t)).toList.isEmpty = false := by rw [Lib.toList_data, list_bs]; rfl
  have hge : 1 ≤ (bs ((45 : UInt8) :: t)).size := by rw [bs_size]; simp
  have k43 := bs_head 45 43 t
  rw [show decide ((45 : UInt8) = 43) = false from rfl] at k43
  have k45 := bs_head 45 45 t
  rw [show decide ((45 : UInt8) = 45) = true from rfl] at k45
  have k58 := bs_head 45 58 t
  rw [show decide ((45 : UInt8) = 58) = false from rfl] at k58
  have k36 := bs_head 45 36 t
  rw [show decide ((45 : UInt8) = 36) = false from rfl] at k36
  have k42 := bs_head 45 42 t
  rw [show decide ((45 : UInt8) = 42) = false from rfl] at k42
  have HL1 := Lib.hid (fun (W : World) (hW : Below w.heap.size w W) => line_take l p c W (hR.on hW) (h.below hW))
  have HL := Lib.hid hL
  have HR := Lib.hid hR
  have HH := Lib.hid h
  clear hc hL hR h hcl
  go_enter Tryd.func32, Tryd.ntmps32
  go_wp2_with fail
  refine (HL1.out _ (bA (Below.refl _ _) _)).mono ?_
  rintro e w1 ⟨hv, hb1⟩
  rw [HC.out] at hv
  obtain ⟨q, d, rfl, hs⟩ := hv
  have hB1 : Below w.heap.size w w1 := bT (bA (Below.refl _ _) _) hb1
  have hlt1 : w.heap.size < w1.heap.size := by have := hb1.size; simp at this; omega
  have HBX := Lib.hid (show w1.heap[w.heap.size]? = some (.cells #[.int .i64 0, .string ⟨#[]⟩, .int .i64 0, .slice none 0 0] 26 (0, 0)) from (hb1.block _ (by simp)).trans (heap_alloc_new w _))
  go_wp2_with fail
  refine (wrong_any _ _).mono ?_
  rintro e w2 ⟨rfl, hb2⟩
  have hbx2 := (hb2.block _ (Array.getElem?_eq_some_iff.1 HBX.out).1).trans HBX.out
  obtain ⟨z0, z1, z2, z3⟩ := cells4 hbx2
  have fz := frozen4 hbx2
  go_wp2_with fail
  have hE := heap_set4 hbx2 (.int .i64 1) (.string (bs t)) (.int .i64 0) (.slice none 0 0)
  have HE : Below w.heap.size w (set4 w2 w.heap.size (.int .i64 1) (.string (bs t)) (.int .i64 0) (.slice none 0 0)) := set4_below (bT hB1 hb2) (Nat.le_refl _) _ _ _ _
  show bodyPost _ _ _ _ _ (set4 w2 w.heap.size (.int .i64 1) (.string (bs t)) (.int .i64 0) (.slice none 0 0))
  generalize set4 w2 w.heap.size (.int .i64 1) (.string (bs t)) (.int .i64 0) (.slice none 0 0) = W at *
  obtain ⟨e0, e1, e2, e3⟩ := cells4 hE
  refine bodyPost_ret (v := .tuple #[.agg #[.int .i64 1, .string (bs t), .int .i64 0, .slice none 0 0], .slice q r.length d, .bool true]) (by simp [results, Tryd.results32, go_sem, e0, e1, e2, e3]) rfl ?_
  rw [HO.out, show kindOf ar (45 : UInt8) t r = some (.mk 1 t 0 [], r) from rfl]
  exact ⟨⟨none, 0, q, d, rfl, leaf_rep _ _ _ _ _ ⟨by decide, by decide⟩ ⟨by decide, by decide⟩ htm.out, hs⟩, HE⟩

set_option maxHeartbeats 4000000 in
theorem take_other (ar : List UInt8 → List UInt8 → Option (Rep × List UInt8)) (l t r : List UInt8) (x : UInt8) (hc : cut l = some (x :: t, r)) (hl : l.length ≤ 1000000000) (n43 : ¬ x = 43) (n45 : ¬ x = 45) (n58 : ¬ x = 58) (n36 : ¬ x = 36) (n42 : ¬ x = 42) (D : Int) (p : Option Addr) (c : Nat) (w : World) (hL : Errs w) (hR : Runes w) (h : Rest w p c l) :
    Calls Tryd.prog 32 #[.slice p l.length c, .int .i64 D] w fun e w' => TookR w.heap.size w' p c l e (takeOf ar l) ∧ Below w.heap.size w w' := by
  have HO := Lib.hid (show takeOf ar l = kindOf ar x t r by rw [takeOf, hc])
  have HC := Lib.hid hc
  have hcl := cut_len hc
  rw [List.length_cons] at hcl
  have htl : t.length ≤ 281474976710656 := by omega
  have hrl : r.length ≤ 1000000000 := by omega
  have htm := Lib.hid (show t.length ≤ maxLen by unfold maxLen; omega)
  have hx1 := bs_tail x t
  have hemp : (bs (x :: t)).toList.isEmpty = false := by rw [Lib.toList_data, list_bs]; rfl
  have hge : 1 ≤ (bs (x :: t)).size := by rw [bs_size]; simp
  have k43 := bs_head x 43 t
  rw [decide_eq_false n43] at k43
  have k45 := bs_head x 45 t
  rw [decide_eq_false n45] at k45
  have k58 := bs_head x 58 t
  rw [decide_eq_false n58] at k58
  have k36 := bs_head x 36 t
  rw [decide_eq_false n36] at k36
  have k42 := bs_head x 42 t
  rw [decide_eq_false n42] at k42
  have HL1 := Lib.hid (fun (W : World) (hW : Below w.heap.size w W) => line_take l p c W (hR.on hW) (h.below hW))
  have HL := Lib.hid hL
  have HR := Lib.hid hR
  have HH := Lib.hid h
  clear hc hL hR h hcl
  go_enter Tryd.func32, Tryd.ntmps32
  go_wp2_with fail
  refine (HL1.out _ (bA (Below.refl _ _) _)).mono ?_
  rintro e w1 ⟨hv, hb1⟩
  rw [HC.out] at hv
  obtain ⟨q, d, rfl, hs⟩ := hv
  have hB1 : Below w.heap.size w w1 := bT (bA (Below.refl _ _) _) hb1
  have hlt1 : w.heap.size < w1.heap.size := by have := hb1.size; simp at this; omega
  have HBX := Lib.hid (show w1.heap[w.heap.size]? = some (.cells #[.int .i64 0, .string ⟨#[]⟩, .int .i64 0, .slice none 0 0] 26 (0, 0)) from (hb1.block _ (by simp)).trans (heap_alloc_new w _))
  have hbx2 := ((Below.refl w1.heap.size w1).block _ (Array.getElem?_eq_some_iff.1 HBX.out).1).trans HBX.out
  obtain ⟨z0, z1, z2, z3⟩ := cells4 hbx2
  have fz := frozen4 hbx2
  go_wp2_with fail
  have hE := heap_set4 hbx2 (.int .i64 0) (.string ⟨#[]⟩) (.int .i64 0) (.slice none 0 0)
  have HE : Below w.heap.size w (set4 w1 w.heap.size (.int .i64 0) (.string ⟨#[]⟩) (.int .i64 0) (.slice none 0 0)) := set4_below hB1 (Nat.le_refl _) _ _ _ _
  show bodyPost _ _ _ _ _ (set4 w1 w.heap.size (.int .i64 0) (.string ⟨#[]⟩) (.int .i64 0) (.slice none 0 0))
  generalize set4 w1 w.heap.size (.int .i64 0) (.string ⟨#[]⟩) (.int .i64 0) (.slice none 0 0) = W at *
  obtain ⟨e0, e1, e2, e3⟩ := cells4 hE
  refine bodyPost_ret (v := .tuple #[.agg #[.int .i64 0, .string ⟨#[]⟩, .int .i64 0, .slice none 0 0], .slice none 0 0, .bool false]) (by simp [results, Tryd.results32, go_sem, e0, e1, e2, e3]) rfl ?_
  rw [HO.out, kindOf, if_neg n43, if_neg n45, if_neg n58, if_neg n36, if_neg n42]
  exact ⟨⟨_, _, _, _, _, _, _, _, _, rfl⟩, HE⟩

set_option maxHeartbeats 4000000 in
theorem take_whole (ar : List UInt8 → List UInt8 → Option (Rep × List UInt8)) (l t r : List UInt8) (hc : cut l = some ((58 : UInt8) :: t, r)) (hl : l.length ≤ 1000000000) (D : Int) (n : Int) (hp : parseL t = some n) (p : Option Addr) (c : Nat) (w : World) (hL : Errs w) (hR : Runes w) (h : Rest w p c l) :
    Calls Tryd.prog 32 #[.slice p l.length c, .int .i64 D] w fun e w' => TookR w.heap.size w' p c l e (takeOf ar l) ∧ Below w.heap.size w w' := by
  have HO := Lib.hid (show takeOf ar l = kindOf ar (58 : UInt8) t r by rw [takeOf, hc])
  have HC := Lib.hid hc
  have hcl := cut_len hc
  rw [List.length_cons] at hcl
  have htl : t.length ≤ 281474976710656 := by omega
  have hrl : r.length ≤ 1000000000 := by omega
  have htm := Lib.hid (show t.length ≤ maxLen by unfold maxLen; omega)
  have hx1 := bs_tail (58 : UInt8) t
  have hemp : (bs ((58 : UInt8) :: t)).toList.isEmpty = false := by rw [Lib.toList_data, list_bs]; rfl
  have hge : 1 ≤ (bs ((58 : UInt8) :: t)).size := by rw [bs_size]; simp
  have k43 := bs_head 58 43 t
  rw [show decide ((58 : UInt8) = 43) = false from rfl] at k43
  have k45 := bs_head 58 45 t
  rw [show decide ((58 : UInt8) = 45) = false from rfl] at k45
  have k58 := bs_head 58 58 t
  rw [show decide ((58 : UInt8) = 58) = true from rfl] at k58
  have k36 := bs_head 58 36 t
  rw [show decide ((58 : UInt8) = 36) = false from rfl] at k36
  have k42 := bs_head 58 42 t
  rw [show decide ((58 : UInt8) = 42) = false from rfl] at k42
  have HL1 := Lib.hid (fun (W : World) (hW : Below w.heap.size w W) => line_take l p c W (hR.on hW) (h.below hW))
  have HL := Lib.hid hL
  have HR := Lib.hid hR
  have HH := Lib.hid h
  clear hc hL hR h hcl
  go_enter Tryd.func32, Tryd.ntmps32
  go_wp2_with fail
  refine (HL1.out _ (bA (Below.refl _ _) _)).mono ?_
  rintro e w1 ⟨hv, hb1⟩
  rw [HC.out] at hv
  obtain ⟨q, d, rfl, hs⟩ := hv
  have hB1 : Below w.heap.size w w1 := bT (bA (Below.refl _ _) _) hb1
  have hlt1 : w.heap.size < w1.heap.size := by have := hb1.size; simp at this; omega
  have HBX := Lib.hid (show w1.heap[w.heap.size]? = some (.cells #[.int .i64 0, .string ⟨#[]⟩, .int .i64 0, .slice none 0 0] 26 (0, 0)) from (hb1.block _ (by simp)).trans (heap_alloc_new w _))
  have HPP := Lib.hid (parse_any t htl w1 (HL.out.on hB1))
  rw [hp] at HPP
  go_wp2_with fail
  refine HPP.out.mono ?_
  rintro e w2 ⟨rfl, hb2⟩
  go_wp2_with fail
  refine (int_any _ _).mono ?_
  rintro e w3 ⟨rfl, hb3⟩
  have hbx2 := ((bT hb2 hb3).block _ (Array.getElem?_eq_some_iff.1 HBX.out).1).trans HBX.out
  obtain ⟨z0, z1, z2, z3⟩ := cells4 hbx2
  have fz := frozen4 hbx2
  go_wp2_with fail
  have hE := heap_set4 hbx2 (.int .i64 2) (.string ⟨#[]⟩) (.int .i64 n) (.slice none 0 0)
  have HE : Below w.heap.size w (set4 w3 w.heap.size (.int .i64 2) (.string ⟨#[]⟩) (.int .i64 n) (.slice none 0 0)) := set4_below (bT (bT hB1 hb2) hb3) (Nat.le_refl _) _ _ _ _
  show bodyPost _ _ _ _ _ (set4 w3 w.heap.size (.int .i64 2) (.string ⟨#[]⟩) (.int .i64 n) (.slice none 0 0))
  generalize set4 w3 w.heap.size (.int .i64 2) (.string ⟨#[]⟩) (.int .i64 n) (.slice none 0 0) = W at *
  obtain ⟨e0, e1, e2, e3⟩ := cells4 hE
  refine bodyPost_ret (v := .tuple #[.agg #[.int .i64 2, .string ⟨#[]⟩, .int .i64 n, .slice none 0 0], .slice q r.length d, .bool true]) (by simp [results, Tryd.results32, go_sem, e0, e1, e2, e3]) rfl ?_
  rw [HO.out, show kindOf ar (58 : UInt8) t r = some (.mk 2 [] n [], r) by
    show (match parseL t with | none => none | some n => some (Rep.mk 2 [] n [], r)) = _
    rw [hp]]
  exact ⟨⟨none, 0, q, d, rfl, leaf_rep _ _ _ _ _ ⟨by decide, by decide⟩ (parseL_some hp).1 (Nat.zero_le _), hs⟩, HE⟩

set_option maxHeartbeats 4000000 in
theorem take_unwhole (ar : List UInt8 → List UInt8 → Option (Rep × List UInt8)) (l t r : List UInt8) (hc : cut l = some ((58 : UInt8) :: t, r)) (hl : l.length ≤ 1000000000) (D : Int) (hp : parseL t = none) (p : Option Addr) (c : Nat) (w : World) (hL : Errs w) (hR : Runes w) (h : Rest w p c l) :
    Calls Tryd.prog 32 #[.slice p l.length c, .int .i64 D] w fun e w' => TookR w.heap.size w' p c l e (takeOf ar l) ∧ Below w.heap.size w w' := by
  have HO := Lib.hid (show takeOf ar l = kindOf ar (58 : UInt8) t r by rw [takeOf, hc])
  have HC := Lib.hid hc
  have hcl := cut_len hc
  rw [List.length_cons] at hcl
  have htl : t.length ≤ 281474976710656 := by omega
  have hrl : r.length ≤ 1000000000 := by omega
  have htm := Lib.hid (show t.length ≤ maxLen by unfold maxLen; omega)
  have hx1 := bs_tail (58 : UInt8) t
  have hemp : (bs ((58 : UInt8) :: t)).toList.isEmpty = false := by rw [Lib.toList_data, list_bs]; rfl
  have hge : 1 ≤ (bs ((58 : UInt8) :: t)).size := by rw [bs_size]; simp
  have k43 := bs_head 58 43 t
  rw [show decide ((58 : UInt8) = 43) = false from rfl] at k43
  have k45 := bs_head 58 45 t
  rw [show decide ((58 : UInt8) = 45) = false from rfl] at k45
  have k58 := bs_head 58 58 t
  rw [show decide ((58 : UInt8) = 58) = true from rfl] at k58
  have k36 := bs_head 58 36 t
  rw [show decide ((58 : UInt8) = 36) = false from rfl] at k36
  have k42 := bs_head 58 42 t
  rw [show decide ((58 : UInt8) = 42) = false from rfl] at k42
  have HL1 := Lib.hid (fun (W : World) (hW : Below w.heap.size w W) => line_take l p c W (hR.on hW) (h.below hW))
  have HL := Lib.hid hL
  have HR := Lib.hid hR
  have HH := Lib.hid h
  clear hc hL hR h hcl
  go_enter Tryd.func32, Tryd.ntmps32
  go_wp2_with fail
  refine (HL1.out _ (bA (Below.refl _ _) _)).mono ?_
  rintro e w1 ⟨hv, hb1⟩
  rw [HC.out] at hv
  obtain ⟨q, d, rfl, hs⟩ := hv
  have hB1 : Below w.heap.size w w1 := bT (bA (Below.refl _ _) _) hb1
  have hlt1 : w.heap.size < w1.heap.size := by have := hb1.size; simp at this; omega
  have HBX := Lib.hid (show w1.heap[w.heap.size]? = some (.cells #[.int .i64 0, .string ⟨#[]⟩, .int .i64 0, .slice none 0 0] 26 (0, 0)) from (hb1.block _ (by simp)).trans (heap_alloc_new w _))
  have HPP := Lib.hid (parse_any t htl w1 (HL.out.on hB1))
  rw [hp] at HPP
  go_wp2_with fail
  refine HPP.out.mono ?_
  rintro e w2 ⟨rfl, hb2⟩
  go_wp2_with fail
  refine (int_any _ _).mono ?_
  rintro e w3 ⟨rfl, hb3⟩
  have hbx2 := ((bT hb2 hb3).block _ (Array.getElem?_eq_some_iff.1 HBX.out).1).trans HBX.out
  obtain ⟨z0, z1, z2, z3⟩ := cells4 hbx2
  have fz := frozen4 hbx2
  go_wp2_with fail
  have hE := heap_set4 hbx2 (.int .i64 2) (.string ⟨#[]⟩) (.int .i64 0) (.slice none 0 0)
  have HE : Below w.heap.size w (set4 w3 w.heap.size (.int .i64 2) (.string ⟨#[]⟩) (.int .i64 0) (.slice none 0 0)) := set4_below (bT (bT hB1 hb2) hb3) (Nat.le_refl _) _ _ _ _
  show bodyPost _ _ _ _ _ (set4 w3 w.heap.size (.int .i64 2) (.string ⟨#[]⟩) (.int .i64 0) (.slice none 0 0))
  generalize set4 w3 w.heap.size (.int .i64 2) (.string ⟨#[]⟩) (.int .i64 0) (.slice none 0 0) = W at *
  obtain ⟨e0, e1, e2, e3⟩ := cells4 hE
  refine bodyPost_ret (v := .tuple #[.agg #[.int .i64 2, .string ⟨#[]⟩, .int .i64 0, .slice none 0 0], .slice q r.length d, .bool false]) (by simp [results, Tryd.results32, go_sem, e0, e1, e2, e3]) rfl ?_
  rw [HO.out, show kindOf ar (58 : UInt8) t r = none by
    show (match parseL t with | none => none | some n => some (Rep.mk 2 [] n [], r)) = _
    rw [hp]]
  exact ⟨⟨_, _, _, _, _, _, _, _, _, rfl⟩, HE⟩

set_option maxHeartbeats 4000000 in
theorem take_bulk (ar : List UInt8 → List UInt8 → Option (Rep × List UInt8)) (l t r : List UInt8) (hc : cut l = some ((36 : UInt8) :: t, r)) (hl : l.length ≤ 1000000000) (D : Int) (p : Option Addr) (c : Nat) (w : World) (hL : Errs w) (hR : Runes w) (h : Rest w p c l) :
    Calls Tryd.prog 32 #[.slice p l.length c, .int .i64 D] w fun e w' => TookR w.heap.size w' p c l e (takeOf ar l) ∧ Below w.heap.size w w' := by
  have HO := Lib.hid (show takeOf ar l = kindOf ar (36 : UInt8) t r by rw [takeOf, hc])
  have HC := Lib.hid hc
  have hcl := cut_len hc
  rw [List.length_cons] at hcl
  have htl : t.length ≤ 281474976710656 := by omega
  have hrl : r.length ≤ 1000000000 := by omega
  have htm := Lib.hid (show t.length ≤ maxLen by unfold maxLen; omega)
  have hx1 := bs_tail (36 : UInt8) t
  have hemp : (bs ((36 : UInt8) :: t)).toList.isEmpty = false := by rw [Lib.toList_data, list_bs]; rfl
  have hge : 1 ≤ (bs ((36 : UInt8) :: t)).size := by rw [bs_size]; simp
  have k43 := bs_head 36 43 t
  rw [show decide ((36 : UInt8) = 43) = false from rfl] at k43
  have k45 := bs_head 36 45 t
  rw [show decide ((36 : UInt8) = 45) = false from rfl] at k45
  have k58 := bs_head 36 58 t
  rw [show decide ((36 : UInt8) = 58) = false from rfl] at k58
  have k36 := bs_head 36 36 t
  rw [show decide ((36 : UInt8) = 36) = true from rfl] at k36
  have k42 := bs_head 36 42 t
  rw [show decide ((36 : UInt8) = 42) = false from rfl] at k42
  have HL1 := Lib.hid (fun (W : World) (hW : Below w.heap.size w W) => line_take l p c W (hR.on hW) (h.below hW))
  have HL := Lib.hid hL
  have HR := Lib.hid hR
  have HH := Lib.hid h
  clear hc hL hR h hcl
  go_enter Tryd.func32, Tryd.ntmps32
  go_wp2_with fail
  refine (HL1.out _ (bA (Below.refl _ _) _)).mono ?_
  rintro e w1 ⟨hv, hb1⟩
  rw [HC.out] at hv
  obtain ⟨q, d, rfl, hs⟩ := hv
  have hB1 : Below w.heap.size w w1 := bT (bA (Below.refl _ _) _) hb1
  have hlt1 : w.heap.size < w1.heap.size := by have := hb1.size; simp at this; omega
  have HBX := Lib.hid (show w1.heap[w.heap.size]? = some (.cells #[.int .i64 0, .string ⟨#[]⟩, .int .i64 0, .slice none 0 0] 26 (0, 0)) from (hb1.block _ (by simp)).trans (heap_alloc_new w _))
  have HCT := Lib.hid (bulk_any t r htl q d w1 (HL.out.on hB1) (hs w1 (HH.out.below hB1)))
  go_wp2_with fail
  refine HCT.out.mono ?_
  rintro e w2 ⟨hv, hb2⟩
  have hbx2 := (hb2.block _ (Array.getElem?_eq_some_iff.1 HBX.out).1).trans HBX.out
  obtain ⟨z0, z1, z2, z3⟩ := cells4 hbx2
  have fz := frozen4 hbx2
  have hko : kindOf ar (36 : UInt8) t r = bulkOf t r := rfl
  cases hb : bulkOf t r with
  | none =>
    rw [hb] at hv
    obtain ⟨k', S', n', q', m', d', p', x', c', rfl⟩ := hv
    go_wp2_with fail
    have hE := heap_set4 hbx2 ((.int .i64 k')) ((.string S')) ((.int .i64 n')) ((.slice q' m' d'))
    have HE : Below w.heap.size w (set4 w2 w.heap.size ((.int .i64 k')) ((.string S')) ((.int .i64 n')) ((.slice q' m' d'))) := set4_below (bT hB1 hb2) (Nat.le_refl _) _ _ _ _
    show bodyPost _ _ _ _ _ (set4 w2 w.heap.size ((.int .i64 k')) ((.string S')) ((.int .i64 n')) ((.slice q' m' d')))
    generalize set4 w2 w.heap.size ((.int .i64 k')) ((.string S')) ((.int .i64 n')) ((.slice q' m' d')) = W at *
    obtain ⟨e0, e1, e2, e3⟩ := cells4 hE
    refine bodyPost_ret (v := .tuple #[.agg #[(.int .i64 k'), (.string S'), (.int .i64 n'), (.slice q' m' d')], .slice p' x' c', .bool false]) (by simp [results, Tryd.results32, go_sem, e0, e1, e2, e3]) rfl ?_
    rw [HO.out, hko, hb]
    exact ⟨⟨_, _, _, _, _, _, _, _, _, rfl⟩, HE⟩
  | some y =>
    obtain ⟨x, l2⟩ := y
    rw [hb] at hv
    obtain ⟨q', d', p', c', rfl, hfrom, hsub⟩ := hv
    simp only [repCs]
    go_wp2_with fail
    have hE := heap_set4 hbx2 ((.int .i64 x.kind)) ((.string (bs x.str))) ((.int .i64 x.num)) ((.slice q' x.kids.length d'))
    have HE : Below w.heap.size w (set4 w2 w.heap.size ((.int .i64 x.kind)) ((.string (bs x.str))) ((.int .i64 x.num)) ((.slice q' x.kids.length d'))) := set4_below (bT hB1 hb2) (Nat.le_refl _) _ _ _ _
    have hF := hfrom.on (lo := w.heap.size) (w' := set4 w2 w.heap.size (.int .i64 x.kind) (.string (bs x.str)) (.int .i64 x.num) (.slice q' x.kids.length d')) (by omega) (by rw [set4_size]; exact Nat.le_refl _) (fun k k1 _ => set4_other _ _ _ _ _ _ _ (by omega))
    show bodyPost _ _ _ _ _ (set4 w2 w.heap.size ((.int .i64 x.kind)) ((.string (bs x.str))) ((.int .i64 x.num)) ((.slice q' x.kids.length d')))
    generalize set4 w2 w.heap.size ((.int .i64 x.kind)) ((.string (bs x.str))) ((.int .i64 x.num)) ((.slice q' x.kids.length d')) = W at *
    obtain ⟨e0, e1, e2, e3⟩ := cells4 hE
    refine bodyPost_ret (v := .tuple #[.agg #[(.int .i64 x.kind), (.string (bs x.str)), (.int .i64 x.num), (.slice q' x.kids.length d')], .slice p' l2.length c', .bool true]) (by simp [results, Tryd.results32, go_sem, e0, e1, e2, e3]) rfl ?_
    rw [HO.out, hko, hb]
    exact ⟨⟨q', d', p', c', rfl, hF, hs.trans hsub⟩, HE⟩

set_option maxHeartbeats 4000000 in
theorem take_array (ar : List UInt8 → List UInt8 → Option (Rep × List UInt8)) (l t r : List UInt8) (hc : cut l = some ((42 : UInt8) :: t, r)) (hl : l.length ≤ 1000000000) (D : Nat) (hA : ArrayAt D ar) (p : Option Addr) (c : Nat) (w : World) (hL : Errs w) (hR : Runes w) (h : Rest w p c l) :
    Calls Tryd.prog 32 #[.slice p l.length c, .int .i64 (D : Int)] w fun e w' => TookR w.heap.size w' p c l e (takeOf ar l) ∧ Below w.heap.size w w' := by
  have HO := Lib.hid (show takeOf ar l = kindOf ar (42 : UInt8) t r by rw [takeOf, hc])
  have HC := Lib.hid hc
  have hcl := cut_len hc
  rw [List.length_cons] at hcl
  have htl : t.length ≤ 281474976710656 := by omega
  have hrl : r.length ≤ 1000000000 := by omega
  have htm := Lib.hid (show t.length ≤ maxLen by unfold maxLen; omega)
  have hx1 := bs_tail (42 : UInt8) t
  have hemp : (bs ((42 : UInt8) :: t)).toList.isEmpty = false := by rw [Lib.toList_data, list_bs]; rfl
  have hge : 1 ≤ (bs ((42 : UInt8) :: t)).size := by rw [bs_size]; simp
  have k43 := bs_head 42 43 t
  rw [show decide ((42 : UInt8) = 43) = false from rfl] at k43
  have k45 := bs_head 42 45 t
  rw [show decide ((42 : UInt8) = 45) = false from rfl] at k45
  have k58 := bs_head 42 58 t
  rw [show decide ((42 : UInt8) = 58) = false from rfl] at k58
  have k36 := bs_head 42 36 t
  rw [show decide ((42 : UInt8) = 36) = false from rfl] at k36
  have k42 := bs_head 42 42 t
  rw [show decide ((42 : UInt8) = 42) = true from rfl] at k42
  have HL1 := Lib.hid (fun (W : World) (hW : Below w.heap.size w W) => line_take l p c W (hR.on hW) (h.below hW))
  have HL := Lib.hid hL
  have HR := Lib.hid hR
  have HH := Lib.hid h
  clear hc hL hR h hcl
  go_enter Tryd.func32, Tryd.ntmps32
  go_wp2_with fail
  refine (HL1.out _ (bA (Below.refl _ _) _)).mono ?_
  rintro e w1 ⟨hv, hb1⟩
  rw [HC.out] at hv
  obtain ⟨q, d, rfl, hs⟩ := hv
  have hB1 : Below w.heap.size w w1 := bT (bA (Below.refl _ _) _) hb1
  have hlt1 : w.heap.size < w1.heap.size := by have := hb1.size; simp at this; omega
  have HBX := Lib.hid (show w1.heap[w.heap.size]? = some (.cells #[.int .i64 0, .string ⟨#[]⟩, .int .i64 0, .slice none 0 0] 26 (0, 0)) from (hb1.block _ (by simp)).trans (heap_alloc_new w _))
  have HCT := Lib.hid (hA t r hrl htl q d w1 (HL.out.on hB1) (HR.out.on hB1) (hs w1 (HH.out.below hB1)))
  go_wp2_with fail
  refine HCT.out.mono ?_
  rintro e w2 ⟨hv, hb2⟩
  have hbx2 := (hb2.block _ (Array.getElem?_eq_some_iff.1 HBX.out).1).trans HBX.out
  obtain ⟨z0, z1, z2, z3⟩ := cells4 hbx2
  have fz := frozen4 hbx2
  have hko : kindOf ar (42 : UInt8) t r = ar t r := rfl
  cases hb : ar t r with
  | none =>
    rw [hb] at hv
    obtain ⟨k', S', n', q', m', d', p', x', c', rfl⟩ := hv
    go_wp2_with fail
    have hE := heap_set4 hbx2 ((.int .i64 k')) ((.string S')) ((.int .i64 n')) ((.slice q' m' d'))
    have HE : Below w.heap.size w (set4 w2 w.heap.size ((.int .i64 k')) ((.string S')) ((.int .i64 n')) ((.slice q' m' d'))) := set4_below (bT hB1 hb2) (Nat.le_refl _) _ _ _ _
    show bodyPost _ _ _ _ _ (set4 w2 w.heap.size ((.int .i64 k')) ((.string S')) ((.int .i64 n')) ((.slice q' m' d')))
    generalize set4 w2 w.heap.size ((.int .i64 k')) ((.string S')) ((.int .i64 n')) ((.slice q' m' d')) = W at *
    obtain ⟨e0, e1, e2, e3⟩ := cells4 hE
    refine bodyPost_ret (v := .tuple #[.agg #[(.int .i64 k'), (.string S'), (.int .i64 n'), (.slice q' m' d')], .slice p' x' c', .bool false]) (by simp [results, Tryd.results32, go_sem, e0, e1, e2, e3]) rfl ?_
    rw [HO.out, hko, hb]
    exact ⟨⟨_, _, _, _, _, _, _, _, _, rfl⟩, HE⟩
  | some y =>
    obtain ⟨x, l2⟩ := y
    rw [hb] at hv
    obtain ⟨q', d', p', c', rfl, hfrom, hsub⟩ := hv
    simp only [repCs]
    go_wp2_with fail
    have hE := heap_set4 hbx2 ((.int .i64 x.kind)) ((.string (bs x.str))) ((.int .i64 x.num)) ((.slice q' x.kids.length d'))
    have HE : Below w.heap.size w (set4 w2 w.heap.size ((.int .i64 x.kind)) ((.string (bs x.str))) ((.int .i64 x.num)) ((.slice q' x.kids.length d'))) := set4_below (bT hB1 hb2) (Nat.le_refl _) _ _ _ _
    have hF := hfrom.on (lo := w.heap.size) (w' := set4 w2 w.heap.size (.int .i64 x.kind) (.string (bs x.str)) (.int .i64 x.num) (.slice q' x.kids.length d')) (by omega) (by rw [set4_size]; exact Nat.le_refl _) (fun k k1 _ => set4_other _ _ _ _ _ _ _ (by omega))
    show bodyPost _ _ _ _ _ (set4 w2 w.heap.size ((.int .i64 x.kind)) ((.string (bs x.str))) ((.int .i64 x.num)) ((.slice q' x.kids.length d')))
    generalize set4 w2 w.heap.size ((.int .i64 x.kind)) ((.string (bs x.str))) ((.int .i64 x.num)) ((.slice q' x.kids.length d')) = W at *
    obtain ⟨e0, e1, e2, e3⟩ := cells4 hE
    refine bodyPost_ret (v := .tuple #[.agg #[(.int .i64 x.kind), (.string (bs x.str)), (.int .i64 x.num), (.slice q' x.kids.length d')], .slice p' l2.length c', .bool true]) (by simp [results, Tryd.results32, go_sem, e0, e1, e2, e3]) rfl ?_
    rw [HO.out, hko, hb]
    exact ⟨⟨q', d', p', c', rfl, hF, hs.trans hsub⟩, HE⟩

/-- resp.take, given takeArray. -/
theorem take_of (D : Nat) (ar : List UInt8 → List UInt8 → Option (Rep × List UInt8)) (hA : ArrayAt D ar) (l : List UInt8) (hl : l.length ≤ 1000000000) (p : Option Addr) (c : Nat) (w : World) (hL : Errs w) (hR : Runes w) (h : Rest w p c l) :
    Calls Tryd.prog 32 #[.slice p l.length c, .int .i64 (D : Int)] w fun e w' => TookR w.heap.size w' p c l e (takeOf ar l) ∧ Below w.heap.size w w' := by
  cases hc : cut l with
  | none => exact take_none ar l hc D p c w hR h
  | some y =>
    obtain ⟨t, r⟩ := y
    cases t with
    | nil => exact take_empty ar l r hc D p c w hR h
    | cons x t =>
      by_cases n43 : x = 43
      · subst n43; exact take_simple ar l t r hc hl D p c w hL hR h
      by_cases n45 : x = 45
      · subst n45; exact take_fault ar l t r hc hl D p c w hL hR h
      by_cases n58 : x = 58
      · subst n58
        cases hp : parseL t with
        | none => exact take_unwhole ar l t r hc hl D hp p c w hL hR h
        | some n => exact take_whole ar l t r hc hl D n hp p c w hL hR h
      by_cases n36 : x = 36
      · subst n36; exact take_bulk ar l t r hc hl D p c w hL hR h
      by_cases n42 : x = 42
      · subst n42; exact take_array ar l t r hc hl D hA p c w hL hR h
      exact take_other ar l t r x hc hl n43 n45 n58 n36 n42 D p c w hL hR h

theorem rd_zero (l : List UInt8) : rd 0 l = takeOf (fun _ _ => none) l := by
  rw [rd, takeOf]
  rcases cut l with _ | ⟨_ | ⟨x, t⟩, r⟩ <;> rfl
theorem rd_succ (d : Nat) (l : List UInt8) : rd (d + 1) l = takeOf (arrayOf (rd d)) l := by
  rw [rd, takeOf]
  rcases cut l with _ | ⟨_ | ⟨x, t⟩, r⟩ <;> rfl

/-- resp.take, of any bytes. -/
theorem take_any : ∀ d, d ≤ 100 → TakeAt d
  | 0, _ => fun l hl p c w hL hR h => by
    rw [rd_zero]
    exact take_of 0 _ (fun t l _ htl p c w hL _ _ => array_zero t l htl p c w hL) l hl p c w hL hR h
  | d + 1, hd => fun l hl p c w hL hR h => by
    rw [rd_succ]
    refine take_of (d + 1) _ (fun t l hl htl p c w hL hR h => ?_) l hl p c w hL hR h
    cases hp : parseL t with
    | none => exact array_unparsed (rd d) (d + 1) t l htl hp p c w hL
    | some n =>
      by_cases hn : n < 0
      · exact array_neg (rd d) (d + 1) t l htl n hp hn p c w hL
      · obtain ⟨N, rfl⟩ : ∃ N : Nat, n = (N : Int) := ⟨n.toNat, by omega⟩
        exact array_step d (by omega) (take_any d (by omega)) t l hl htl N hp p c w hL hR h
end Go.Proofs.YtcikelcecfapcaaDoor

namespace Go.Proofs.YtcikelcecfapcaaDoor
open Go.RowKit Rp

/-- What Read answers. -/
def ReadV (lo : Nat) (w' : World) (l : List UInt8) (e : Ending) (a : Option (Rep × List UInt8)) : Prop :=
  match a with
  | some (r, s) => ∃ q d, e = .returned (.tuple #[.agg (repCs r q d), .int .i64 ((l.length - s.length : Nat) : Int), .bool true]) ∧ RepFrom lo w' r q d
  | none => e = .returned (.tuple #[.agg #[.int .i64 0, .string ⟨#[]⟩, .int .i64 0, .slice none 0 0], .int .i64 0, .bool false])

theorem heap_lt_alloc (w : World) (o : Obj) : w.heap.size < (w.alloc o).heap.size := by simp

set_option maxRecDepth 20000 in
set_option maxHeartbeats 4000000 in
theorem read_any (l : List UInt8) (hl : l.length ≤ 1000000000) (p : Option Addr) (c : Nat) (w : World) (hL : Errs w) (hR : Runes w) (h : Rest w p c l) :
    Calls Tryd.prog 10 #[.slice p l.length c] w fun e w' => ReadV w.heap.size w' l e (rd 4 l) ∧ Below w.heap.size w w' := by
  have HT := Lib.hid (fun (W : World) (hW : Below w.heap.size w W) => take_any 4 (by decide) l hl p c W (hL.on hW) (hR.on hW) (h.below hW))
  clear hL hR h
  go_enter Tryd.func10, Tryd.ntmps10
  go_wp2_with fail
  refine (HT.out _ (bA (Below.refl _ _) _)).mono ?_
  rintro e w1 ⟨hv, hb1⟩
  have hB1 : Below w.heap.size w w1 := bT (bA (Below.refl _ _) _) hb1
  have hlt1 : w.heap.size < w1.heap.size := by have := hb1.size; simp at this; omega
  have hbxA : ∀ X, (w1.alloc X).heap[w.heap.size]? = some (.cells #[.int .i64 0, .string ⟨#[]⟩, .int .i64 0, .slice none 0 0] 26 (0, 0)) := fun X => ((bA (Below.refl _ w1) X).block _ hlt1).trans ((hb1.block _ (by simp)).trans (heap_alloc_new w _))
  have z0 := fun X => (cells4 (hbxA X)).1
  have z1 := fun X => (cells4 (hbxA X)).2.1
  have z2 := fun X => (cells4 (hbxA X)).2.2.1
  have z3 := fun X => (cells4 (hbxA X)).2.2.2
  have fz := fun X => frozen4 (hbxA X)
  have HBX := Lib.hid hbxA
  have HLT := Lib.hid hlt1
  clear hbxA hlt1
  cases hrd : rd 4 l with
  | none =>
    rw [hrd] at hv
    obtain ⟨k', S', n', q', m', d', p', x', c', rfl⟩ := hv
    have HRD := Lib.hid hrd
    clear hrd
    go_wp2_with fail
    have hE := heap_set4 (HBX.out (.cells #[.int .i64 k', .string S', .int .i64 n', .slice q' m' d'] 26 (0, 0))) (.int .i64 0) (.string ⟨#[]⟩) (.int .i64 0) (.slice none 0 0)
    have HE : Below w.heap.size w (set4 (w1.alloc (.cells #[.int .i64 k', .string S', .int .i64 n', .slice q' m' d'] 26 (0, 0))) w.heap.size (.int .i64 0) (.string ⟨#[]⟩) (.int .i64 0) (.slice none 0 0)) := set4_below (bA hB1 _) (Nat.le_refl _) _ _ _ _
    show bodyPost _ _ _ _ _ (set4 (w1.alloc (.cells #[.int .i64 k', .string S', .int .i64 n', .slice q' m' d'] 26 (0, 0))) w.heap.size (.int .i64 0) (.string ⟨#[]⟩) (.int .i64 0) (.slice none 0 0))
    generalize set4 (w1.alloc (.cells #[.int .i64 k', .string S', .int .i64 n', .slice q' m' d'] 26 (0, 0))) w.heap.size (.int .i64 0) (.string ⟨#[]⟩) (.int .i64 0) (.slice none 0 0) = W at *
    obtain ⟨e0, e1, e2, e3⟩ := cells4 hE
    exact bodyPost_ret (v := .tuple #[.agg #[.int .i64 0, .string ⟨#[]⟩, .int .i64 0, .slice none 0 0], .int .i64 0, .bool false]) (by simp [results, Tryd.results10, go_sem, e0, e1, e2, e3]) rfl ⟨by rw [HRD.out]; rfl, HE⟩
  | some y =>
    obtain ⟨x, s⟩ := y
    have hlen := rd_len 4 l x s hrd
    rw [hrd] at hv
    obtain ⟨q', d', p', c', rfl, hfrom, -⟩ := hv
    have HF := Lib.hid hfrom
    have HRD := Lib.hid hrd
    clear hrd hfrom
    simp only [repCs]
    have hsub : wrap64 ((l.length : Int) - (s.length : Int)) = ((l.length - s.length : Nat) : Int) := by unfold wrap64; omega
    go_wp2_with fail
    have hE := heap_set4 (HBX.out (.cells #[.int .i64 x.kind, .string (bs x.str), .int .i64 x.num, .slice q' x.kids.length d'] 26 (0, 0))) (.int .i64 x.kind) (.string (bs x.str)) (.int .i64 x.num) (.slice q' x.kids.length d')
    have HE : Below w.heap.size w (set4 (w1.alloc (.cells #[.int .i64 x.kind, .string (bs x.str), .int .i64 x.num, .slice q' x.kids.length d'] 26 (0, 0))) w.heap.size (.int .i64 x.kind) (.string (bs x.str)) (.int .i64 x.num) (.slice q' x.kids.length d')) := set4_below (bA hB1 _) (Nat.le_refl _) _ _ _ _
    have hF := HF.out.on (lo := w.heap.size) (w' := set4 (w1.alloc (.cells #[.int .i64 x.kind, .string (bs x.str), .int .i64 x.num, .slice q' x.kids.length d'] 26 (0, 0))) w.heap.size (.int .i64 x.kind) (.string (bs x.str)) (.int .i64 x.num) (.slice q' x.kids.length d')) (by have := HLT.out; simp) (by rw [set4_size]; simp) (fun k k1 k2 => by
      rw [set4_other _ _ _ _ _ _ _ (by have k1' := Nat.lt_of_lt_of_le (heap_lt_alloc w _) k1; omega)]
      exact (bA (Below.refl _ w1) _).block k k2)
    show bodyPost _ _ _ _ _ (set4 (w1.alloc (.cells #[.int .i64 x.kind, .string (bs x.str), .int .i64 x.num, .slice q' x.kids.length d'] 26 (0, 0))) w.heap.size (.int .i64 x.kind) (.string (bs x.str)) (.int .i64 x.num) (.slice q' x.kids.length d'))
    generalize set4 (w1.alloc (.cells #[.int .i64 x.kind, .string (bs x.str), .int .i64 x.num, .slice q' x.kids.length d'] 26 (0, 0))) w.heap.size (.int .i64 x.kind) (.string (bs x.str)) (.int .i64 x.num) (.slice q' x.kids.length d') = W at *
    obtain ⟨e0, e1, e2, e3⟩ := cells4 hE
    exact bodyPost_ret (v := .tuple #[.agg #[.int .i64 x.kind, .string (bs x.str), .int .i64 x.num, .slice q' x.kids.length d'], .int .i64 ((l.length - s.length : Nat) : Int), .bool true]) (by simp [results, Tryd.results10, go_sem, e0, e1, e2, e3]; omega) rfl ⟨by rw [HRD.out]; exact ⟨q', d', rfl, hF⟩, HE⟩
end Go.Proofs.YtcikelcecfapcaaDoor

namespace Go.Proofs.YtcikelcecfapcaaDoor
open Go.RowKit Rp

theorem brk_line (u : List UInt8) : ∀ (y : List UInt8), (∀ c ∈ y, c ≠ 13 ∧ c ≠ 10) → brk (y ++ 13 :: u) = y.length
  | [], _ => by simp [brk, List.findIdx_cons, isB]
  | a :: y, h => by
    have ih := brk_line u y (fun c hc => h c (List.mem_cons_of_mem _ hc))
    obtain ⟨h1, h2⟩ := h a List.mem_cons_self
    unfold brk at ih ⊢
    rw [List.cons_append, List.findIdx_cons, ih]
    have e1 : (a == 13) = false := beq_eq_false_iff_ne.2 h1
    have e2 : (a == 10) = false := beq_eq_false_iff_ne.2 h2
    simp [isB, e1, e2]
theorem cut_line (y t : List UInt8) (h : ∀ c ∈ y, c ≠ 13 ∧ c ≠ 10) : cut (y ++ 13 :: 10 :: t) = some (y, t) := by
  unfold cut
  rw [brk_line (10 :: t) y h, List.drop_left, List.take_left]
  rw [if_pos (by rfl), List.drop_append]
  simp

/-- What take does with an array. -/
def arD : Nat → List UInt8 → List UInt8 → Option (Rep × List UInt8)
  | 0 => fun _ _ => none
  | d + 1 => arrayOf (rd d)
theorem rd_as : ∀ (d : Nat) (l : List UInt8), rd d l = takeOf (arD d) l
  | 0, l => rd_zero l
  | d + 1, l => rd_succ d l
theorem rd_line (d : Nat) (x : UInt8) (y t : List UInt8) (hx : x ≠ 13 ∧ x ≠ 10) (h : ∀ c ∈ y, c ≠ 13 ∧ c ≠ 10) : rd d (x :: (y ++ 13 :: 10 :: t)) = kindOf (arD d) x y t := by
  rw [rd_as, takeOf]
  have := cut_line (x :: y) t (fun c hc => by
    rcases List.mem_cons.1 hc with rfl | hc
    · exact hx
    · exact h c hc)
  rw [List.cons_append] at this
  rw [this]
theorem parse_itoa (n : Int) (h : Fits n) : parseL (Lib.itoa n) = some n := by
  unfold parseL
  rw [Num.atoi_itoa n h.1 h.2]
  simp
theorem itoa_len_ne (n : Nat) : Lib.itoa (n : Int) ≠ [45, 49] := by
  intro e
  rw [itoa_nat] at e
  have := digits_all n 45 (by rw [e]; simp)
  simp at this
theorem many_enc (d : Nat) : ∀ (l : List Rep) (t : List UInt8), (∀ x ∈ l, ∀ t, rd d (enc x ++ t) = some (x, t)) → many (rd d) l.length (encL l ++ t) = some (l, t)
  | [], t, _ => by simp [many, encL]
  | x :: l, t, h => by
    rw [List.length_cons, many, encL, List.append_assoc, h x List.mem_cons_self]
    simp only
    rw [many_enc d l t (fun y hy => h y (List.mem_cons_of_mem _ hy))]

theorem fits_len {n : Nat} (h : n ≤ maxLen) : Fits (n : Int) := by unfold maxLen at h; exact ⟨by omega, by omega⟩

theorem rd_enc (w : World) (r : Rep) : ∀ (d : Nat) (p : Option Addr) (c : Nat), RepIn w r p c → right d r = true → ∀ t, rd d (enc r ++ t) = some (r, t) := by
  refine Rep.ind (p := fun r => ∀ (d : Nat) (p : Option Addr) (c : Nat), RepIn w r p c → right d r = true → ∀ t, rd d (enc r ++ t) = some (r, t)) ?_ r
  intro k s n l ih d p c h hr t
  obtain ⟨_, hn, hs, hlc, hcm, _⟩ := h.parts
  rw [right.eq_def] at hr
  simp only at hr
  by_cases h0 : k = 0
  · subst h0
    simp only [true_or, if_true, Bool.and_eq_true, beq_iff_eq, List.isEmpty_iff] at hr
    obtain ⟨⟨rfl, rfl⟩, hc⟩ := hr
    have e : enc (.mk 0 s 0 []) ++ t = 43 :: (s ++ 13 :: 10 :: t) := by simp [enc]
    rw [e, rd_line d 43 s t (by decide) (calm_of hc)]
    rfl
  by_cases h1 : k = 1
  · subst h1
    simp only [or_true, if_true, Bool.and_eq_true, beq_iff_eq, List.isEmpty_iff] at hr
    obtain ⟨⟨rfl, rfl⟩, hc⟩ := hr
    have e : enc (.mk 1 s 0 []) ++ t = 45 :: (s ++ 13 :: 10 :: t) := by simp [enc]
    rw [e, rd_line d 45 s t (by decide) (calm_of hc)]
    rfl
  rw [if_neg (by omega)] at hr
  by_cases h2 : k = 2
  · subst h2
    simp only [if_true, Bool.and_eq_true, List.isEmpty_iff] at hr
    obtain ⟨rfl, rfl⟩ := hr
    have e : enc (.mk 2 [] n []) ++ t = 58 :: (Lib.itoa n ++ 13 :: 10 :: t) := by simp [enc]
    rw [e, rd_line d 58 _ t (by decide) (itoa_calm n)]
    show (match parseL (Lib.itoa n) with | none => none | some n => some (Rep.mk 2 [] n [], t)) = _
    rw [parse_itoa n hn]
  rw [if_neg h2] at hr
  by_cases h3 : k = 3
  · subst h3
    simp only [if_true, Bool.and_eq_true, beq_iff_eq, List.isEmpty_iff] at hr
    obtain ⟨rfl, rfl⟩ := hr
    have e : enc (.mk 3 s 0 []) ++ t = 36 :: (Lib.itoa s.length ++ 13 :: 10 :: (s ++ 13 :: 10 :: t)) := by simp [enc]
    rw [e, rd_line d 36 _ _ (by decide) (itoa_calm _)]
    show bulkOf (Lib.itoa s.length) (s ++ 13 :: 10 :: t) = _
    rw [bulkOf, if_neg (itoa_len_ne _), parse_itoa _ (fits_len hs)]
    simp only
    rw [if_pos ⟨by omega, by simp; omega⟩, Int.toNat_natCast, List.drop_left, List.take_left, if_pos (by rfl), List.drop_append]
    simp
  rw [if_neg h3] at hr
  by_cases h4 : k = 4
  · subst h4
    simp only [if_true, Bool.and_eq_true, beq_iff_eq, List.isEmpty_iff] at hr
    obtain ⟨⟨rfl, rfl⟩, rfl⟩ := hr
    have e : enc (.mk 4 [] 0 []) ++ t = 36 :: ([45, 49] ++ 13 :: 10 :: t) := by simp [enc]
    rw [e, rd_line d 36 _ _ (by decide) (by decide)]
    rfl
  rw [if_neg h4] at hr
  by_cases h5 : k = 5
  · subst h5
    simp only [if_true, Bool.and_eq_true, beq_iff_eq, List.isEmpty_iff] at hr
    obtain ⟨⟨rfl, rfl⟩, hl⟩ := hr
    cases d with
    | zero => cases hl
    | succ d =>
      have e : enc (.mk 5 [] 0 l) ++ t = 42 :: (Lib.itoa l.length ++ 13 :: 10 :: (encL l ++ t)) := by simp [enc]
      rw [e, rd_line (d + 1) 42 _ _ (by decide) (itoa_calm _)]
      show arrayOf (rd d) (Lib.itoa l.length) (encL l ++ t) = _
      rw [arrayOf, parse_itoa _ (fits_len (Nat.le_trans hlc hcm))]
      simp only
      rw [if_pos (by omega), Int.toNat_natCast, many_enc d l t (fun x hx t => by
        obtain ⟨j, hj, rfl⟩ := List.getElem_of_mem hx
        obtain ⟨b, o, q, e', _, _, hi⟩ := h.kid j hj
        exact ih _ (List.getElem_mem hj) d q e' hi (rightL_mem hl _ (List.getElem_mem hj)) t)]
  · rw [if_neg h5] at hr; cases hr
end Go.Proofs.YtcikelcecfapcaaDoor
