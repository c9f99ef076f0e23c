/-
  resp.takeArray: what is kept of it while its row grows.
-/
import Derived.Test.YtkcapbjmhimceaaDoorRespBulk
import Derived.Deep.AppendLies
namespace Go.Proofs.YtkcapbjmhimceaaDoor
open Go.RowKit Rp

/-- A reply with its slice's address and capacity. -/
abbrev Held := Rep × Option Addr × Nat
/-- Their cells. -/
def flatK (xs : List Held) : List Value := xs.flatMap fun x => (repCs x.1 x.2.1 x.2.2).toList
theorem flatK_snoc (xs : List Held) (x : Held) : flatK (xs ++ [x]) = flatK xs ++ [.int .i64 x.1.kind, .string (bs x.1.str), .int .i64 x.1.num, .slice x.2.1 x.1.kids.length x.2.2] := by simp [flatK, repCs]
theorem flatK_len (xs : List Held) : (flatK xs).length = xs.length * 4 := by
  induction xs with
  | nil => rfl
  | cons r rs ih => simp only [flatK, repCs, List.flatMap_cons, List.length_append, List.length_cons, List.length_nil] at ih ⊢; omega
theorem flatK_at : ∀ (xs : List Held) (j : Nat) (h : j < xs.length), (flatK xs)[j * 4]? = some (.int .i64 xs[j].1.kind) ∧ (flatK xs)[j * 4 + 1]? = some (.string (bs xs[j].1.str)) ∧ (flatK xs)[j * 4 + 2]? = some (.int .i64 xs[j].1.num) ∧ (flatK xs)[j * 4 + 3]? = some (.slice xs[j].2.1 xs[j].1.kids.length xs[j].2.2)
  | x :: xs, 0, _ => by simp [flatK, repCs]
  | x :: xs, j + 1, h => by
    have ih := flatK_at xs j (by simpa using h)
    have e : ∀ i, (flatK (x :: xs))[(j + 1) * 4 + i]? = (flatK xs)[j * 4 + i]? := fun i => by
      rw [show flatK (x :: xs) = [.int .i64 x.1.kind, .string (bs x.1.str), .int .i64 x.1.num, .slice x.2.1 x.1.kids.length x.2.2] ++ flatK xs from by simp [flatK, repCs], List.getElem?_append_right (by simp; omega)]
      congr 1
      simp; omega
    exact ⟨(e 0).trans ih.1, (e 1).trans ih.2.1, (e 2).trans ih.2.2.1, (e 3).trans ih.2.2.2⟩

/-- A reply that stands, whatever becomes of the blocks below lo, of B and of g. -/
def Keeps (lo B : Nat) (g : Option Nat) (w : World) (x : Held) : Prop := ∀ W : World, (∀ k, lo ≤ k → k < w.heap.size → k ≠ B → some k ≠ g → W.heap[k]? = w.heap[k]?) → RepIn W x.1 x.2.1 x.2.2

theorem Keeps.on {lo B : Nat} {g g' : Option Nat} {w w' : World} {x : Held} (h : Keeps lo B g w x) (hs : w.heap.size ≤ w'.heap.size) (hg : ∀ k, g' = some k → g = some k ∨ w.heap.size ≤ k)
    (hk : ∀ k, k < w.heap.size → k ≠ B → some k ≠ g → w'.heap[k]? = w.heap[k]?) : Keeps lo B g' w' x := fun W hW => h W fun k k1 k2 k3 k4 => by
  rw [hW k k1 (by omega) k3 (fun e => by
    rcases hg k e.symm with h1 | h1
    · exact k4 h1.symm
    · omega), hk k k2 k3 k4]

theorem RepFrom.keeps {lo lo0 B : Nat} {g : Option Nat} {w w' : World} {x : Held} (h : RepFrom lo0 w x.1 x.2.1 x.2.2) (hl : lo ≤ lo0) (hB : B < lo0) (hg : ∀ k, g = some k → k < lo0 ∨ w.heap.size ≤ k) (hs : w.heap.size ≤ w'.heap.size)
    (hk : ∀ k, lo0 ≤ k → k < w.heap.size → w'.heap[k]? = w.heap[k]?) : Keeps lo B g w' x := fun W hW => h W fun k k1 k2 => by
  rw [hW k (by omega) (by omega) (by omega) (fun e => by
    rcases hg k e.symm with h1 | h1 <;> omega), hk k k1 k2]

/-- The whole array. -/
theorem array_from {lo lo1 B j : Nat} {a : Option Addr} {cap base : Nat} {w w' : World} {xs : List Held} (hj : xs.length = j) (hrow : w.ownsRow base 26 4 (.slice a j cap) j (flatK xs)) (hk : ∀ x ∈ xs, Keeps lo1 B (Value.ownBlock (.slice a j cap)) w x)
    (hb : lo1 ≤ base) (hl : lo ≤ lo1) (hs : w.heap.size ≤ w'.heap.size) (hw : ∀ k, lo1 ≤ k → k < w.heap.size → w'.heap[k]? = w.heap[k]?) : RepFrom lo w' (.mk 5 [] 0 (xs.map (·.1))) a cap := by
  intro W hW
  have hE : ∀ k, lo1 ≤ k → k < w.heap.size → W.heap[k]? = w.heap[k]? := fun k k1 k2 => by rw [hW k (by omega) (by omega), hw k k1 k2]
  have hK : ∀ x ∈ xs, RepIn W x.1 x.2.1 x.2.2 := fun x hx => hk x hx W fun k k1 k2 _ _ => hE k k1 k2
  rw [RepIn]
  rcases hrow.2 with ⟨hv, hn⟩ | ⟨g, cap', cur, hv, hB, hg, hn, hm, hsz, ht⟩
  · simp only [Value.slice.injEq] at hv
    obtain ⟨_, _, rfl⟩ := hv
    exact ⟨⟨by decide, by decide⟩, ⟨by decide, by decide⟩, by simp [maxLen], by rw [List.length_map]; omega, by simp [maxLen], .inl (by rw [List.eq_nil_of_length_eq_zero (hj.trans hn)]; rfl)⟩
  · simp only [Value.slice.injEq, true_and] at hv
    obtain ⟨rfl, rfl⟩ := hv
    refine ⟨⟨by decide, by decide⟩, ⟨by decide, by decide⟩, by simp [maxLen], by rw [List.length_map, hj]; exact hn, hm, .inr ⟨g, 0, rfl, row_mk fun i hi => ?_⟩⟩
    rw [List.length_map] at hi
    have hgl : g < w.heap.size := (Array.getElem?_eq_some_iff.1 hg).1
    have hgW : W.heap[g]? = some (.cells cur 26 (0, 0)) := (hE g (by omega) hgl).trans hg
    obtain ⟨f0, f1, f2, f3⟩ := flatK_at xs i hi
    have hc : ∀ m v, (flatK xs)[m]? = some v → W.cell? ⟨g, m, none⟩ = some v := fun m v hv => by
      have hm : m < j * 4 := by
        have := (List.getElem?_eq_some_iff.1 hv).1
        rw [flatK_len, hj] at this
        exact this
      have h1 := hrow.cellAt m hm
      rw [hv, Lib.cell_of_heap hg] at h1
      rw [Lib.cell_of_heap hgW]
      exact h1
    rw [List.getElem_map]
    refine ⟨xs[i].2.1, xs[i].2.2, ⟨?_, ?_, ?_, ?_⟩, hK _ (List.getElem_mem hi)⟩
    · have := hc _ _ f0; rw [Nat.zero_add]; exact this
    · have := hc _ _ f1; rw [Nat.zero_add]; exact this
    · have := hc _ _ f2; rw [Nat.zero_add]; exact this
    · have := hc _ _ f3; rw [Nat.zero_add]; exact this

/-! ### What is read -/
def joinR (xs : List Rep) (o : Option (List Rep × List UInt8)) : Option (List Rep × List UInt8) := match o with | none => none | some (ys, r) => some (xs ++ ys, r)
theorem joined_nil (o : Option (List Rep × List UInt8)) : o = joinR [] o := by cases o <;> rfl
theorem joined_step (f : List UInt8 → Option (Rep × List UInt8)) (xs : List Rep) (n : Nat) (l l2 : List UInt8) (x : Rep) (h : f l = some (x, l2)) : joinR xs (many f (n + 1) l) = joinR (xs ++ [x]) (many f n l2) := by
  rw [many, h]
  simp only
  cases many f n l2 with
  | none => rfl
  | some y => simp [joinR]
theorem joined_fail (f : List UInt8 → Option (Rep × List UInt8)) (xs : List Rep) (n : Nat) (l : List UInt8) (h : f l = none) : joinR xs (many f (n + 1) l) = none := by
  rw [many, h]; rfl

theorem crlf_len {l : List UInt8} (h : crlf l = true) : 2 ≤ l.length := by
  match l, h with
  | [], h => cases h
  | [a], h => simp [crlf] at h
  | a :: b :: r, _ => simp
theorem cut_len {l t r : List UInt8} (h : cut l = some (t, r)) : t.length + r.length + 2 = l.length := by
  unfold cut at h
  split at h
  · rename_i hc
    have := crlf_len hc
    rw [List.length_drop] at this
    simp only [Option.some.injEq, Prod.mk.injEq] at h
    obtain ⟨rfl, rfl⟩ := h
    rw [List.length_take, List.length_drop]
    omega
  · cases h
theorem many_len (f : List UInt8 → Option (Rep × List UInt8)) (hf : ∀ b r s, f b = some (r, s) → s.length < b.length) : ∀ (n : Nat) (b : List UInt8) (xs : List Rep) (s : List UInt8), many f n b = some (xs, s) → s.length ≤ b.length
  | 0, b, xs, s, h => by
    simp only [many, Option.some.injEq, Prod.mk.injEq] at h
    rw [h.2]; exact Nat.le_refl _
  | n + 1, b, xs, s, h => by
    rw [many] at h
    cases h1 : f b with
    | none => rw [h1] at h; cases h
    | some y =>
      obtain ⟨x, b1⟩ := y
      rw [h1] at h
      simp only at h
      cases h2 : many f n b1 with
      | none => rw [h2] at h; cases h
      | some z =>
        obtain ⟨zs, b2⟩ := z
        rw [h2] at h
        simp only [Option.some.injEq, Prod.mk.injEq] at h
        have := many_len f hf n b1 zs b2 h2
        have := hf _ _ _ h1
        rw [← h.2]; omega
theorem bulk_len {t b : List UInt8} {r : Rep} {s : List UInt8} (h : bulkOf t b = some (r, s)) : s.length ≤ b.length := by
  unfold bulkOf at h
  repeat' split at h
  all_goals first
    | (cases h; done)
    | (simp only [Option.some.injEq, Prod.mk.injEq] at h; obtain ⟨_, rfl⟩ := h; first | exact Nat.le_refl _ | (rw [List.length_drop]; omega))
theorem kind_len {ar : List UInt8 → List UInt8 → Option (Rep × List UInt8)} (ha : ∀ t b r s, ar t b = some (r, s) → s.length ≤ b.length) {x : UInt8} {t b : List UInt8} {r : Rep} {s : List UInt8} (h : kindOf ar x t b = some (r, s)) : s.length ≤ b.length := by
  unfold kindOf at h
  repeat' split at h
  all_goals first
    | exact bulk_len h
    | exact ha _ _ _ _ h
    | (cases h; done)
    | (simp only [Option.some.injEq, Prod.mk.injEq] at h; obtain ⟨_, rfl⟩ := h; exact Nat.le_refl _)
theorem rd_len : ∀ (d : Nat) (b : List UInt8) (r : Rep) (s : List UInt8), rd d b = some (r, s) → s.length < b.length
  | 0, b, r, s, h => by
    rw [rd] at h
    split at h
    · cases h
    · cases h
    · rename_i hc
      have := cut_len hc
      have := kind_len (fun _ _ _ _ h => by cases h) h
      omega
  | d + 1, b, r, s, h => by
    rw [rd] at h
    split at h
    · cases h
    · cases h
    · rename_i hc
      have := cut_len hc
      have := kind_len (fun t b r s h => by
        unfold arrayOf at h
        repeat' split at h
        all_goals first
          | (cases h; done)
          | (rename_i hm; simp only [Option.some.injEq, Prod.mk.injEq] at h; obtain ⟨_, rfl⟩ := h; exact many_len _ (rd_len d) _ _ _ _ hm)) h
      omega
end Go.Proofs.YtkcapbjmhimceaaDoor
