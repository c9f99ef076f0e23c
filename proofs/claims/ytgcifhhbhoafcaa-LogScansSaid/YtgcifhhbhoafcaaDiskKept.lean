/-
  Which writes a crash keeps: plain, in memory.
-/
import Derived.Test.YtgcifhhbhoafcaaDiskSync
namespace Go.Proofs.Ytgcifhhbhoafcaa
open Go.RowKit Go.Shelf

/-- The writes whose numbers are kept. -/
def keptOf (K : Nat → Bool) {N : Nat} (ws : List Wq) (ha : ∀ x ∈ ws, x.1 < N ∧ x.2.length = 64) : List Wq := ((pend N ws ha).filter fun x => K x.1.1).map fun x => x.1.2
/-- Which numbers are kept. -/
def isKept (ks : List Int) (j : Nat) : Bool := decide ((j : Int) ∈ ks)
/-- The kept ones among those that have come. -/
def kp (ks : List Int) {N M : Nat} (pre : List (Pw N M)) : List Wq := (pre.filter fun x => isKept ks x.1.1).map fun x => x.1.2
def kCells (f : Nat → Bool) (M : Nat) : List Value := (List.range M).map fun j => .bool (f j)
theorem kCells_len (f : Nat → Bool) (M : Nat) : (kCells f M).length = M := by simp [kCells]
theorem kCells_at (f : Nat → Bool) (M j : Nat) (h : j < M) : (kCells f M)[j]? = some (.bool (f j)) := by simp [kCells, h]
theorem kCells_none (M : Nat) : List.replicate M (Value.bool false) = kCells (isKept []) M := by
  apply List.ext_getElem
  · simp [kCells]
  · intro i h1 h2
    simp [kCells, isKept]
theorem kept_next (ks : List Int) (i : Nat) (h : i < ks.length) (j : Nat) : isKept (ks.take (i + 1)) j = (isKept (ks.take i) j || decide ((j : Int) = ks[i])) := by
  unfold isKept
  rw [List.take_succ_eq_append_getElem h, Bool.eq_iff_iff]
  simp only [decide_eq_true_eq, Bool.or_eq_true, List.mem_append, List.mem_singleton]
theorem kCells_skip (ks : List Int) (i : Nat) (h : i < ks.length) (M : Nat) (hn : ks[i] < 0 ∨ (M : Int) ≤ ks[i]) : kCells (isKept (ks.take (i + 1))) M = kCells (isKept (ks.take i)) M := by
  apply List.ext_getElem
  · simp [kCells]
  · intro j h1 h2
    have hj : j < M := by simpa [kCells] using h1
    simp only [kCells, List.getElem_map, List.getElem_range, kept_next ks i h]
    have : decide ((j : Int) = ks[i]) = false := decide_eq_false (by omega)
    rw [this, Bool.or_false]
theorem kCells_set (ks : List Int) (i : Nat) (h : i < ks.length) (M n : Nat) (hn : ks[i] = (n : Int)) : (kCells (isKept (ks.take i)) M).set n (.bool true) = kCells (isKept (ks.take (i + 1))) M := by
  apply List.ext_getElem
  · simp [kCells]
  · intro j h1 h2
    rw [List.getElem_set]
    simp only [kCells, List.getElem_map, List.getElem_range, kept_next ks i h, hn]
    by_cases e : n = j
    · subst e
      simp
    · rw [if_neg e]
      have : decide ((j : Int) = (n : Int)) = false := decide_eq_false (by omega)
      rw [this, Bool.or_false]

theorem info_bool : (Try.prog.info? 4).map (fun i => (i.zero, i.size, i.bytes)) = some (some (.bool false), 1, 1) := by kernel_rfl
theorem make_bools (w : World) (n : Nat) (hn : n ≤ 1000000) : (Instr.makeSlice 102 (.int .i64 (n : Int)) (.int .i64 (n : Int))).run Try.prog w = .ok (.slice (some ⟨w.heap.size, 0, none⟩) n n) (w.alloc (.cells (kCells (isKept []) n).toArray 4)) := by
  obtain ⟨i0, hi, hz0, hz1, hz2⟩ := info_parts info_bool
  have h := run_make (P := Try.prog) w 102 4 i0 (.bool false) Try.underlying102 hi hz0 .i64 .i64 (n : Int) (n : Int) (by omega) (by omega) (by rw [hz2]; omega) (by omega)
  rw [h]
  have e1 : ((n : Int)).toNat = n := by omega
  rw [e1, hz1, Nat.mul_one, ← kCells_none]
  have : madeCells (Value.bool false).cells n = (List.replicate n (Value.bool false)).toArray := by
    apply Array.toList_inj.1
    exact toList_madeCells_one _ _
  rw [this]

/-- A slice of numbers that came in. -/
def IntsAt (w : World) (p : Option Addr) (ks : List Int) : Prop := ∀ (j : Nat) (h : j < ks.length), ∃ b o, p = some ⟨b, o, none⟩ ∧ w.cell? ⟨b, o + j, none⟩ = some (.int .i64 ks[j])
theorem IntsAt.chg {w w' : World} {p : Option Addr} {ks : List Int} (H : IntsAt w p ks) {ex : Nat → Prop} (hc : Chg ex w w') (hn : ∀ b o, p = some ⟨b, o, none⟩ → ¬ ex b) : IntsAt w' p ks := fun j hj => by
  obtain ⟨b, o, hp, h1⟩ := H j hj
  have hb := World.block_lt_of_cell? w _ h1
  exact ⟨b, o, hp, (World.cell?_of_block (w := w) (a := ⟨b, o + j, none⟩) (hc.block b hb (hn b o hp))).trans h1⟩
end Go.Proofs.Ytgcifhhbhoafcaa
