/-
  What glob.class's methods answer: a class holds a set of bytes, a bit for each.
-/
import Derived.Test.YtimnnldjmmdlmaaChecked
import Derived.Test.YtimnnldjmmdlmaaGlobPure
import Derived.WalkKit
import Derived.LoopTactic
import Derived.Below
import Derived.Lib.Hide
import Derived.Lib.Builder
import Derived.IntWalk
import Derived.BigQuiet
import Derived.Deep.QuietTactic
import Derived.Laws.Bits64b
import Derived.Laws.BitsAllLaws
namespace Go.Proofs.Ytimnnldjmmdlmaa
open Go.RowKit

/-- The word number j of the set P. -/
def Word (P : Glob.CSet) (j x : Nat) : Prop := x < 18446744073709551616 ∧ ∀ b : UInt8, b.toNat / 64 = j → P b = x.testBit (b.toNat % 64)

/-- The four words of the set P, as a class's cells. -/
def Words (P : Glob.CSet) (cs : Array Value) : Prop :=
  ∃ x0 x1 x2 x3 : Nat, cs = #[.int .u64 x0, .int .u64 x1, .int .u64 x2, .int .u64 x3] ∧ Word P 0 x0 ∧ Word P 1 x1 ∧ Word P 2 x2 ∧ Word P 3 x3

theorem bit_test (x b : Nat) (hx : x < 18446744073709551616) : (bits .and .u64 ((x : Int) / 2 ^ b) 1 == 1) = x.testBit b := by
  have e : ((x : Int) / 2 ^ b) = ((x / 2 ^ b : Nat) : Int) := by simp
  have e1 : (1 : Int) = ((1 : Nat) : Int) := rfl
  have hlt : x / 2 ^ b < 18446744073709551616 := Nat.lt_of_le_of_lt (Nat.div_le_self _ _) hx
  rw [e]
  conv => lhs; rw [show (bits .and .u64 ((x / 2 ^ b : Nat) : Int) 1) = bits .and .u64 ((x / 2 ^ b : Nat) : Int) ((1 : Nat) : Int) from rfl]
  rw [bits_and_u64_nat _ _ hlt (by decide), Nat.and_one_is_mod, Nat.testBit_eq_decide_div_mod_eq]
  rw [Bool.eq_iff_iff]
  simp
  omega

theorem has_word (P : Glob.CSet) (x0 x1 x2 x3 : Nat) (h0 : Word P 0 x0) (h1 : Word P 1 x1) (h2 : Word P 2 x2) (h3 : Word P 3 x3) (b : UInt8) (w : World) :
    Calls Try.prog 17 #[.agg #[.int .u64 x0, .int .u64 x1, .int .u64 x2, .int .u64 x3], .int .u8 b.toNat] w fun e w' => e = .returned (.bool (P b)) ∧ Below w.heap.size w w' := by
  have hb : b.toNat < 256 := b.toNat_lt
  have f0 := fun h => And.intro h0.1 (h0.2 b h)
  have f1 := fun h => And.intro h1.1 (h1.2 b h)
  have f2 := fun h => And.intro h2.1 (h2.2 b h)
  have f3 := fun h => And.intro h3.1 (h3.2 b h)
  clear h0 h1 h2 h3
  generalize b.toNat = n at *
  generalize P b = v at *
  have g2 : (n : Int) % 64 = (n % 64 : Nat) := by omega
  have g3 : n % 64 < 64 := Nat.mod_lt _ (by decide)
  generalize n % 64 = r at *
  rcases (by omega : n / 64 = 0 ∨ n / 64 = 1 ∨ n / 64 = 2 ∨ n / 64 = 3) with h | h | h | h
  · have F := Lib.hid (f0 h)
    have g1 : (n : Int) / 64 = 0 := by omega
    clear f0 f1 f2 f3 h
    go_enter Try.func17, Try.ntmps17
    go_wp2
    go_ret
    exact ⟨by rw [F.out.2, ← bit_test _ _ F.out.1]; rfl, (Below.refl _ _).alloc (Nat.le_refl _) _⟩
  · have F := Lib.hid (f1 h)
    have g1 : (n : Int) / 64 = 1 := by omega
    clear f0 f1 f2 f3 h
    go_enter Try.func17, Try.ntmps17
    go_wp2
    go_ret
    exact ⟨by rw [F.out.2, ← bit_test _ _ F.out.1]; rfl, (Below.refl _ _).alloc (Nat.le_refl _) _⟩
  · have F := Lib.hid (f2 h)
    have g1 : (n : Int) / 64 = 2 := by omega
    clear f0 f1 f2 f3 h
    go_enter Try.func17, Try.ntmps17
    go_wp2
    go_ret
    exact ⟨by rw [F.out.2, ← bit_test _ _ F.out.1]; rfl, (Below.refl _ _).alloc (Nat.le_refl _) _⟩
  · have F := Lib.hid (f3 h)
    have g1 : (n : Int) / 64 = 3 := by omega
    clear f0 f1 f2 f3 h
    go_enter Try.func17, Try.ntmps17
    go_wp2
    go_ret
    exact ⟨by rw [F.out.2, ← bit_test _ _ F.out.1]; rfl, (Below.refl _ _).alloc (Nat.le_refl _) _⟩

theorem has_any (P : Glob.CSet) (cs : Array Value) (h : Words P cs) (b : UInt8) (w : World) :
    Calls Try.prog 17 #[.agg cs, .int .u8 b.toNat] w fun e w' => e = .returned (.bool (P b)) ∧ Below w.heap.size w w' := by
  obtain ⟨x0, x1, x2, x3, rfl, h0, h1, h2, h3⟩ := h
  exact has_word P x0 x1 x2 x3 h0 h1 h2 h3 b w

/-- k bytes from lo on. -/
def upfrom (lo k : Nat) : Glob.CSet := fun b => decide (lo ≤ b.toNat) && decide (b.toNat < lo + k)

theorem word_or (P : Glob.CSet) (lo k j x : Nat) (h : Word (Glob.union P (upfrom lo k)) j x) (hj : (lo + k) / 64 = j) :
    Word (Glob.union P (upfrom lo (k + 1))) j (x ||| 2 ^ ((lo + k) % 64)) := by
  have hm : (lo + k) % 64 < 64 := Nat.mod_lt _ (by decide)
  refine ⟨Nat.or_lt_two_pow (n := 64) h.1 (Nat.pow_lt_pow_right (by decide) hm), fun b hb => ?_⟩
  rw [Nat.testBit_or, ← h.2 b hb, Nat.testBit_two_pow]
  unfold Glob.union upfrom
  rw [Bool.or_assoc]
  congr 1
  have : (b.toNat = lo + k) ↔ ((lo + k) % 64 = b.toNat % 64) := by omega
  rw [Bool.eq_iff_iff]
  simp
  omega

theorem word_stay (P : Glob.CSet) (lo k j x : Nat) (h : Word (Glob.union P (upfrom lo k)) j x) (hj : (lo + k) / 64 ≠ j) :
    Word (Glob.union P (upfrom lo (k + 1))) j x := by
  refine ⟨h.1, fun b hb => ?_⟩
  rw [← h.2 b hb]
  unfold Glob.union upfrom
  congr 1
  rw [Bool.eq_iff_iff]
  simp
  intro _
  constructor
  · intro h; omega
  · intro h; omega

theorem words_add (P : Glob.CSet) (lo k : Nat) (cs : Array Value) (h : Words (Glob.union P (upfrom lo k)) cs) (hk : lo + k < 256) :
    ∃ x : Nat, x < 18446744073709551616 ∧ cs[(lo + k) / 64]? = some (.int .u64 x) ∧ cs.size = 4 ∧
      Words (Glob.union P (upfrom lo (k + 1))) (cs.set! ((lo + k) / 64) (.int .u64 (x ||| 2 ^ ((lo + k) % 64) : Nat))) := by
  obtain ⟨x0, x1, x2, x3, rfl, h0, h1, h2, h3⟩ := h
  rcases (by omega : (lo + k) / 64 = 0 ∨ (lo + k) / 64 = 1 ∨ (lo + k) / 64 = 2 ∨ (lo + k) / 64 = 3) with h | h | h | h
  · rw [h]
    exact ⟨x0, h0.1, rfl, rfl, _, _, _, _, rfl, word_or P lo k 0 x0 h0 h, word_stay P lo k 1 x1 h1 (by omega), word_stay P lo k 2 x2 h2 (by omega), word_stay P lo k 3 x3 h3 (by omega)⟩
  · rw [h]
    exact ⟨x1, h1.1, rfl, rfl, _, _, _, _, rfl, word_stay P lo k 0 x0 h0 (by omega), word_or P lo k 1 x1 h1 h, word_stay P lo k 2 x2 h2 (by omega), word_stay P lo k 3 x3 h3 (by omega)⟩
  · rw [h]
    exact ⟨x2, h2.1, rfl, rfl, _, _, _, _, rfl, word_stay P lo k 0 x0 h0 (by omega), word_stay P lo k 1 x1 h1 (by omega), word_or P lo k 2 x2 h2 h, word_stay P lo k 3 x3 h3 (by omega)⟩
  · rw [h]
    exact ⟨x3, h3.1, rfl, rfl, _, _, _, _, rfl, word_stay P lo k 0 x0 h0 (by omega), word_stay P lo k 1 x1 h1 (by omega), word_stay P lo k 2 x2 h2 (by omega), word_or P lo k 3 x3 h3 h⟩

theorem bit_or (x n : Nat) (hx : x < 18446744073709551616) (hn : n < 64) : bits .or .u64 (x : Int) (IntKind.u64.wrap (2 ^ n)) = ((x ||| 2 ^ n : Nat) : Int) := by
  have hp : 2 ^ n < 2 ^ 64 := Nat.pow_lt_pow_right (by decide) hn
  have e : IntKind.u64.wrap ((2 : Int) ^ n) = ((2 ^ n : Nat) : Int) := by
    have e : ((2 : Int) ^ n) = ((2 ^ n : Nat) : Int) := by simp
    rw [e, Go.IntKind.wrap_u64]
    generalize 2 ^ n = m at *
    omega
  rw [e]
  exact bits_or_u64_nat _ _ hx (show 2 ^ n < 2 ^ 64 from Nat.pow_lt_pow_right (by decide) hn)

theorem heap_alloc_new' (w : World) (o : Obj) (k : Nat) (h : k = w.heap.size) : (w.alloc o).heap[k]? = some o := by subst h; exact heap_alloc_new w o

theorem heap_set {w : World} {b j : Nat} {cs : Array Value} {T : TypeId} (hb : w.heap[b]? = some (.cells cs T (0, 0))) (v : Value) : (w.setCell ⟨b, j, none⟩ v).heap[b]? = some (.cells (cs.set! j v) T (0, 0)) := by
  simp [World.setCell, Array.getElem?_modify, hb]

/-- A class stored whole. -/
def set4 (w : World) (b : Nat) (v0 v1 v2 v3 : Value) : World := (((w.setCell ⟨b, 0, none⟩ v0).setCell ⟨b, 1, none⟩ v1).setCell ⟨b, 2, none⟩ v2).setCell ⟨b, 3, none⟩ v3

theorem heap_set4 {w : World} {b : Nat} {z0 z1 z2 z3 : Value} {T : TypeId} (hb : w.heap[b]? = some (.cells #[z0, z1, z2, z3] T (0, 0))) (v0 v1 v2 v3 : Value) :
    (set4 w b v0 v1 v2 v3).heap[b]? = some (.cells #[v0, v1, v2, v3] T (0, 0)) := heap_set (heap_set (heap_set (heap_set hb v0) v1) v2) v3

theorem set4_other (w : World) (b k : Nat) (v0 v1 v2 v3 : Value) (h : k ≠ b) : (set4 w b v0 v1 v2 v3).heap[k]? = w.heap[k]? := by
  unfold set4
  rw [Below.heap_setCell _ _ _ _ h, Below.heap_setCell _ _ _ _ h, Below.heap_setCell _ _ _ _ h, Below.heap_setCell _ _ _ _ h]

theorem set4_below {B : Nat} {w w' : World} {b : Nat} (h : Below B w w') (hb : B ≤ b) (v0 v1 v2 v3 : Value) : Below B w (set4 w' b v0 v1 v2 v3) :=
  (((h.setCell (p := ⟨b, 0, none⟩) hb _).setCell (p := ⟨b, 1, none⟩) hb _).setCell (p := ⟨b, 2, none⟩) hb _).setCell (p := ⟨b, 3, none⟩) hb _

/-- The four words by name. -/
theorem words_four {P : Glob.CSet} {cs : Array Value} (h : Words P cs) : ∃ x0 x1 x2 x3 : Nat, cs = #[.int .u64 x0, .int .u64 x1, .int .u64 x2, .int .u64 x3] ∧ Words P #[.int .u64 x0, .int .u64 x1, .int .u64 x2, .int .u64 x3] := by
  obtain ⟨x0, x1, x2, x3, rfl, hh⟩ := h
  exact ⟨_, _, _, _, rfl, x0, x1, x2, x3, rfl, hh⟩

set_option maxHeartbeats 400000 in
theorem add_any (P : Glob.CSet) (cs : Array Value) (lo hi : Nat) (hl : lo ≤ hi) (hh : hi < 256) (blk : Nat) (w : World) (hb : w.heap[blk]? = some (.cells cs 47 (0, 0))) (hP : Words P cs) :
    Calls Try.prog 22 #[.pointer (some ⟨blk, 0, none⟩), .int .u8 lo, .int .u8 hi] w fun e w' => e = .returned (.tuple #[]) ∧ Below blk w w' ∧
      ∃ cs', w'.heap[blk]? = some (.cells cs' 47 (0, 0)) ∧ Words (Glob.union P (upfrom lo (hi + 1 - lo))) cs' := by
  go_enter Try.func22, Try.ntmps22
  go_wp2
  go_loopw [14] (fun i wr => ∃ (k : Nat) (cs' : Array Value), k ≤ hi + 1 - lo ∧ i = .int .i64 k ∧ wr.heap[blk]? = some (.cells cs' 47 (0, 0)) ∧ Words (Glob.union P (upfrom lo k)) cs' ∧ Below blk w wr) (fun i _ => hi + 1 - lo - (intOf i).toNat)
  case atStart =>
    refine ⟨0, cs, Nat.zero_le _, rfl, hb, ?_, Below.refl _ _⟩
    have : Glob.union P (upfrom lo 0) = P := by
      funext b
      unfold Glob.union upfrom
      have : (decide (lo ≤ b.toNat) && decide (b.toNat < lo + 0)) = false := by simp
      rw [this, Bool.or_false]
    rw [this]
    exact hP
  case round =>
    obtain ⟨k, cs', hk, rfl, hbr, hW, HB⟩ := hrel
    by_cases hlt : k < hi + 1 - lo
    · obtain ⟨x, hx, hget, h4, hW'⟩ := words_add P lo k cs' hW (by omega)
      have hdlt : decide ((k : Int) < (hi : Int) - lo + 1) = true := by simp; omega
      have hm : (lo + k) % 64 < 64 := Nat.mod_lt _ (by decide)
      have HO := Lib.hid (bit_or x ((lo + k) % 64) hx hm)
      have c0 : wr.cell? ⟨blk, (lo + k) / 64, none⟩ = some (.int .u64 x) := by rw [Lib.cell_of_heap hbr]; exact hget
      have fz : wr.frozen? ⟨blk, (lo + k) / 64, none⟩ = false := by rw [Lib.frozen_of_heap hbr]
      have q1 : ((lo : Int) + (k : Int)) / 64 = ((lo + k) / 64 : Nat) := by omega
      have q2 : ((lo : Int) + (k : Int)) % 64 = ((lo + k) % 64 : Nat) := by omega
      have q3 : (lo + k) / 64 < 4 := by omega
      have q4 : (lo : Int) + (k : Int) ≤ 255 := by omega
      generalize hq : (lo + k) / 64 = q at *
      generalize hr : (lo + k) % 64 = r at *
      clear hW hx hget
      go_wp2
      go_region
      go_wp2
      go_roundw
      case rel => exact ⟨k + 1, _, by omega, by go_num, by rw [HO.out]; exact heap_set hbr _, hW', (HB.setCell (p := ⟨blk, q, none⟩) (Nat.le_refl _) _).drew⟩
      case measure => simp [intOf]; omega
    · have e : k = hi + 1 - lo := by omega
      subst e
      have hdlt : decide (((hi + 1 - lo : Nat) : Int) < (hi : Int) - lo + 1) = false := by simp; omega
      go_wp2
      go_end0
      exact ⟨rfl, HB, cs', hbr, hW⟩

theorem bit_flip (x : Nat) (hx : x < 18446744073709551616) : bits .xor .u64 (if IntKind.u64.signed = true then -1 else IntKind.u64.max) (x : Int) = ((18446744073709551615 ^^^ x : Nat) : Int) := by
  have e : (if IntKind.u64.signed = true then -1 else IntKind.u64.max) = ((18446744073709551615 : Nat) : Int) := by simp [IntKind.signed, IntKind.max, IntKind.bits]
  rw [e]
  exact u64_xor_nat _ _ (by decide) hx

theorem word_flip (P : Glob.CSet) (j x : Nat) (h : Word P j x) : Word (Glob.others P) j (18446744073709551615 ^^^ x) := by
  refine ⟨Nat.xor_lt_two_pow (n := 64) (by decide) h.1, fun b hb => ?_⟩
  have hm : b.toNat % 64 < 64 := Nat.mod_lt _ (by decide)
  have e : (18446744073709551615 : Nat).testBit (b.toNat % 64) = true := by
    rw [show (18446744073709551615 : Nat) = 2 ^ 64 - 1 from rfl, Nat.testBit_two_pow_sub_one]
    simpa using hm
  rw [Nat.testBit_xor, ← h.2 b hb, e]
  unfold Glob.others
  simp


/-- A class's cells, the first k of them turned round. -/
def turned (x0 x1 x2 x3 k : Nat) : Array Value :=
  #[.int .u64 (if 0 < k then (18446744073709551615 ^^^ x0 : Nat) else x0), .int .u64 (if 1 < k then (18446744073709551615 ^^^ x1 : Nat) else x1), .int .u64 (if 2 < k then (18446744073709551615 ^^^ x2 : Nat) else x2), .int .u64 (if 3 < k then (18446744073709551615 ^^^ x3 : Nat) else x3)]

set_option maxHeartbeats 1000000 in
theorem others_any (P : Glob.CSet) (cs : Array Value) (hP : Words P cs) (w : World) :
    Calls Try.prog 19 #[.agg cs] w fun e w' => ∃ cs', e = .returned (.agg cs') ∧ Words (Glob.others P) cs' ∧ Below w.heap.size w w' := by
  obtain ⟨x0, x1, x2, x3, rfl, h0, h1, h2, h3⟩ := hP
  have F0 := Lib.hid (bit_flip x0 h0.1)
  have F1 := Lib.hid (bit_flip x1 h1.1)
  have F2 := Lib.hid (bit_flip x2 h2.1)
  have F3 := Lib.hid (bit_flip x3 h3.1)
  have W : Hid (Words (Glob.others P) (turned x0 x1 x2 x3 4)) := Lib.hid ⟨_, _, _, _, rfl, word_flip P 0 x0 h0, word_flip P 1 x1 h1, word_flip P 2 x2 h2, word_flip P 3 x3 h3⟩
  clear h0 h1 h2 h3
  go_enter Try.func19, Try.ntmps19
  go_wp2
  go_loopw [4] (fun i wr => ∃ k : Nat, k ≤ 4 ∧ i = .int .i64 k ∧ wr.heap[w.heap.size]? = some (.cells (turned x0 x1 x2 x3 k) 47 (0, 0)) ∧ (∃ zs, wr.heap[w.heap.size + 1]? = some (.cells zs 47 (0, 0)) ∧ zs.size = 4) ∧ Below w.heap.size w wr) (fun i _ => 4 - (intOf i).toNat)
  case atStart =>
    refine ⟨0, by omega, rfl, ?_, ⟨_, heap_alloc_new' _ _ _ (by simp), rfl⟩, ?_⟩
    · exact (Lib.alloc_old _ _ _ (by simp)).trans (heap_alloc_new _ _)
    · exact ((Below.refl _ _).alloc (Nat.le_refl _) _).alloc (by simp) _
  case round =>
    obtain ⟨k, hk, rfl, hb, ⟨zs, hz, hzs⟩, HB⟩ := hrel
    match k, hk with
    | 0, _ =>
      have c0 : wr.cell? ⟨w.heap.size, 0, none⟩ = some (.int .u64 x0) := by rw [Lib.cell_of_heap hb]; rfl
      have fz : wr.frozen? ⟨w.heap.size, 0, none⟩ = false := by rw [Lib.frozen_of_heap hb]
      go_wp2
      go_roundw
      case rel => exact ⟨1, by omega, rfl, by rw [F0.out, heap_set hb]; rfl, ⟨zs, (Below.heap_setCell _ _ _ _ (by simp)).trans hz, hzs⟩, HB.setCell (p := ⟨w.heap.size, 0, none⟩) (Nat.le_refl _) _⟩
      case measure => simp [intOf]
    | 1, _ =>
      have c0 : wr.cell? ⟨w.heap.size, 1, none⟩ = some (.int .u64 x1) := by rw [Lib.cell_of_heap hb]; rfl
      have fz : wr.frozen? ⟨w.heap.size, 1, none⟩ = false := by rw [Lib.frozen_of_heap hb]
      go_wp2
      go_roundw
      case rel => exact ⟨2, by omega, rfl, by rw [F1.out, heap_set hb]; rfl, ⟨zs, (Below.heap_setCell _ _ _ _ (by simp)).trans hz, hzs⟩, HB.setCell (p := ⟨w.heap.size, 1, none⟩) (Nat.le_refl _) _⟩
      case measure => simp [intOf]
    | 2, _ =>
      have c0 : wr.cell? ⟨w.heap.size, 2, none⟩ = some (.int .u64 x2) := by rw [Lib.cell_of_heap hb]; rfl
      have fz : wr.frozen? ⟨w.heap.size, 2, none⟩ = false := by rw [Lib.frozen_of_heap hb]
      go_wp2
      go_roundw
      case rel => exact ⟨3, by omega, rfl, by rw [F2.out, heap_set hb]; rfl, ⟨zs, (Below.heap_setCell _ _ _ _ (by simp)).trans hz, hzs⟩, HB.setCell (p := ⟨w.heap.size, 2, none⟩) (Nat.le_refl _) _⟩
      case measure => simp [intOf]
    | 3, _ =>
      have c0 : wr.cell? ⟨w.heap.size, 3, none⟩ = some (.int .u64 x3) := by rw [Lib.cell_of_heap hb]; rfl
      have fz : wr.frozen? ⟨w.heap.size, 3, none⟩ = false := by rw [Lib.frozen_of_heap hb]
      go_wp2
      go_roundw
      case rel => exact ⟨4, by omega, rfl, by rw [F3.out, heap_set hb]; rfl, ⟨zs, (Below.heap_setCell _ _ _ _ (by simp)).trans hz, hzs⟩, HB.setCell (p := ⟨w.heap.size, 3, none⟩) (Nat.le_refl _) _⟩
      case measure => simp [intOf]
    | 4, _ =>
      obtain ⟨l⟩ := zs
      match l, hzs with
      | [z0, z1, z2, z3], _ =>
        have hb' : wr.heap[w.heap.size]? = some (.cells #[.int .u64 (18446744073709551615 ^^^ x0 : Nat), .int .u64 (18446744073709551615 ^^^ x1 : Nat), .int .u64 (18446744073709551615 ^^^ x2 : Nat), .int .u64 (18446744073709551615 ^^^ x3 : Nat)] 47 (0, 0)) := hb
        have W' : Words (Glob.others P) #[.int .u64 (18446744073709551615 ^^^ x0 : Nat), .int .u64 (18446744073709551615 ^^^ x1 : Nat), .int .u64 (18446744073709551615 ^^^ x2 : Nat), .int .u64 (18446744073709551615 ^^^ x3 : Nat)] := W.out
        clear hb W F0 F1 F2 F3
        generalize (18446744073709551615 ^^^ x0 : Nat) = y0 at *
        generalize (18446744073709551615 ^^^ x1 : Nat) = y1 at *
        generalize (18446744073709551615 ^^^ x2 : Nat) = y2 at *
        generalize (18446744073709551615 ^^^ x3 : Nat) = y3 at *
        have c0 : wr.cell? ⟨w.heap.size, 0, none⟩ = some (.int .u64 y0) := by rw [Lib.cell_of_heap hb']; rfl
        have c1 : wr.cell? ⟨w.heap.size, 1, none⟩ = some (.int .u64 y1) := by rw [Lib.cell_of_heap hb']; rfl
        have c2 : wr.cell? ⟨w.heap.size, 2, none⟩ = some (.int .u64 y2) := by rw [Lib.cell_of_heap hb']; rfl
        have c3 : wr.cell? ⟨w.heap.size, 3, none⟩ = some (.int .u64 y3) := by rw [Lib.cell_of_heap hb']; rfl
        have d0 : wr.cell? ⟨w.heap.size + 1, 0, none⟩ = some z0 := by rw [Lib.cell_of_heap hz]; rfl
        have d1 : wr.cell? ⟨w.heap.size + 1, 1, none⟩ = some z1 := by rw [Lib.cell_of_heap hz]; rfl
        have d2 : wr.cell? ⟨w.heap.size + 1, 2, none⟩ = some z2 := by rw [Lib.cell_of_heap hz]; rfl
        have d3 : wr.cell? ⟨w.heap.size + 1, 3, none⟩ = some z3 := by rw [Lib.cell_of_heap hz]; rfl
        have fz : ∀ j, wr.frozen? ⟨w.heap.size + 1, j, none⟩ = false := fun j => by rw [Lib.frozen_of_heap hz]
        go_wp2
        have hE := heap_set4 hz (.int .u64 y0) (.int .u64 y1) (.int .u64 y2) (.int .u64 y3)
        have HE : Below w.heap.size w (set4 wr (w.heap.size + 1) (.int .u64 y0) (.int .u64 y1) (.int .u64 y2) (.int .u64 y3)) := set4_below HB (by simp) _ _ _ _
        show bodyPost _ _ _ _ _ (set4 wr (w.heap.size + 1) (.int .u64 y0) (.int .u64 y1) (.int .u64 y2) (.int .u64 y3))
        generalize set4 wr (w.heap.size + 1) (.int .u64 y0) (.int .u64 y1) (.int .u64 y2) (.int .u64 y3) = W at *
        have e0 : W.cell? ⟨w.heap.size + 1, 0, none⟩ = some (.int .u64 y0) := by rw [Lib.cell_of_heap hE]; rfl
        have e1 : W.cell? ⟨w.heap.size + 1, 1, none⟩ = some (.int .u64 y1) := by rw [Lib.cell_of_heap hE]; rfl
        have e2 : W.cell? ⟨w.heap.size + 1, 2, none⟩ = some (.int .u64 y2) := by rw [Lib.cell_of_heap hE]; rfl
        have e3 : W.cell? ⟨w.heap.size + 1, 3, none⟩ = some (.int .u64 y3) := by rw [Lib.cell_of_heap hE]; rfl
        exact bodyPost_ret (v := .agg #[.int .u64 y0, .int .u64 y1, .int .u64 y2, .int .u64 y3]) (by simp [results, Try.results19, go_sem, e0, e1, e2, e3]) rfl ⟨_, rfl, W', HE⟩

end Go.Proofs.Ytimnnldjmmdlmaa
