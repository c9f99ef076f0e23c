/-
  What glob.parts.next answers: the first part of what is left of a pattern.
-/
import Derived.Test.YtimnnldjmmdlmaaGlobBracket
namespace Go.Proofs.Ytimnnldjmmdlmaa
open Go.RowKit

/-- What is left of a pattern lies in block p. -/
def PartsAt (p : Nat) (l : List UInt8) (b : Bool) (w : World) : Prop := w.heap[p]? = some (.cells #[.string (bs l), .bool b] 44 (0, 0))

theorem grown_then {w a b : World} {row : Option Nat} {n : Nat} (h : w.grownBy a row) (k : Below n a b) (hn : w.heap.size ≤ n) : w.grownBy b row :=
  ⟨k.os.trans h.os, k.tape.trans h.tape, k.output.trans h.output, Nat.le_trans h.size k.size, fun i hi hne => (k.block i (by omega)).trans (h.block i hi hne)⟩
theorem grown_refl (w : World) (row : Option Nat) : w.grownBy w row := ⟨rfl, rfl, rfl, Nat.le_refl _, fun _ _ _ => rfl⟩
theorem grown_alloc {w a : World} {row : Option Nat} (h : w.grownBy a row) (o : Obj) : w.grownBy (a.alloc o) row :=
  grown_then h ((Below.refl a.heap.size a).alloc (Nat.le_refl _) o) h.size
theorem grown_setp {w a : World} {p : Nat} (h : w.grownBy a (some p)) (j : Nat) (v : Value) : w.grownBy (a.setCell ⟨p, j, none⟩ v) (some p) :=
  ⟨h.os, h.tape, h.output, by simp [World.setCell]; exact h.size, fun k hk hne => (Below.heap_setCell _ _ _ _ (fun e => hne (by rw [e]))).trans (h.block k hk hne)⟩
theorem grown_set4 {w a : World} {row : Option Nat} (h : w.grownBy a row) {b : Nat} (hb : w.heap.size ≤ b) (v0 v1 v2 v3 : Value) : w.grownBy (set4 a b v0 v1 v2 v3) row :=
  grown_then h (set4_below (Below.refl w.heap.size a) hb v0 v1 v2 v3) (Nat.le_refl _)

theorem single_upfrom (c : UInt8) : Glob.union Glob.none_ (upfrom c.toNat (c.toNat + 1 - c.toNat)) = Glob.single c := by
  funext b
  unfold Glob.union Glob.none_ upfrom Glob.single
  rw [Bool.eq_iff_iff]
  simp only [Bool.false_or, Bool.and_eq_true, decide_eq_true_eq, beq_iff_eq]
  constructor
  · intro h; exact UInt8.toNat_inj.1 (by omega)
  · rintro rfl; omega

/-- A fresh class. -/
def zeros : Obj := .cells #[.int .u64 0, .int .u64 0, .int .u64 0, .int .u64 0] 47

/-- What 'next' leaves. -/
def NextPost (p : Nat) (l : List UInt8) (b : Bool) (w : World) (e : Ending) (w' : World) : Prop :=
  (∃ x0 x1 x2 x3 : Nat, e = .returned (.agg #[.int .u64 x0, .int .u64 x1, .int .u64 x2, .int .u64 x3]) ∧ Words (Glob.next l b).1 #[.int .u64 x0, .int .u64 x1, .int .u64 x2, .int .u64 x3]) ∧ PartsAt p (Glob.next l b).2.1 (Glob.next l b).2.2 w' ∧ w.grownBy w' (some p)

set_option maxHeartbeats 1000000 in
theorem next_single (c : UInt8) (r : List UInt8) (b : Bool) (p : Nat) (w : World) (hp : PartsAt p (c :: r) b w) (h1 : (c == 63) = false) (h2 : (c == 91) = false ∨ b = true) :
    Calls Try.prog 16 #[.pointer (some ⟨p, 0, none⟩)] w (NextPost p (c :: r) b w) := by
  have hpos : 0 < (bs (c :: r)).size := by rw [bs_size]; simp
  have hn : Glob.next (c :: r) b = (Glob.single (Glob.unq (c :: r)).1, (Glob.unq (c :: r)).2, b) := by
    unfold Glob.next
    rcases h2 with h2 | h2 <;> simp [h1, h2]
  unfold NextPost
  rw [hn]
  clear hn
  generalize hu : Glob.unq (c :: r) = u
  obtain ⟨f, rest⟩ := u
  have c0 : w.cell? ⟨p, 0, none⟩ = some (.string (bs (c :: r))) := by rw [Lib.cell_of_heap hp]; rfl
  have c1 : w.cell? ⟨p, 1, none⟩ = some (.bool b) := by rw [Lib.cell_of_heap hp]; rfl
  have g1 : ((((bs (c :: r))[0]).toNat : Int) == 63) = false := (byte_is c 63 (by omega)).trans h1
  have fz := frozen4 hp
  have hlt : p < w.heap.size := (Array.getElem?_eq_some_iff.1 hp).1
  have n0 : w.heap.size ≠ p := by omega
  clear h1
  rcases h2 with h2 | h2
  · have g2 : ((((bs (c :: r))[0]).toNat : Int) == 91) = false := (byte_is c 91 (by omega)).trans h2
    have hpW : (w.alloc zeros).heap[p]? = some (.cells #[.string (bs (c :: r)), .bool b] 44 (0, 0)) := (Lib.alloc_old _ _ _ hlt).trans hp
    have hzW := heap_alloc_new w zeros
    have hgW := grown_alloc (grown_refl w (some p)) zeros
    have hR : w.heap.size < (w.alloc zeros).heap.size := by simp
    clear hp
    go_enter Try.func16, Try.ntmps16
    go_wp2_with fail
    refine (unquote_any (c :: r) (by simp) _).mono ?_
    rw [hu]
    rintro e w1 ⟨rfl, B1⟩
    have s1 : w.heap.size < w1.heap.size := Nat.lt_of_lt_of_le hR B1.size
    have hp1 : w1.heap[p]? = some (.cells #[.string (bs (c :: r)), .bool b] 44 (0, 0)) := (B1.block _ (Array.getElem?_eq_some_iff.1 hpW).1).trans hpW
    have hz1 : w1.heap[w.heap.size]? = some zeros := (B1.block _ hR).trans hzW
    have hg1 := grown_then hgW B1 hgW.size
    have c01 : w1.cell? ⟨p, 0, none⟩ = some (.string (bs (c :: r))) := by rw [Lib.cell_of_heap hp1]; rfl
    have fz1 := frozen4 hp1
    go_wp2_with fail
    refine (add_any Glob.none_ _ f.toNat f.toNat (Nat.le_refl _) f.toNat_lt w1.heap.size _ (heap_alloc_new' _ _ _ (by simp [World.setCell])) words_none).mono ?_
    rw [single_upfrom]
    rintro e w2 ⟨rfl, B2, cs, hb, hW⟩
    obtain ⟨x0, x1, x2, x3, rfl, hW'⟩ := words_four hW
    have hz2 : w2.heap[w.heap.size]? = some zeros := (B2.block _ (by omega)).trans ((Lib.alloc_old _ _ _ (by simp [World.setCell]; omega)).trans ((Below.heap_setCell _ _ _ _ n0).trans hz1))
    have hp2 : w2.heap[p]? = some (.cells #[.string (bs rest), .bool b] 44 (0, 0)) := (B2.block _ (by omega)).trans ((Lib.alloc_old _ _ _ (by simp [World.setCell]; omega)).trans (heap_set hp1 _))
    have hg2 := grown_then (grown_alloc (grown_setp hg1 0 (.string (bs rest))) zeros) B2 (by omega)
    obtain ⟨c0', c1', c2', c3'⟩ := cells4 hb
    have hz2' : w2.heap[w.heap.size]? = some (.cells #[.int .u64 0, .int .u64 0, .int .u64 0, .int .u64 0] 47 (0, 0)) := hz2
    obtain ⟨d0, d1, d2, d3⟩ := cells4 hz2'
    have fz2 := frozen4 hz2'
    go_wp2
    have hE := heap_set4 hz2' (.int .u64 x0) (.int .u64 x1) (.int .u64 x2) (.int .u64 x3)
    have hpE := (set4_other w2 w.heap.size p (.int .u64 x0) (.int .u64 x1) (.int .u64 x2) (.int .u64 x3) (Ne.symm n0)).trans hp2
    have HE := grown_set4 hg2 (Nat.le_refl w.heap.size) (.int .u64 x0) (.int .u64 x1) (.int .u64 x2) (.int .u64 x3)
    show bodyPost _ _ _ _ _ (set4 w2 w.heap.size (.int .u64 x0) (.int .u64 x1) (.int .u64 x2) (.int .u64 x3))
    generalize set4 w2 w.heap.size (.int .u64 x0) (.int .u64 x1) (.int .u64 x2) (.int .u64 x3) = W at *
    obtain ⟨e0, e1, e2, e3⟩ := cells4 hE
    exact bodyPost_ret (v := .agg #[.int .u64 x0, .int .u64 x1, .int .u64 x2, .int .u64 x3]) (by simp [results, Try.results16, go_sem, e0, e1, e2, e3]) rfl ⟨⟨x0, x1, x2, x3, rfl, hW'⟩, hpE, HE⟩
  · subst h2
    have hpW : (w.alloc zeros).heap[p]? = some (.cells #[.string (bs (c :: r)), .bool true] 44 (0, 0)) := (Lib.alloc_old _ _ _ hlt).trans hp
    have hzW := heap_alloc_new w zeros
    have hgW := grown_alloc (grown_refl w (some p)) zeros
    have hR : w.heap.size < (w.alloc zeros).heap.size := by simp
    clear hp
    cases g2 : ((((bs (c :: r))[0]).toNat : Int) == 91)
    all_goals
      go_enter Try.func16, Try.ntmps16
      go_wp2_with fail
      refine (unquote_any (c :: r) (by simp) _).mono ?_
      rw [hu]
      rintro e w1 ⟨rfl, B1⟩
      have s1 : w.heap.size < w1.heap.size := Nat.lt_of_lt_of_le hR B1.size
      have hp1 : w1.heap[p]? = some (.cells #[.string (bs (c :: r)), .bool true] 44 (0, 0)) := (B1.block _ (Array.getElem?_eq_some_iff.1 hpW).1).trans hpW
      have hz1 : w1.heap[w.heap.size]? = some zeros := (B1.block _ hR).trans hzW
      have hg1 := grown_then hgW B1 hgW.size
      have c01 : w1.cell? ⟨p, 0, none⟩ = some (.string (bs (c :: r))) := by rw [Lib.cell_of_heap hp1]; rfl
      have fz1 := frozen4 hp1
      go_wp2_with fail
      refine (add_any Glob.none_ _ f.toNat f.toNat (Nat.le_refl _) f.toNat_lt w1.heap.size _ (heap_alloc_new' _ _ _ (by simp [World.setCell])) words_none).mono ?_
      rw [single_upfrom]
      rintro e w2 ⟨rfl, B2, cs, hb, hW⟩
      obtain ⟨x0, x1, x2, x3, rfl, hW'⟩ := words_four hW
      have hz2 : w2.heap[w.heap.size]? = some zeros := (B2.block _ (by omega)).trans ((Lib.alloc_old _ _ _ (by simp [World.setCell]; omega)).trans ((Below.heap_setCell _ _ _ _ n0).trans hz1))
      have hp2 : w2.heap[p]? = some (.cells #[.string (bs rest), .bool true] 44 (0, 0)) := (B2.block _ (by omega)).trans ((Lib.alloc_old _ _ _ (by simp [World.setCell]; omega)).trans (heap_set hp1 _))
      have hg2 := grown_then (grown_alloc (grown_setp hg1 0 (.string (bs rest))) zeros) B2 (by omega)
      obtain ⟨c0', c1', c2', c3'⟩ := cells4 hb
      have hz2' : w2.heap[w.heap.size]? = some (.cells #[.int .u64 0, .int .u64 0, .int .u64 0, .int .u64 0] 47 (0, 0)) := hz2
      obtain ⟨d0, d1, d2, d3⟩ := cells4 hz2'
      have fz2 := frozen4 hz2'
      go_wp2
      have hE := heap_set4 hz2' (.int .u64 x0) (.int .u64 x1) (.int .u64 x2) (.int .u64 x3)
      have hpE := (set4_other w2 w.heap.size p (.int .u64 x0) (.int .u64 x1) (.int .u64 x2) (.int .u64 x3) (Ne.symm n0)).trans hp2
      have HE := grown_set4 hg2 (Nat.le_refl w.heap.size) (.int .u64 x0) (.int .u64 x1) (.int .u64 x2) (.int .u64 x3)
      show bodyPost _ _ _ _ _ (set4 w2 w.heap.size (.int .u64 x0) (.int .u64 x1) (.int .u64 x2) (.int .u64 x3))
      generalize set4 w2 w.heap.size (.int .u64 x0) (.int .u64 x1) (.int .u64 x2) (.int .u64 x3) = W at *
      obtain ⟨e0, e1, e2, e3⟩ := cells4 hE
      exact bodyPost_ret (v := .agg #[.int .u64 x0, .int .u64 x1, .int .u64 x2, .int .u64 x3]) (by simp [results, Try.results16, go_sem, e0, e1, e2, e3]) rfl ⟨⟨x0, x1, x2, x3, rfl, hW'⟩, hpE, HE⟩

set_option maxHeartbeats 1000000 in
theorem next_endless (r : List UInt8) (hs : r.length ≤ 1099511627776) (p : Nat) (w : World) (hp : PartsAt p (91 :: r) false w) (hbr : Glob.bracket r = none) :
    Calls Try.prog 16 #[.pointer (some ⟨p, 0, none⟩)] w (NextPost p (91 :: r) false w) := by
  obtain ⟨c, hc⟩ : ∃ c : UInt8, c = 91 := ⟨_, rfl⟩
  rw [← hc] at hp ⊢
  have hpos : 0 < (bs (c :: r)).size := by rw [bs_size]; simp
  have hn : Glob.next (c :: r) false = (Glob.single (Glob.unq (c :: r)).1, (Glob.unq (c :: r)).2, true) := by
    subst hc
    simp [Glob.next, hbr]
  unfold NextPost
  rw [hn]
  clear hn
  generalize hu : Glob.unq (c :: r) = u
  obtain ⟨f, rest⟩ := u
  have c0 : w.cell? ⟨p, 0, none⟩ = some (.string (bs (c :: r))) := by rw [Lib.cell_of_heap hp]; rfl
  have c1 : w.cell? ⟨p, 1, none⟩ = some (.bool false) := by rw [Lib.cell_of_heap hp]; rfl
  have g1 : ((((bs (c :: r))[0]).toNat : Int) == 63) = false := (byte_is c 63 (by omega)).trans (by rw [hc]; rfl)
  have g2 : ((((bs (c :: r))[0]).toNat : Int) == 91) = true := (byte_is c 91 (by omega)).trans (by rw [hc]; rfl)
  have hfrom : (bs (c :: r)).extract 1 (bs (c :: r)).size = bs r := bs_from _ 1 _ (bs_size _)
  have fz := frozen4 hp
  have hlt : p < w.heap.size := (Array.getElem?_eq_some_iff.1 hp).1
  have n0 : w.heap.size ≠ p := by omega
  clear hc
  · have hpV : (w.alloc zeros).heap[p]? = some (.cells #[.string (bs (c :: r)), .bool false] 44 (0, 0)) := (Lib.alloc_old _ _ _ hlt).trans hp
    have hzV := heap_alloc_new w zeros
    have hgV := grown_alloc (grown_refl w (some p)) zeros
    have hRV : w.heap.size < (w.alloc zeros).heap.size := by simp
    clear hp
    go_enter Try.func16, Try.ntmps16
    go_wp2_with fail
    refine (bracket_no r hs hbr _).mono ?_
    rintro e w0 ⟨rfl, B0⟩
    have s0 : w.heap.size < w0.heap.size := Nat.lt_of_lt_of_le hRV B0.size
    have hp0 : w0.heap[p]? = some (.cells #[.string (bs (c :: r)), .bool false] 44 (0, 0)) := (B0.block _ (Array.getElem?_eq_some_iff.1 hpV).1).trans hpV
    have hz0 : w0.heap[w.heap.size]? = some zeros := (B0.block _ hRV).trans hzV
    have hg0 := grown_then hgV B0 hgV.size
    have s1 : w0.heap.size < (w0.alloc (.cells #[.int .u64 0, .int .u64 0, .int .u64 0, .int .u64 0] 47)).heap.size := by simp
    have hpA : (w0.alloc (.cells #[.int .u64 0, .int .u64 0, .int .u64 0, .int .u64 0] 47)).heap[p]? = some (.cells #[.string (bs (c :: r)), .bool false] 44 (0, 0)) := (Lib.alloc_old _ _ _ (by omega)).trans hp0
    have hzA : (w0.alloc (.cells #[.int .u64 0, .int .u64 0, .int .u64 0, .int .u64 0] 47)).heap[w.heap.size]? = some zeros := (Lib.alloc_old _ _ _ s0).trans hz0
    have hgA := grown_alloc hg0 (.cells #[.int .u64 0, .int .u64 0, .int .u64 0, .int .u64 0] 47)
    have a0 : (w0.alloc (.cells #[.int .u64 0, .int .u64 0, .int .u64 0, .int .u64 0] 47)).cell? ⟨p, 0, none⟩ = some (.string (bs (c :: r))) := by rw [Lib.cell_of_heap hpA]; rfl
    have a1 : (w0.alloc (.cells #[.int .u64 0, .int .u64 0, .int .u64 0, .int .u64 0] 47)).cell? ⟨p, 1, none⟩ = some (.bool false) := by rw [Lib.cell_of_heap hpA]; rfl
    have fa := frozen4 hpA
    have n1 : w0.heap.size ≠ p := by omega
    have hpW : ((w0.alloc (.cells #[.int .u64 0, .int .u64 0, .int .u64 0, .int .u64 0] 47)).setCell ⟨p, 1, none⟩ (.bool true)).heap[p]? = some (.cells #[.string (bs (c :: r)), .bool true] 44 (0, 0)) := heap_set hpA _
    have hzW := (Below.heap_setCell (w0.alloc (.cells #[.int .u64 0, .int .u64 0, .int .u64 0, .int .u64 0] 47)) ⟨p, 1, none⟩ (.bool true) w.heap.size n0).trans hzA
    have hgW := grown_setp hgA 1 (.bool true)
    have hR : w.heap.size < ((w0.alloc (.cells #[.int .u64 0, .int .u64 0, .int .u64 0, .int .u64 0] 47)).setCell ⟨p, 1, none⟩ (.bool true)).heap.size := by simp; omega
    go_wp2_with fail
    refine (unquote_any (c :: r) (by simp) _).mono ?_
    rw [hu]
    rintro e w1 ⟨rfl, B1⟩
    have s1 : w.heap.size < w1.heap.size := Nat.lt_of_lt_of_le hR B1.size
    have hp1 : w1.heap[p]? = some (.cells #[.string (bs (c :: r)), .bool true] 44 (0, 0)) := (B1.block _ (Array.getElem?_eq_some_iff.1 hpW).1).trans hpW
    have hz1 : w1.heap[w.heap.size]? = some zeros := (B1.block _ hR).trans hzW
    have hg1 := grown_then hgW B1 hgW.size
    have c01 : w1.cell? ⟨p, 0, none⟩ = some (.string (bs (c :: r))) := by rw [Lib.cell_of_heap hp1]; rfl
    have fz1 := frozen4 hp1
    go_wp2_with fail
    refine (add_any Glob.none_ _ f.toNat f.toNat (Nat.le_refl _) f.toNat_lt w1.heap.size _ (heap_alloc_new' _ _ _ (by simp [World.setCell])) words_none).mono ?_
    rw [single_upfrom]
    rintro e w2 ⟨rfl, B2, cs, hb, hW⟩
    obtain ⟨x0, x1, x2, x3, rfl, hW'⟩ := words_four hW
    have hz2 : w2.heap[w.heap.size]? = some zeros := (B2.block _ (by omega)).trans ((Lib.alloc_old _ _ _ (by simp [World.setCell]; omega)).trans ((Below.heap_setCell _ _ _ _ n0).trans hz1))
    have hp2 : w2.heap[p]? = some (.cells #[.string (bs rest), .bool true] 44 (0, 0)) := (B2.block _ (by omega)).trans ((Lib.alloc_old _ _ _ (by simp [World.setCell]; omega)).trans (heap_set hp1 _))
    have hg2 := grown_then (grown_alloc (grown_setp hg1 0 (.string (bs rest))) zeros) B2 (by omega)
    obtain ⟨c0', c1', c2', c3'⟩ := cells4 hb
    have hz2' : w2.heap[w.heap.size]? = some (.cells #[.int .u64 0, .int .u64 0, .int .u64 0, .int .u64 0] 47 (0, 0)) := hz2
    obtain ⟨d0, d1, d2, d3⟩ := cells4 hz2'
    have fz2 := frozen4 hz2'
    go_wp2
    have hE := heap_set4 hz2' (.int .u64 x0) (.int .u64 x1) (.int .u64 x2) (.int .u64 x3)
    have hpE := (set4_other w2 w.heap.size p (.int .u64 x0) (.int .u64 x1) (.int .u64 x2) (.int .u64 x3) (Ne.symm n0)).trans hp2
    have HE := grown_set4 hg2 (Nat.le_refl w.heap.size) (.int .u64 x0) (.int .u64 x1) (.int .u64 x2) (.int .u64 x3)
    show bodyPost _ _ _ _ _ (set4 w2 w.heap.size (.int .u64 x0) (.int .u64 x1) (.int .u64 x2) (.int .u64 x3))
    generalize set4 w2 w.heap.size (.int .u64 x0) (.int .u64 x1) (.int .u64 x2) (.int .u64 x3) = W at *
    obtain ⟨e0, e1, e2, e3⟩ := cells4 hE
    exact bodyPost_ret (v := .agg #[.int .u64 x0, .int .u64 x1, .int .u64 x2, .int .u64 x3]) (by simp [results, Try.results16, go_sem, e0, e1, e2, e3]) rfl ⟨⟨x0, x1, x2, x3, rfl, hW'⟩, hpE, HE⟩

theorem others_none : Glob.others Glob.none_ = Glob.anyByte := by funext b; rfl

set_option maxHeartbeats 1000000 in
theorem next_any_byte (r : List UInt8) (b : Bool) (p : Nat) (w : World) (hp : PartsAt p (63 :: r) b w) :
    Calls Try.prog 16 #[.pointer (some ⟨p, 0, none⟩)] w (NextPost p (63 :: r) b w) := by
  obtain ⟨c, hc⟩ : ∃ c : UInt8, c = 63 := ⟨_, rfl⟩
  rw [← hc] at hp ⊢
  have hpos : 0 < (bs (c :: r)).size := by rw [bs_size]; simp
  have hn : Glob.next (c :: r) b = (Glob.anyByte, r, b) := by
    subst hc
    simp [Glob.next]
  unfold NextPost
  rw [hn]
  clear hn
  have c0 : w.cell? ⟨p, 0, none⟩ = some (.string (bs (c :: r))) := by rw [Lib.cell_of_heap hp]; rfl
  have g1 : ((((bs (c :: r))[0]).toNat : Int) == 63) = true := (byte_is c 63 (by omega)).trans (by rw [hc]; rfl)
  have hfrom : (bs (c :: r)).extract 1 (bs (c :: r)).size = bs r := bs_from _ 1 _ (bs_size _)
  have hlt : p < w.heap.size := (Array.getElem?_eq_some_iff.1 hp).1
  have n0 : w.heap.size ≠ p := by omega
  have fz := frozen4 hp
  clear hc
  · go_enter Try.func16, Try.ntmps16
    go_wp2_with fail
    refine (others_any Glob.none_ _ words_none _).mono ?_
    rw [others_none]
    rintro e w2 ⟨cs, rfl, hW, B2⟩
    obtain ⟨x0, x1, x2, x3, rfl, hW'⟩ := words_four hW
    have hz2 : w2.heap[w.heap.size]? = some zeros := (B2.block _ (by simp)).trans (heap_alloc_new' _ _ _ (by simp))
    have hp2 : w2.heap[p]? = some (.cells #[.string (bs r), .bool b] 44 (0, 0)) := (B2.block _ (by simp; omega)).trans ((Lib.alloc_old _ _ _ (by simp; omega)).trans (heap_set hp _))
    have hg2 := grown_then (grown_alloc (grown_setp (grown_refl w (some p)) 0 (.string (bs r))) zeros) B2 (by simp)
    have hz2' : w2.heap[w.heap.size]? = some (.cells #[.int .u64 0, .int .u64 0, .int .u64 0, .int .u64 0] 47 (0, 0)) := hz2
    obtain ⟨d0, d1, d2, d3⟩ := cells4 hz2'
    have fz2 := frozen4 hz2'
    go_wp2
    have hE := heap_set4 hz2' (.int .u64 x0) (.int .u64 x1) (.int .u64 x2) (.int .u64 x3)
    have hpE := (set4_other w2 w.heap.size p (.int .u64 x0) (.int .u64 x1) (.int .u64 x2) (.int .u64 x3) (Ne.symm n0)).trans hp2
    have HE := grown_set4 hg2 (Nat.le_refl w.heap.size) (.int .u64 x0) (.int .u64 x1) (.int .u64 x2) (.int .u64 x3)
    show bodyPost _ _ _ _ _ (set4 w2 w.heap.size (.int .u64 x0) (.int .u64 x1) (.int .u64 x2) (.int .u64 x3))
    generalize set4 w2 w.heap.size (.int .u64 x0) (.int .u64 x1) (.int .u64 x2) (.int .u64 x3) = W at *
    obtain ⟨e0, e1, e2, e3⟩ := cells4 hE
    exact bodyPost_ret (v := .agg #[.int .u64 x0, .int .u64 x1, .int .u64 x2, .int .u64 x3]) (by simp [results, Try.results16, go_sem, e0, e1, e2, e3]) rfl ⟨⟨x0, x1, x2, x3, rfl, hW'⟩, hpE, HE⟩

set_option maxHeartbeats 1000000 in
theorem next_class (r : List UInt8) (hs : r.length ≤ 1099511627776) (p : Nat) (w : World) (hp : PartsAt p (91 :: r) false w) (P : Glob.CSet) (rest : List UInt8) (hbr : Glob.bracket r = some (P, rest)) :
    Calls Try.prog 16 #[.pointer (some ⟨p, 0, none⟩)] w (NextPost p (91 :: r) false w) := by
  obtain ⟨c, hc⟩ : ∃ c : UInt8, c = 91 := ⟨_, rfl⟩
  rw [← hc] at hp ⊢
  have hpos : 0 < (bs (c :: r)).size := by rw [bs_size]; simp
  have hn : Glob.next (c :: r) false = (P, rest, false) := by
    subst hc
    simp [Glob.next, hbr]
  unfold NextPost
  rw [hn]
  clear hn
  have c0 : w.cell? ⟨p, 0, none⟩ = some (.string (bs (c :: r))) := by rw [Lib.cell_of_heap hp]; rfl
  have c1 : w.cell? ⟨p, 1, none⟩ = some (.bool false) := by rw [Lib.cell_of_heap hp]; rfl
  have g1 : ((((bs (c :: r))[0]).toNat : Int) == 63) = false := (byte_is c 63 (by omega)).trans (by rw [hc]; rfl)
  have g2 : ((((bs (c :: r))[0]).toNat : Int) == 91) = true := (byte_is c 91 (by omega)).trans (by rw [hc]; rfl)
  have hfrom : (bs (c :: r)).extract 1 (bs (c :: r)).size = bs r := bs_from _ 1 _ (bs_size _)
  have hlt : p < w.heap.size := (Array.getElem?_eq_some_iff.1 hp).1
  have n0 : w.heap.size ≠ p := by omega
  clear hc
  · have hpV : (w.alloc zeros).heap[p]? = some (.cells #[.string (bs (c :: r)), .bool false] 44 (0, 0)) := (Lib.alloc_old _ _ _ hlt).trans hp
    have hzV := heap_alloc_new w zeros
    have hgV := grown_alloc (grown_refl w (some p)) zeros
    have hRV : w.heap.size < (w.alloc zeros).heap.size := by simp
    clear hp
    go_enter Try.func16, Try.ntmps16
    go_wp2_with fail
    refine (bracket_yes r hs P rest hbr _).mono ?_
    rintro e w0 ⟨⟨cs, rfl, hW⟩, B0⟩
    obtain ⟨x0, x1, x2, x3, rfl, hW'⟩ := words_four hW
    have s0 : w.heap.size < w0.heap.size := Nat.lt_of_lt_of_le hRV B0.size
    have hp0 : w0.heap[p]? = some (.cells #[.string (bs (c :: r)), .bool false] 44 (0, 0)) := (B0.block _ (Array.getElem?_eq_some_iff.1 hpV).1).trans hpV
    have hz0 : w0.heap[w.heap.size]? = some (.cells #[.int .u64 0, .int .u64 0, .int .u64 0, .int .u64 0] 47) := (B0.block _ hRV).trans hzV
    have hg0 := grown_then hgV B0 hgV.size
    have hpA : (w0.alloc (.cells #[.int .u64 x0, .int .u64 x1, .int .u64 x2, .int .u64 x3] 47)).heap[p]? = some (.cells #[.string (bs (c :: r)), .bool false] 44 (0, 0)) := (Lib.alloc_old _ _ _ (by omega)).trans hp0
    have hzA : (w0.alloc (.cells #[.int .u64 x0, .int .u64 x1, .int .u64 x2, .int .u64 x3] 47)).heap[w.heap.size]? = some (.cells #[.int .u64 0, .int .u64 0, .int .u64 0, .int .u64 0] 47) := (Lib.alloc_old _ _ _ s0).trans hz0
    have hgA := grown_alloc hg0 (.cells #[.int .u64 x0, .int .u64 x1, .int .u64 x2, .int .u64 x3] 47)
    have a0 : (w0.alloc (.cells #[.int .u64 x0, .int .u64 x1, .int .u64 x2, .int .u64 x3] 47)).cell? ⟨p, 0, none⟩ = some (.string (bs (c :: r))) := by rw [Lib.cell_of_heap hpA]; rfl
    have fa := frozen4 hpA
    have n1 : w0.heap.size ≠ p := by omega
    have n2 : w.heap.size ≠ w0.heap.size := by omega
    obtain ⟨d0, d1, d2, d3⟩ := cells4 hzA
    have fd := frozen4 hzA
    go_wp2_with fail
    have hpS : ((w0.alloc (.cells #[.int .u64 x0, .int .u64 x1, .int .u64 x2, .int .u64 x3] 47)).setCell ⟨p, 0, none⟩ (.string (bs rest))).heap[p]? = some (.cells #[.string (bs rest), .bool false] 44 (0, 0)) := heap_set hpA _
    have hzS := (Below.heap_setCell (w0.alloc (.cells #[.int .u64 x0, .int .u64 x1, .int .u64 x2, .int .u64 x3] 47)) ⟨p, 0, none⟩ (.string (bs rest)) w.heap.size n0).trans hzA
    have hgS := grown_setp hgA 0 (.string (bs rest))
    have hE := heap_set4 hzS (.int .u64 x0) (.int .u64 x1) (.int .u64 x2) (.int .u64 x3)
    have hpE := (set4_other ((w0.alloc (.cells #[.int .u64 x0, .int .u64 x1, .int .u64 x2, .int .u64 x3] 47)).setCell ⟨p, 0, none⟩ (.string (bs rest))) w.heap.size p (.int .u64 x0) (.int .u64 x1) (.int .u64 x2) (.int .u64 x3) (Ne.symm n0)).trans hpS
    have HE := grown_set4 hgS (Nat.le_refl w.heap.size) (.int .u64 x0) (.int .u64 x1) (.int .u64 x2) (.int .u64 x3)
    show bodyPost _ _ _ _ _ (set4 ((w0.alloc (.cells #[.int .u64 x0, .int .u64 x1, .int .u64 x2, .int .u64 x3] 47)).setCell ⟨p, 0, none⟩ (.string (bs rest))) w.heap.size (.int .u64 x0) (.int .u64 x1) (.int .u64 x2) (.int .u64 x3))
    generalize set4 ((w0.alloc (.cells #[.int .u64 x0, .int .u64 x1, .int .u64 x2, .int .u64 x3] 47)).setCell ⟨p, 0, none⟩ (.string (bs rest))) w.heap.size (.int .u64 x0) (.int .u64 x1) (.int .u64 x2) (.int .u64 x3) = W at *
    obtain ⟨e0, e1, e2, e3⟩ := cells4 hE
    exact bodyPost_ret (v := .agg #[.int .u64 x0, .int .u64 x1, .int .u64 x2, .int .u64 x3]) (by simp [results, Try.results16, go_sem, e0, e1, e2, e3]) rfl ⟨⟨x0, x1, x2, x3, rfl, hW'⟩, hpE, HE⟩

/-- parts.next, WHATEVER IS LEFT OF THE PATTERN. -/
theorem next_any (l : List UInt8) (h : l ≠ []) (hs : l.length ≤ 1099511627776) (b : Bool) (p : Nat) (w : World) (hp : PartsAt p l b w) :
    Calls Try.prog 16 #[.pointer (some ⟨p, 0, none⟩)] w (NextPost p l b w) := by
  match l, h with
  | c :: r, _ =>
    cases h1 : (c == 63) with
    | true =>
      have : c = 63 := by simpa using h1
      subst this
      exact next_any_byte r b p w hp
    | false =>
      cases h2 : (c == 91) with
      | false => exact next_single c r b p w hp h1 (Or.inl h2)
      | true =>
        cases b with
        | true => exact next_single c r true p w hp h1 (Or.inr rfl)
        | false =>
          have : c = 91 := by simpa using h2
          subst this
          have hr : r.length ≤ 1099511627776 := by simp only [List.length_cons] at hs; omega
          cases hbr : Glob.bracket r with
          | none => exact next_endless r hr p w hp hbr
          | some q =>
            obtain ⟨P, rest⟩ := q
            exact next_class r hr p w hp P rest hbr

end Go.Proofs.Ytimnnldjmmdlmaa
