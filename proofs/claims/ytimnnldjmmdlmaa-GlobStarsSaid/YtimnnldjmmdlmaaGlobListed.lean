/-
  What glob.listed and glob.bracket answer.
-/
import Derived.Test.YtimnnldjmmdlmaaGlobParts
import Derived.Test.YtimnnldjmmdlmaaShelf
namespace Go.Proofs.Ytimnnldjmmdlmaa
open Go.RowKit

theorem within_upfrom (x y : UInt8) : Glob.within x y = upfrom (min x.toNat y.toNat) (max x.toNat y.toNat + 1 - min x.toNat y.toNat) := by
  funext c
  unfold Glob.within upfrom
  rw [Bool.eq_iff_iff]
  simp only [Bool.and_eq_true, decide_eq_true_eq]
  omega

theorem words_none : Words Glob.none_ #[.int .u64 0, .int .u64 0, .int .u64 0, .int .u64 0] := by
  have h : ∀ j, Word Glob.none_ j 0 := fun j => ⟨by decide, fun b _ => by simp [Glob.none_]⟩
  exact ⟨0, 0, 0, 0, rfl, h 0, h 1, h 2, h 3⟩

theorem union_assoc (P Q R : Glob.CSet) : Glob.union (Glob.union P Q) R = Glob.union P (Glob.union Q R) := by
  funext b
  simp [Glob.union, Bool.or_assoc]
theorem union_none (P : Glob.CSet) : Glob.union P Glob.none_ = P := by
  funext b
  simp [Glob.union, Glob.none_]

theorem bs_toList (l : List UInt8) : (bs l).toList = l := by rw [ByteArray.toList_eq]; rfl
theorem bytes_ne (c : UInt8) (l : List UInt8) : (bs (c :: l)).toList.isEmpty = false := by rw [bs_toList]; rfl
theorem bytes_nil : (bs []).toList.isEmpty = true := by rw [bs_toList]; rfl

/-- A string's length. -/
def strLen : Value → Nat
  | .string s => s.size
  | _ => 0

set_option maxHeartbeats 1000000 in
theorem listed_any (l : List UInt8) (hs : l.length ≤ 1099511627776) (w : World) :
    Calls Try.prog 25 #[.string (bs l)] w fun e w' => ∃ cs, e = .returned (.agg cs) ∧ Words (Glob.listed l) cs ∧ Below w.heap.size w w' := by
  go_enter Try.func25, Try.ntmps25
  go_wp2
  go_loopw [0] (fun r wr => ∃ (m : List UInt8) (P : Glob.CSet) (cs : Array Value), r = .string (bs m) ∧ m.length ≤ l.length ∧ Hid (Glob.listed l = Glob.union P (Glob.listed m)) ∧ wr.heap[w.heap.size + 1]? = some (.cells cs 47 (0, 0)) ∧ Words P cs ∧ (∃ z0 z1 z2 z3, wr.heap[w.heap.size]? = some (.cells #[z0, z1, z2, z3] 47 (0, 0))) ∧ Below w.heap.size w wr) (fun r _ => strLen r)
  case atStart =>
    refine ⟨l, Glob.none_, _, rfl, Nat.le_refl _, Lib.hid ?_, heap_alloc_new' _ _ _ (by simp), words_none, ⟨_, _, _, _, (Lib.alloc_old _ _ _ (by simp)).trans (heap_alloc_new _ _)⟩, ((Below.refl _ _).alloc (Nat.le_refl _) _).alloc (by simp) _⟩
    funext b
    simp [Glob.union, Glob.none_]
  case round =>
    obtain ⟨m, P, cs, rfl, hml, HE, hb, hW, ⟨z0, z1, z2, z3, hz⟩, HB⟩ := hrel
    cases m with
    | nil =>
      have hn := bytes_nil
      obtain ⟨x0, x1, x2, x3, rfl, hW'⟩ := words_four hW
      have c0 : wr.cell? ⟨w.heap.size + 1, 0, none⟩ = some (.int .u64 x0) := by rw [Lib.cell_of_heap hb]; rfl
      have c1 : wr.cell? ⟨w.heap.size + 1, 1, none⟩ = some (.int .u64 x1) := by rw [Lib.cell_of_heap hb]; rfl
      have c2 : wr.cell? ⟨w.heap.size + 1, 2, none⟩ = some (.int .u64 x2) := by rw [Lib.cell_of_heap hb]; rfl
      have c3 : wr.cell? ⟨w.heap.size + 1, 3, none⟩ = some (.int .u64 x3) := by rw [Lib.cell_of_heap hb]; rfl
      have d0 : wr.cell? ⟨w.heap.size, 0, none⟩ = some z0 := by rw [Lib.cell_of_heap hz]; rfl
      have d1 : wr.cell? ⟨w.heap.size, 1, none⟩ = some z1 := by rw [Lib.cell_of_heap hz]; rfl
      have d2 : wr.cell? ⟨w.heap.size, 2, none⟩ = some z2 := by rw [Lib.cell_of_heap hz]; rfl
      have d3 : wr.cell? ⟨w.heap.size, 3, none⟩ = some z3 := by rw [Lib.cell_of_heap hz]; rfl
      have fz : ∀ j, wr.frozen? ⟨w.heap.size, j, none⟩ = false := fun j => by rw [Lib.frozen_of_heap hz]
      go_wp2
      have hE := heap_set4 hz (.int .u64 x0) (.int .u64 x1) (.int .u64 x2) (.int .u64 x3)
      have HE4 : Below w.heap.size w (set4 wr w.heap.size (.int .u64 x0) (.int .u64 x1) (.int .u64 x2) (.int .u64 x3)) := set4_below HB (Nat.le_refl _) _ _ _ _
      show bodyPost _ _ _ _ _ (set4 wr w.heap.size (.int .u64 x0) (.int .u64 x1) (.int .u64 x2) (.int .u64 x3))
      generalize set4 wr w.heap.size (.int .u64 x0) (.int .u64 x1) (.int .u64 x2) (.int .u64 x3) = W at *
      have e0 : W.cell? ⟨w.heap.size, 0, none⟩ = some (.int .u64 x0) := by rw [Lib.cell_of_heap hE]; rfl
      have e1 : W.cell? ⟨w.heap.size, 1, none⟩ = some (.int .u64 x1) := by rw [Lib.cell_of_heap hE]; rfl
      have e2 : W.cell? ⟨w.heap.size, 2, none⟩ = some (.int .u64 x2) := by rw [Lib.cell_of_heap hE]; rfl
      have e3 : W.cell? ⟨w.heap.size, 3, none⟩ = some (.int .u64 x3) := by rw [Lib.cell_of_heap hE]; rfl
      refine bodyPost_ret (v := .agg #[.int .u64 x0, .int .u64 x1, .int .u64 x2, .int .u64 x3]) (by simp [results, Try.results25, go_sem, e0, e1, e2, e3]) rfl ⟨_, rfl, ?_, HE4⟩
      rw [HE.out, Glob.listed_nil, union_none]
      exact hW'
    | cons c r =>
      have hne := bytes_ne c r
      have hs1 := Lib.hid (Glob.listed_step (c :: r) (by simp))
      have hl1 := Glob.range1_len (c :: r) (by simp)
      have hlu := Glob.unq_len (c :: r) (by simp)
      unfold Glob.range1 at hs1 hl1
      generalize hu : Glob.unq (c :: r) = u at *
      obtain ⟨f, rest⟩ := u
      have hlt : w.heap.size + 1 < wr.heap.size := (Array.getElem?_eq_some_iff.1 hb).1
      match rest, hu with
      | [], hu =>
        have hd : decide (1 < ((bs []).size : Int)) = false := by rfl
        go_wp2_with fail
        refine (unquote_any (c :: r) (by simp) _).mono ?_
        rw [hu]
        rintro e w1 ⟨rfl, B1⟩
        go_wp2_with fail
        refine (add_any P cs f.toNat f.toNat (Nat.le_refl _) f.toNat_lt _ _ ((B1.block _ hlt).trans hb) hW).mono ?_
        rintro e w2 ⟨rfl, B2, cs', hb', hW'⟩
        go_wp2
        go_roundw
        case rel => 
          refine ⟨[], _, cs', rfl, by simp, Lib.hid (HE.out.trans ?_), hb', hW', ⟨z0, z1, z2, z3, ?_⟩, ?_⟩
          · rw [hs1.out, ← union_assoc]
            simp only [within_upfrom, Nat.min_self, Nat.max_self]
          · exact (B2.block _ (by omega)).trans ((B1.block _ (by omega)).trans hz)
          · exact (HB.trans (B1.mono (by omega))).trans (B2.mono (by omega))
        case measure => simp [strLen, bs_size]
      | [a], hu =>
        have hd : decide (1 < ((bs [a]).size : Int)) = false := by rw [bs_size]; rfl
        go_wp2_with fail
        refine (unquote_any (c :: r) (by simp) _).mono ?_
        rw [hu]
        rintro e w1 ⟨rfl, B1⟩
        go_wp2_with fail
        refine (add_any P cs f.toNat f.toNat (Nat.le_refl _) f.toNat_lt _ _ ((B1.block _ hlt).trans hb) hW).mono ?_
        rintro e w2 ⟨rfl, B2, cs', hb', hW'⟩
        go_wp2
        go_roundw
        case rel => 
          refine ⟨[a], _, cs', rfl, by simp at hlu; simp at hml; simp; omega, Lib.hid (HE.out.trans ?_), hb', hW', ⟨z0, z1, z2, z3, ?_⟩, ?_⟩
          · rw [hs1.out, ← union_assoc]
            simp only [within_upfrom, Nat.min_self, Nat.max_self]
          · exact (B2.block _ (by omega)).trans ((B1.block _ (by omega)).trans hz)
          · exact (HB.trans (B1.mono (by omega))).trans (B2.mono (by omega))
        case measure => simp [strLen, bs_size]; simp at hlu; omega
      | a :: b :: r', hu =>
        have hd : decide (1 < ((bs (a :: b :: r')).size : Int)) = true := by rw [bs_size]; simp; omega
        have hpos : 0 < (bs (a :: b :: r')).size := by rw [bs_size]; simp
        have hb1 : ((((bs (a :: b :: r'))[0]).toNat : Int) == 45) = (a == 45) := byte_is a 45 (by omega)
        cases h45 : (a == 45)
        · rw [h45] at hb1
          have hs2 : Hid (Glob.listed (c :: r) = Glob.union (Glob.within f f) (Glob.listed (a :: b :: r'))) := by
            have h := hs1.out
            simp only [h45, Bool.false_eq_true, if_false] at h
            exact Lib.hid h
          clear hs1 hl1
          go_wp2_with fail
          refine (unquote_any (c :: r) (by simp) _).mono ?_
          rw [hu]
          rintro e w1 ⟨rfl, B1⟩
          go_wp2_with fail
          refine (add_any P cs f.toNat f.toNat (Nat.le_refl _) f.toNat_lt _ _ ((B1.block _ hlt).trans hb) hW).mono ?_
          rintro e w2 ⟨rfl, B2, cs', hb', hW'⟩
          go_wp2
          go_roundw
          case rel => 
            refine ⟨a :: b :: r', _, cs', rfl, by simp at hlu hml ⊢; omega, Lib.hid (HE.out.trans ?_), hb', hW', ⟨z0, z1, z2, z3, ?_⟩, ?_⟩
            · rw [hs2.out, ← union_assoc]
              simp only [within_upfrom, Nat.min_self, Nat.max_self]
            · exact (B2.block _ (by omega)).trans ((B1.block _ (by omega)).trans hz)
            · exact (HB.trans (B1.mono (by omega))).trans (B2.mono (by omega))
          case measure => simp [strLen, bs_size]; simp at hlu; omega
        · rw [h45] at hb1
          have hs2 : Hid (Glob.listed (c :: r) = Glob.union (Glob.within f (Glob.unq (b :: r')).1) (Glob.listed (Glob.unq (b :: r')).2)) := by
            have h := hs1.out
            simp only [h45, if_true] at h
            exact Lib.hid h
          have hl2 : (Glob.unq (b :: r')).2.length < (b :: r').length := Glob.unq_len _ (by simp)
          have hfrom : (bs (a :: b :: r')).extract 1 (bs (a :: b :: r')).size = bs (b :: r') := bs_from _ 1 _ (bs_size _)
          clear hs1 hl1
          go_wp2_with fail
          refine (unquote_any (c :: r) (by simp) _).mono ?_
          rw [hu]
          rintro e w1 ⟨rfl, B1⟩
          go_wp2_with fail
          refine (unquote_any (b :: r') (by simp) _).mono ?_
          rintro e w2 ⟨rfl, B2⟩
          generalize Glob.unq (b :: r') = v at *
          obtain ⟨t, rest2⟩ := v
          go_wp2_with fail
          have e1 : min (f.toNat : Int) (t.toNat : Int) = ((min f.toNat t.toNat : Nat) : Int) := by omega
          have e2 : max (f.toNat : Int) (t.toNat : Int) = ((max f.toNat t.toNat : Nat) : Int) := by omega
          have hf := f.toNat_lt
          have ht := t.toNat_lt
          rw [e1, e2]
          refine (add_any P cs (min f.toNat t.toNat) (max f.toNat t.toNat) (by omega) (by omega) _ _ ((B2.block _ (by have := B1.size; omega)).trans ((B1.block _ hlt).trans hb)) hW).mono ?_
          rintro e w3 ⟨rfl, B3, cs', hb', hW'⟩
          go_wp2
          go_roundw
          case rel =>
            have y1 := B1.size
            have y2 := B2.size
            refine ⟨rest2, _, cs', rfl, by simp at hlu hml hl2; omega, Lib.hid (HE.out.trans ?_), hb', hW', ⟨z0, z1, z2, z3, ?_⟩, ?_⟩
            · rw [hs2.out, ← union_assoc]
              simp only [within_upfrom]
            · exact (B3.block _ (by omega)).trans ((B2.block _ (by omega)).trans ((B1.block _ (by omega)).trans hz))
            · exact ((HB.trans (B1.mono (by omega))).trans (B2.mono (by omega))).trans (B3.mono (by omega))
          case measure => simp [strLen, bs_size]; simp at hlu hl2; omega

end Go.Proofs.Ytimnnldjmmdlmaa
