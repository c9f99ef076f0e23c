/-
  What resp.Strs answers: an array of Bulks.
-/
import Derived.Test.YtkcapbjmhimceaaDoorRespAwake
import Derived.Deep.AppendLies
import Derived.Deep.RegionLaw
namespace Go.Proofs.YtkcapbjmhimceaaDoor
open Go.RowKit Rp

/-- A Bulk. -/
def bulk (s : List UInt8) : Rep := .mk 3 s 0 []
theorem bulks_next (ss : List (List UInt8)) (j : Nat) (h : j < ss.length) : flat4 ((ss.take (j + 1)).map bulk) = flat4 ((ss.take j).map bulk) ++ [.int .i64 3, .string (bs ss[j]), .int .i64 0, .slice none 0 0] := by
  rw [List.take_succ_eq_append_getElem h, List.map_append]
  exact flat4_snoc _ (bulk ss[j])

/-- Strings at a slice's places. -/
def StrsAt (w : World) (ss : List (List UInt8)) (p : Option Addr) : Prop := ∀ (j : Nat) (h : j < ss.length), ∃ b o, p = some ⟨b, o, none⟩ ∧ w.cell? ⟨b, o + j, none⟩ = some (.string (bs ss[j]))

set_option maxRecDepth 20000 in
set_option maxHeartbeats 4000000 in
theorem strs_any (ss : List (List UInt8)) (hl : ss.length ≤ 1000000) (p : Option Addr) (c : Nat) (w : World) (h : StrsAt w ss p) :
    Calls Tryd.prog 18 #[.slice p ss.length c] w fun e w' => ∃ v, e = .returned v ∧ Made (ss.map bulk) w.heap.size v w' ∧ Below w.heap.size w w' := by
  obtain ⟨ir, hir, hrz, hrs, hrb⟩ := info_parts info_rep
  have H := Lib.hid h
  clear h
  obtain ⟨n, hn⟩ : ∃ n : Nat, n = ss.length := ⟨_, rfl⟩
  rw [← hn] at hl ⊢
  have HNL := Lib.hid hn
  clear hn
  go_enter Tryd.func18, Tryd.ntmps18
  go_wp2
  go_loopw [5, 9] (fun _ i wr => ∃ (j : Nat) (ua : Option Addr) (uc : Nat), j ≤ n ∧ i = .int .i64 j ∧ wr.heap[w.heap.size]? = some (.cells #[.int .i64 0, .string ⟨#[]⟩, .int .i64 0, .slice none 0 0] 26 (0, 0)) ∧ wr.heap[w.heap.size + 1]? = some (.cells #[.int .i64 5, .string ⟨#[]⟩, .int .i64 0, .slice ua j uc] 26 (0, 0)) ∧
    wr.ownsRow (w.heap.size + 2) 26 4 (.slice ua j uc) j (flat4 ((ss.take j).map bulk)) ∧ Below w.heap.size w wr) (fun _ i _ => n - (intOf i).toNat)
  case atStart => exact ⟨0, none, 0, Nat.zero_le _, rfl, (Below.heap_alloc _ _ _ (by simp)).trans (heap_alloc_new w _), two_heap w _ _ _ rfl, World.ownsRow_nil _ _ _ _, bA (bA (Below.refl _ _) _) _⟩
  case round =>
    obtain ⟨j, ua, uc, hj, rfl, hR, hX, hrow, hB⟩ := hrel
    have hXl := (Array.getElem?_eq_some_iff.1 hX).1
    by_cases hjl : j < n
    · have hd1 : decide ((j : Int) < (n : Int)) = true := decide_eq_true (by omega)
      have hja : j < ss.length := by have := HNL.out; omega
      obtain ⟨b, o, rfl, e0⟩ := H.out j hja
      have e0 := cK hB e0
      have HN := Lib.hid (bulks_next ss j hja)
      generalize ss[j] = s at *
      generalize bs s = S at *
      clear hja
      have cX : wr.cell? ⟨w.heap.size + 1, 3, none⟩ = some (.slice ua j uc) := by rw [Lib.cell_of_heap hX]; rfl
      have fX : wr.frozen? ⟨w.heap.size + 1, 3, none⟩ = false := by rw [Lib.frozen_of_heap hX]
      have hvl := hrow.lt
      have hrowd : wr.drew.ownsRow (w.heap.size + 2) 26 4 (.slice ua j uc) j (flat4 ((ss.take j).map bulk)) := hrow
      go_wp2_with fail
      go_region_law (first
        | (go_simp
           go_at_call 23
           refine (str_any S wr.drew).mono ?_
           rintro e w1 ⟨rfl, hb1⟩
           have hX1 := (hb1.block (w.heap.size + 1) hXl).trans hX
           have hrow1 := hrowd.kept (below_grown hb1 none) (by cases ua <;> simp [Value.ownBlock])
           have cX1 : w1.cell? ⟨w.heap.size + 1, 3, none⟩ = some (.slice ua j uc) := by rw [Lib.cell_of_heap hX1]; rfl
           have cXa : (w1.alloc (.cells #[.int .i64 3, .string S, .int .i64 0, .slice none 0 0] 26)).cell? ⟨w.heap.size + 1, 3, none⟩ = some (.slice ua j uc) := cK (bA (Below.refl _ _) _) cX1
           dsimp only)
        | (refine step_append_lies _ (by rfl) (.tmp 14) (.tmp 17) 24 (by rfl) (w.heap.size + 2) 26 ir (.agg #[.int .i64 0, .string ⟨#[]⟩, .int .i64 0, .slice none 0 0]) 4 56 Tryd.underlying24 hir hrz hrs hrb (by rfl) (by omega) (.slice ua j uc) j _ (by rfl) (hrow1.alloc _) ⟨w1.heap.size, 0, none⟩ 1 1 [.int .i64 3, .string S, .int .i64 0, .slice none 0 0] (by rfl) (by rfl) (World.news_of_block (heap_alloc_new w1 (.cells #[.int .i64 3, .string S, .int .i64 0, .slice none 0 0] 26))) (by intro x hx; simp at hx; rcases hx with rfl | rfl | rfl | rfl <;> rfl) (by omega) (by unfold maxLen; omega) (by omega) (by have := hb1.size; simp at this ⊢; omega) (w1.heap.size + 1) (by simp) ?_
           intro g' cap' w3 hown hgrow hat hlt
           have hX3 := (hgrow.block (w.heap.size + 1) (by have := hb1.size; simp at this ⊢; omega) (fun e => by have := hvl _ e.symm; omega)).trans ((Below.heap_alloc w1 (.cells #[.int .i64 3, .string S, .int .i64 0, .slice none 0 0] 26) _ (by have := hb1.size; simp at this; omega)).trans hX1)
           have fX3 : w3.frozen? ⟨w.heap.size + 1, 3, none⟩ = false := by rw [Lib.frozen_of_heap hX3]
           have cX3 : w3.cell? ⟨w.heap.size + 1, 3, none⟩ = some (.slice ua j uc) := by rw [Lib.cell_of_heap hX3]; rfl))
      all_goals
        have hRl := (Array.getElem?_eq_some_iff.1 hR).1
        have hsz1 : wr.heap.size ≤ w1.heap.size := hb1.size
        have hb0 : Below w.heap.size w w1 := bT hB (bT (bD (Below.refl _ _)) hb1)
        have hb3 : Below w.heap.size w w3 := (bA hb0 _).grown hgrow (by simp; omega) (fun k hk => by have := hvl k hk; omega)
        have hX4 := heap_set (j := 3) hX3 (.slice (some ⟨g', 0, none⟩) (j + 1) cap')
        have hR4 := (Below.heap_setCell w3 ⟨w.heap.size + 1, 3, none⟩ (.slice (some ⟨g', 0, none⟩) (j + 1) cap') w.heap.size (by simp)).trans ((hgrow.block w.heap.size (by simp; omega) (fun e => by have := hvl _ e.symm; omega)).trans ((Below.heap_alloc w1 (.cells #[.int .i64 3, .string S, .int .i64 0, .slice none 0 0] 26) _ (by omega)).trans ((hb1.block w.heap.size hRl).trans hR)))
        have hown4 := ownsRow_setCell_below hown (a := ⟨w.heap.size + 1, 3, none⟩) (by show w.heap.size + 1 < w.heap.size + 2; omega) (.slice (some ⟨g', 0, none⟩) (j + 1) cap')
        rw [← HN.out] at hown4
        have hb4 := hb3.setCell (p := ⟨w.heap.size + 1, 3, none⟩) (by simp) (.slice (some ⟨g', 0, none⟩) (j + 1) cap')
        have F := Lib.hid (And.intro hR4 (And.intro hX4 (And.intro hown4 hb4)))
        clear hR4 hX4 hown4 hb4 hb3 hX3 fX3 cX3 cXa cX1 hX1 hrow1 hown hgrow hat hlt hrowd hrow hX cX fX e0 hR hb0
        go_wp2
        go_roundw
        case rel => exact ⟨j + 1, some ⟨g', 0, none⟩, cap', by omega, by go_num, F.out.1, F.out.2.1, F.out.2.2.1, F.out.2.2.2⟩
        case measure => simp [intOf]; omega
    · have hd1 : decide ((j : Int) < (n : Int)) = false := decide_eq_false (by omega)
      obtain rfl : j = n := by omega
      rw [List.take_of_length_le (by have := HNL.out; omega)] at hrow
      obtain ⟨c0, c1, c2, c3⟩ := cells4 hX
      obtain ⟨d0, d1, d2, d3⟩ := cells4 hR
      have fz := frozen4 hR
      have hE := heap_set4 hR (.int .i64 5) (.string ⟨#[]⟩) (.int .i64 0) (.slice ua j uc)
      have HE : Below w.heap.size w (set4 wr w.heap.size (.int .i64 5) (.string ⟨#[]⟩) (.int .i64 0) (.slice ua j uc)) := set4_below hB (Nat.le_refl _) _ _ _ _
      have hb1 : w.heap.size < w.heap.size + 2 := by omega
      have hR2 : (set4 wr w.heap.size (.int .i64 5) (.string ⟨#[]⟩) (.int .i64 0) (.slice ua j uc)).ownsRow w.heap.size 26 4 (.slice ua j uc) j (flat4 (ss.map bulk)) :=
        row_mono (ownsRow_setCell_below (ownsRow_setCell_below (ownsRow_setCell_below (ownsRow_setCell_below hrow (a := ⟨w.heap.size, 0, none⟩) hb1 _) (a := ⟨w.heap.size, 1, none⟩) hb1 _) (a := ⟨w.heap.size, 2, none⟩) hb1 _) (a := ⟨w.heap.size, 3, none⟩) hb1 _) (Nat.le_of_lt hb1)
      have HH := Lib.hid (And.intro hE (And.intro HE hR2))
      clear hE HE hR2 hrow hX hR
      go_wp2_with fail
      show bodyPost _ _ _ _ _ (set4 wr w.heap.size (.int .i64 5) (.string ⟨#[]⟩) (.int .i64 0) (.slice ua j uc))
      generalize set4 wr w.heap.size (.int .i64 5) (.string ⟨#[]⟩) (.int .i64 0) (.slice ua j uc) = W at *
      obtain ⟨hE, HE, hR2⟩ := HH.out
      obtain ⟨e0, e1, e2, e3⟩ := cells4 hE
      have hml : (ss.map bulk).length = j := by rw [List.length_map, ← HNL.out]
      exact bodyPost_ret (v := .agg #[.int .i64 5, .string ⟨#[]⟩, .int .i64 0, .slice ua j uc]) (by simp [results, Tryd.results18, go_sem, e0, e1, e2, e3]) rfl ⟨_, rfl, ⟨ua, uc, by rw [hml], by rw [hml]; exact hR2⟩, HE⟩
end Go.Proofs.YtkcapbjmhimceaaDoor
