/-
  What the reference's Same answers, whole.
-/
import Derived.Test.YtcikelcecfapcaaDoorRespSameA
namespace Go.Proofs.YtcikelcecfapcaaDoor
open Go.RowKit Rp

theorem cK {w w' : World} {a : Addr} {v : Value} (hb : Below w.heap.size w w') (h : w.cell? a = some v) : w'.cell? a = some v := (hb.cell (World.block_lt_of_cell? w _ h)).trans h

theorem sameL_next (l l' : List Rep) (j : Nat) (hj : j < l.length) (hj' : j < l'.length) (h : sameL l l' = sameL (l.drop j) (l'.drop j)) (h1 : same l[j] l'[j] = true) : sameL l l' = sameL (l.drop (j + 1)) (l'.drop (j + 1)) := by
  rw [h, List.drop_eq_getElem_cons hj, List.drop_eq_getElem_cons hj', sameL, h1]; rfl
theorem sameL_stop (l l' : List Rep) (j : Nat) (hj : j < l.length) (hj' : j < l'.length) (h : sameL l l' = sameL (l.drop j) (l'.drop j)) (h1 : same l[j] l'[j] = false) : sameL l l' = false := by
  rw [h, List.drop_eq_getElem_cons hj, List.drop_eq_getElem_cons hj', sameL, h1]; rfl
theorem sameL_len : ∀ (l l' : List Rep), l.length ≠ l'.length → sameL l l' = false
  | [], [], h => absurd rfl h
  | [], _ :: _, _ => rfl
  | _ :: _, [], _ => rfl
  | r :: rs, x :: xs, h => by
    rw [sameL, sameL_len rs xs (by simpa using h), Bool.and_false]

/-- A contract for the elements. -/
def SameAt (f : Nat) (a : Rep) : Prop := ∀ (b : Rep) (p q : Option Addr) (c d : Nat) (w : World), RepIn w a p c → RepIn w b q d →
    Calls Tryd.prog f #[.agg (repCs a p c), .agg (repCs b q d)] w fun e w' => e = .returned (.bool (same a b)) ∧ Below w.heap.size w w'

set_option maxRecDepth 20000 in
set_option maxHeartbeats 2000000 in
theorem rs_loop (k n : Int) (s : List UInt8) (l l' : List Rep) (hll : l'.length = l.length) (ih : ∀ x ∈ l, SameAt 12 x) (c c' : Nat) (p p' : Option Addr) (w : World) (h : RepIn w (.mk k s n l) p c) (h' : RepIn w (.mk k s n l') p' c') :
    Calls Tryd.prog 12 #[.agg #[.int .i64 k, .string (bs s), .int .i64 n, .slice p l.length c], .agg #[.int .i64 k, .string (bs s), .int .i64 n, .slice p' l'.length c']] w fun e w' => e = .returned (.bool (sameL l l')) ∧ Below w.heap.size w w' := by
  have hl63 : l.length ≤ 9223372036854775807 := by
    obtain ⟨_, _, _, h1, h2, _⟩ := h.parts
    unfold maxLen at h2; omega
  rw [hll]
  obtain ⟨S, hS⟩ : ∃ S, S = bs s := ⟨_, rfl⟩
  rw [← hS]
  clear hS
  obtain ⟨L, hL⟩ : ∃ L, L = l.length := ⟨_, rfl⟩
  rw [← hL] at hll hl63 ⊢
  have HL := Lib.hid hL
  have HL' := Lib.hid hll
  have IH := Lib.hid ih
  have H := Lib.hid h
  have H' := Lib.hid h'
  clear hL hll ih h h'
  go_enter Tryd.func12, Tryd.ntmps12
  go_wp2
  go_loopw [5] (fun i wr => ∃ (j : Nat), j ≤ L ∧ i = .int .i64 j ∧ Hid (sameL l l' = sameL (l.drop j) (l'.drop j)) ∧ wr.heap[w.heap.size]? = some (.cells #[.int .i64 k, .string S, .int .i64 n, .slice p L c] 26 (0, 0)) ∧ wr.heap[w.heap.size + 1]? = some (.cells #[.int .i64 k, .string S, .int .i64 n, .slice p' L c'] 26 (0, 0)) ∧ Below w.heap.size w wr) (fun i _ => L - (intOf i).toNat)
  case atStart => exact ⟨0, Nat.zero_le _, rfl, Lib.hid rfl, (Below.heap_alloc _ _ _ (by simp)).trans (heap_alloc_new w _), by simpa using heap_alloc_new (w.alloc (.cells #[.int .i64 k, .string S, .int .i64 n, .slice p L c] 26)) (.cells #[.int .i64 k, .string S, .int .i64 n, .slice p' L c'] 26), bA (bA (Below.refl _ _) _) _⟩
  case round =>
    obtain ⟨j, hj, rfl, HM, hB, hB', HB⟩ := hrel
    have c3 : wr.cell? ⟨w.heap.size, 3, none⟩ = some (.slice p L c) := by rw [Lib.cell_of_heap hB]; rfl
    have c3' : wr.cell? ⟨w.heap.size + 1, 3, none⟩ = some (.slice p' L c') := by rw [Lib.cell_of_heap hB']; rfl
    have hBl := (Array.getElem?_eq_some_iff.1 hB).1
    have hBl' := (Array.getElem?_eq_some_iff.1 hB').1
    have HBB := Lib.hid hB
    have HBB' := Lib.hid hB'
    clear hB hB'
    by_cases hjl : j < L
    · have hd1 : decide ((j : Int) < (L : Int)) = true := decide_eq_true (by omega)
      have hja : j < l.length := by have := HL.out; omega
      have hjb : j < l'.length := by have := HL'.out; omega
      have HN1 := Lib.hid (sameL_next l l' j hja hjb HM.out)
      have HN2 := Lib.hid (sameL_stop l l' j hja hjb HM.out)
      obtain ⟨b, o, q, e, rfl, hc, hi⟩ := H.out.kid j hja
      obtain ⟨e0, e1, e2, e3⟩ := hc.below HB
      obtain ⟨b', o', q', e', rfl, hc', hi'⟩ := H'.out.kid j hjb
      obtain ⟨f0, f1, f2, f3⟩ := hc'.below HB
      have hi1 := RepIn.below HB _ hi
      have hi1' := RepIn.below HB _ hi'
      have hcall : ∀ w2, Below wr.heap.size wr w2 → _ := fun w2 hb => IH.out l[j] (List.getElem_mem hja) l'[j] q q' e e' w2 (RepIn.below hb _ hi1) (RepIn.below hb _ hi1')
      clear hi hc H hi' hc' H' hi1 hi1' HM
      generalize l[j] = x at *
      generalize l'[j] = x' at *
      clear hja hjb
      unfold repCs at hcall
      have i0 : (0 : Int) ≤ (j : Int) := by omega
      have i1 : (j : Int) < (L : Int) := by omega
      generalize same x x' = z at *
      have HCL := Lib.hid hcall
      clear hcall
      have KK : Hid (∀ w', Below wr.heap.size wr w' → Below wr.heap.size wr w' ∧ w'.cell? ⟨w.heap.size, 3, none⟩ = some (.slice (some ⟨b, o, none⟩) L c) ∧ w'.cell? ⟨w.heap.size + 1, 3, none⟩ = some (.slice (some ⟨b', o', none⟩) L c') ∧ w'.cell? ⟨b, o + j * 4, none⟩ = some (.int .i64 x.kind) ∧ w'.cell? ⟨b, o + j * 4 + 1, none⟩ = some (.string (bs x.str)) ∧ w'.cell? ⟨b, o + j * 4 + 2, none⟩ = some (.int .i64 x.num) ∧ w'.cell? ⟨b, o + j * 4 + 3, none⟩ = some (.slice q x.kids.length e) ∧ w'.cell? ⟨b', o' + j * 4, none⟩ = some (.int .i64 x'.kind) ∧ w'.cell? ⟨b', o' + j * 4 + 1, none⟩ = some (.string (bs x'.str)) ∧ w'.cell? ⟨b', o' + j * 4 + 2, none⟩ = some (.int .i64 x'.num) ∧ w'.cell? ⟨b', o' + j * 4 + 3, none⟩ = some (.slice q' x'.kids.length e')) := Lib.hid fun w' h => ⟨h, cK h c3, cK h c3', cK h e0, cK h e1, cK h e2, cK h e3, cK h f0, cK h f1, cK h f2, cK h f3⟩
      go_wp2_with fail
      go_region_held3 (fun w' => Below wr.heap.size wr w' ∧ w'.cell? ⟨w.heap.size, 3, none⟩ = some (.slice (some ⟨b, o, none⟩) L c) ∧ w'.cell? ⟨w.heap.size + 1, 3, none⟩ = some (.slice (some ⟨b', o', none⟩) L c') ∧ w'.cell? ⟨b, o + j * 4, none⟩ = some (.int .i64 x.kind) ∧ w'.cell? ⟨b, o + j * 4 + 1, none⟩ = some (.string (bs x.str)) ∧ w'.cell? ⟨b, o + j * 4 + 2, none⟩ = some (.int .i64 x.num) ∧ w'.cell? ⟨b, o + j * 4 + 3, none⟩ = some (.slice q x.kids.length e) ∧ w'.cell? ⟨b', o' + j * 4, none⟩ = some (.int .i64 x'.kind) ∧ w'.cell? ⟨b', o' + j * 4 + 1, none⟩ = some (.string (bs x'.str)) ∧ w'.cell? ⟨b', o' + j * 4 + 2, none⟩ = some (.int .i64 x'.num) ∧ w'.cell? ⟨b', o' + j * 4 + 3, none⟩ = some (.slice q' x'.kids.length e'))
        ((first | exact KK.out _ (bD (Below.refl _ _)) | exact KK.out _ (bT (bD (Below.refl _ _)) hb1)))
        ((go_at_call 12; refine (HCL.out _ (bD (Below.refl _ _))).mono ?_; rintro e9 w1 ⟨rfl, hb1⟩))
      have hb2 := bT (bD (Below.refl wr.heap.size wr)) hb1
      clear KK HCL c3 c3' e0 e1 e2 e3 f0 f1 f2 f3 hb1
      rename_i hHeld
      clear hHeld
      cases z with
      | true =>
        have HN := Lib.hid (HN1.out rfl)
        go_wp2
        go_roundw
        case rel => exact ⟨j + 1, by omega, by go_num, HN, (hb2.block _ hBl).trans HBB.out, (hb2.block _ hBl').trans HBB'.out, bT HB hb2⟩
        case measure => simp [intOf]; omega
      | false =>
        have HN := Lib.hid (HN2.out rfl)
        go_wp2
        go_ret
        exact ⟨by rw [HN.out]; rfl, bT HB hb2⟩
    · have hd1 : decide ((j : Int) < (L : Int)) = false := decide_eq_false (by omega)
      have HN := Lib.hid (show sameL l l' = true by rw [HM.out, List.drop_eq_nil_of_le (by have := HL.out; omega), List.drop_eq_nil_of_le (by have := HL'.out; omega)]; rfl)
      go_wp2
      go_ret
      exact ⟨by rw [HN.out]; rfl, HB⟩

/-- THE REFERENCE's Same. -/
theorem refsame_any (a : Rep) : SameAt 12 a := by
  refine Rep.ind (p := fun a => SameAt 12 a) ?_ a
  intro k s n l ih b p p' c c' w h h'
  obtain ⟨k', s', n', l'⟩ := b
  unfold repCs
  simp only [Rep.kind, Rep.str, Rep.num, Rep.kids]
  by_cases hk : k = k'
  · subst hk
    by_cases hs : s = s'
    · subst hs
      by_cases hn : n = n'
      · subst hn
        rw [show same (.mk k s n l) (.mk k s n l') = sameL l l' by simp [same]]
        by_cases hl : l'.length = l.length
        · exact rs_loop k n s l l' hl ih c c' p p' w h h'
        · rw [sameL_len l l' (fun e => hl e.symm)]
          exact rs_l k n l.length l'.length c c' p p' (bs s) w (by simp only [bne_iff_ne, ne_eq]; omega)
      · rw [show same (.mk k s n l) (.mk k s n' l') = false by simp [same, hn]]
        exact rs_n k n n' l.length l'.length c c' p p' (bs s) w (by simpa using hn)
    · rw [show same (.mk k s n l) (.mk k s' n' l') = false by simp [same, hs]]
      exact rs_s k n n' l.length l'.length c c' p p' (bs s) (bs s') w (by rw [strs_eq]; simpa using hs)
  · rw [show same (.mk k s n l) (.mk k' s' n' l') = false by simp [same, hk]]
    exact rs_k k k' n n' l.length l'.length c c' p p' (bs s) (bs s') w (by simpa using hk)
end Go.Proofs.YtcikelcecfapcaaDoor
