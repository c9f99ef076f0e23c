/-
  resp.Same, of any two replies.
-/
import Derived.Test.YtdeacankicciaaaDoorRespFits
import Derived.Test.YtdeacankicciaaaDoorRespSame
namespace Go.Proofs.YtdeacankicciaaaDoor
open Go.RowKit Rp

set_option maxRecDepth 20000 in
set_option maxHeartbeats 2000000 in
theorem eqf_loop (k n k' n' : Int) (s s' : List UInt8) (l l' : List Rep) (hll : l'.length = l.length) (ih : ∀ x ∈ l, SameAt 13 x) (c c' : Nat) (p p' : Option Addr) (w : World) (h : RepIn w (.mk k s n l) p c) (h' : RepIn w (.mk k' s' n' l') p' c') :
    Calls Tryd.prog 34 #[.slice p l.length c, .slice p' l'.length c', .func (.func 13) #[] #[]] w fun e w' => e = .returned (.bool (sameL l l')) ∧ Below w.heap.size w w' := by
  have hl63 : l.length ≤ 9223372036854775807 := by
    obtain ⟨_, _, _, h1, h2, _⟩ := h.parts
    unfold maxLen at h2; omega
  rw [hll]
  obtain ⟨L, hL⟩ : ∃ L, L = l.length := ⟨_, rfl⟩
  rw [← hL] at hll hl63 ⊢
  have HL := Lib.hid hL
  have HL' := Lib.hid hll
  have IH := Lib.hid ih
  have H := Lib.hid h
  have H' := Lib.hid h'
  clear hL hll ih h h'
  have eg := enters_of Tryd.func13 (by kernel_rfl) rfl
  go_enter Tryd.func34, Tryd.ntmps34
  go_wp2
  go_loopw [17] (fun i wr => ∃ (j : Nat), j ≤ L ∧ i = .int .i64 j ∧ Hid (sameL l l' = sameL (l.drop j) (l'.drop j)) ∧ Below w.heap.size w wr) (fun i _ => L - (intOf i).toNat)
  case atStart => exact ⟨0, Nat.zero_le _, rfl, Lib.hid rfl, Below.refl _ _⟩
  case round =>
    obtain ⟨j, hj, rfl, HM, HB⟩ := hrel
    by_cases hjl : j < L
    · have hd1 : decide ((j : Int) < (L : Int)) = true := decide_eq_true (by omega)
      have hja : j < l.length := by have := HL.out; omega
      have hjb : j < l'.length := by have := HL'.out; omega
      have HN1 := Lib.hid (sameL_next l l' j hja hjb HM.out)
      have HN2 := Lib.hid (sameL_stop l l' j hja hjb HM.out)
      obtain ⟨b, o, q, e, rfl, hc, hi⟩ := H.out.kid j hja
      obtain ⟨b', o', q', e', rfl, hc', hi'⟩ := H'.out.kid j hjb
      obtain ⟨e0, e1, e2, e3⟩ := hc.below HB
      have hc2 := fun X => hc'.below (bA HB X)
      have f0 := fun X => (hc2 X).1
      have f1 := fun X => (hc2 X).2.1
      have f2 := fun X => (hc2 X).2.2.1
      have f3 := fun X => (hc2 X).2.2.2
      have hi1 := RepIn.below HB _ hi
      have hi1' := RepIn.below HB _ hi'
      have hcall : ∀ w2, Below wr.heap.size wr w2 → _ := fun w2 hb => IH.out l[j] (List.getElem_mem hja) l'[j] q q' e e' w2 (RepIn.below hb _ hi1) (RepIn.below hb _ hi1')
      clear hi hc H hi' hc' H' hi1 hi1' HM hc2
      generalize l[j] = x at *
      generalize l'[j] = x' at *
      clear hja hjb
      unfold repCs at hcall
      generalize same x x' = z at *
      have HCL := Lib.hid hcall
      clear hcall
      go_wp2_with fail
      refine (HCL.out _ (bA (bA (Below.refl _ _) _) _)).mono ?_
      rintro e9 w1 ⟨rfl, hb1⟩
      have hb2 := bT (bA (bA (Below.refl wr.heap.size wr) _) _) hb1
      clear HCL e0 e1 e2 e3 f0 f1 f2 f3 hb1
      cases z with
      | true =>
        have HN := Lib.hid (HN1.out rfl)
        go_wp2
        go_roundw
        case rel => exact ⟨j + 1, by omega, by go_num, HN, bT HB hb2⟩
        case measure => simp [intOf]; omega
      | false =>
        have HN := Lib.hid (HN2.out rfl)
        go_wp2
        go_ret
        exact ⟨by rw [HN.out]; rfl, bT HB hb2⟩
    · have hd1 : decide ((j : Int) < (L : Int)) = false := decide_eq_false (by omega)
      have HN := Lib.hid (show sameL l l' = true by rw [HM.out, List.drop_eq_nil_of_le (by have := HL.out; omega), List.drop_eq_nil_of_le (by have := HL'.out; omega)]; rfl)
      go_wp2
      go_ret
      exact ⟨by rw [HN.out]; rfl, HB⟩

set_option maxRecDepth 20000 in
set_option maxHeartbeats 400000 in
theorem eqf_ne (L L' c c' : Nat) (p p' : Option Addr) (w : World) (h2 : ((L : Int) != (L' : Int)) = true) :
    Calls Tryd.prog 34 #[.slice p L c, .slice p' L' c', .func (.func 13) #[] #[]] w fun e w' => e = .returned (.bool false) ∧ Below w.heap.size w w' := by
  go_enter Tryd.func34, Tryd.ntmps34
  go_wp2
  go_ret
  exact ⟨rfl, Below.refl _ _⟩

set_option maxRecDepth 20000 in
set_option maxHeartbeats 800000 in
theorem ss_k (k k' n n' : Int) (L L' c c' : Nat) (p p' : Option Addr) (S S' : ByteArray) (w : World) (h : (k == k') = false) :
    Calls Tryd.prog 13 #[.agg #[.int .i64 k, .string S, .int .i64 n, .slice p L c], .agg #[.int .i64 k', .string S', .int .i64 n', .slice p' L' c']] w fun e w' => e = .returned (.bool false) ∧ Below w.heap.size w w' := by
  go_enter Tryd.func13, Tryd.ntmps13
  go_wp2
  go_ret
  exact ⟨rfl, bA (bA (Below.refl _ _) _) _⟩

set_option maxRecDepth 20000 in
set_option maxHeartbeats 800000 in
theorem ss_s (k n n' : Int) (L L' c c' : Nat) (p p' : Option Addr) (S S' : ByteArray) (w : World) (h : (S.toList == S'.toList) = false) :
    Calls Tryd.prog 13 #[.agg #[.int .i64 k, .string S, .int .i64 n, .slice p L c], .agg #[.int .i64 k, .string S', .int .i64 n', .slice p' L' c']] w fun e w' => e = .returned (.bool false) ∧ Below w.heap.size w w' := by
  go_enter Tryd.func13, Tryd.ntmps13
  go_wp2
  go_ret
  exact ⟨rfl, bA (bA (Below.refl _ _) _) _⟩

set_option maxRecDepth 20000 in
set_option maxHeartbeats 800000 in
theorem ss_n (k n n' : Int) (L L' c c' : Nat) (p p' : Option Addr) (S : ByteArray) (w : World) (h : (n == n') = false) :
    Calls Tryd.prog 13 #[.agg #[.int .i64 k, .string S, .int .i64 n, .slice p L c], .agg #[.int .i64 k, .string S, .int .i64 n', .slice p' L' c']] w fun e w' => e = .returned (.bool false) ∧ Below w.heap.size w w' := by
  go_enter Tryd.func13, Tryd.ntmps13
  go_wp2
  go_ret
  exact ⟨rfl, bA (bA (Below.refl _ _) _) _⟩

set_option maxRecDepth 20000 in
set_option maxHeartbeats 800000 in
theorem ss_l (z : Bool) (k n : Int) (L L' c c' : Nat) (p p' : Option Addr) (S : ByteArray) (w : World) (hq : ∀ W, Below w.heap.size w W → Calls Tryd.prog 34 #[.slice p L c, .slice p' L' c', .func (.func 13) #[] #[]] W fun e w' => e = .returned (.bool z) ∧ Below W.heap.size W w') :
    Calls Tryd.prog 13 #[.agg #[.int .i64 k, .string S, .int .i64 n, .slice p L c], .agg #[.int .i64 k, .string S, .int .i64 n, .slice p' L' c']] w fun e w' => e = .returned (.bool z) ∧ Below w.heap.size w w' := by
  have HQ := Lib.hid hq
  clear hq
  go_enter Tryd.func13, Tryd.ntmps13
  go_wp2_with fail
  refine (HQ.out _ (bA (bA (Below.refl _ _) _) _)).mono ?_
  rintro e w1 ⟨rfl, hb1⟩
  go_wp2
  go_ret
  exact ⟨rfl, bT (bA (bA (Below.refl _ _) _) _) hb1⟩

/-- resp.Same, of any two replies. -/
theorem ressame_any (a : Rep) : SameAt 13 a := by
  refine Rep.ind (p := fun a => SameAt 13 a) ?_ a
  intro k s n l ih b p p' c c' w h h'
  obtain ⟨k', s', n', l'⟩ := b
  unfold repCs
  simp only [Rep.kind, Rep.str, Rep.num, Rep.kids]
  by_cases hk : k = k'
  · subst hk
    by_cases hs : s = s'
    · subst hs
      by_cases hn : n = n'
      · subst hn
        rw [show same (.mk k s n l) (.mk k s n l') = sameL l l' by simp [same]]
        refine ss_l (sameL l l') k n l.length l'.length c c' p p' (bs s) w fun W hW => ?_
        by_cases hl : l'.length = l.length
        · exact eqf_loop k n k n s s l l' hl ih c c' p p' W (RepIn.below hW _ h) (RepIn.below hW _ h')
        · rw [sameL_len l l' (fun e => hl e.symm)]
          exact eqf_ne l.length l'.length c c' p p' W (by simp only [bne_iff_ne, ne_eq]; omega)
      · rw [show same (.mk k s n l) (.mk k s n' l') = false by simp [same, hn]]
        exact ss_n k n n' l.length l'.length c c' p p' (bs s) w (by simpa using hn)
    · rw [show same (.mk k s n l) (.mk k s' n' l') = false by simp [same, hs]]
      exact ss_s k n n' l.length l'.length c c' p p' (bs s) (bs s') w (by rw [strs_eq]; simpa using hs)
  · rw [show same (.mk k s n l) (.mk k' s' n' l') = false by simp [same, hk]]
    exact ss_k k k' n n' l.length l'.length c c' p p' (bs s) (bs s') w (by simpa using hk)
end Go.Proofs.YtdeacankicciaaaDoor
