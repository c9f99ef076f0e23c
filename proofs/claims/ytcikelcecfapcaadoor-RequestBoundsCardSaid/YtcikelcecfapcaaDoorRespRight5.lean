/-
  What the reference's Right answers: arrays; whole.
-/
import Derived.Test.YtcikelcecfapcaaDoorRespRight
namespace Go.Proofs.YtcikelcecfapcaaDoor
open Go.RowKit Rp

set_option maxRecDepth 20000 in
set_option maxHeartbeats 1000000 in
theorem rr_5z (L c : Nat) (p : Option Addr) (w : World) :
    Calls Tryd.prog 15 #[.agg #[.int .i64 5, .string (bs []), .int .i64 0, .slice p L c], .int .i64 0] w fun e w' => e = .returned (.bool false) ∧ Below w.heap.size w w' := by
  have hn := bytes_nil
  go_enter Tryd.func15, Tryd.ntmps15
  go_wp2
  go_loop [5] (fun i => i = .int .i64 0) (fun i => 0)
  case atStart => rfl
  case round =>
    obtain rfl := hrel
    go_wp2
    go_ret
    exact ⟨rfl, (Below.refl _ _).alloc (Nat.le_refl _) _⟩

theorem rightL_next (d : Nat) (l : List Rep) (j : Nat) (hj : j < l.length) (h : rightL d l = rightL d (l.drop j)) (h1 : right d l[j] = true) : rightL d l = rightL d (l.drop (j + 1)) := by
  rw [h, List.drop_eq_getElem_cons hj, rightL, h1]; rfl
theorem rightL_stop (d : Nat) (l : List Rep) (j : Nat) (hj : j < l.length) (h : rightL d l = rightL d (l.drop j)) (h1 : right d l[j] = false) : rightL d l = false := by
  rw [h, List.drop_eq_getElem_cons hj, rightL, h1]; rfl

/-- Another's contract for what is right to a depth. -/
def RightAt (d : Nat) : Prop := ∀ (r : Rep) (p : Option Addr) (c : Nat) (w : World), RepIn w r p c →
    Calls Tryd.prog 15 #[.agg (repCs r p c), .int .i64 d] w fun e w' => e = .returned (.bool (right d r)) ∧ Below w.heap.size w w'

set_option maxRecDepth 20000 in
set_option maxHeartbeats 1000000 in
theorem rr_5 (l : List Rep) (d : Nat) (hd : d ≤ 8) (ih : RightAt d) (c : Nat) (p : Option Addr) (w : World) (h : RepIn w (.mk 5 [] 0 l) p c) :
    Calls Tryd.prog 15 #[.agg #[.int .i64 5, .string (bs []), .int .i64 0, .slice p l.length c], .int .i64 ((d + 1 : Nat) : Int)] w fun e w' => e = .returned (.bool (rightL d l)) ∧ Below w.heap.size w w' := by
  have hn := bytes_nil
  obtain ⟨D, hD⟩ : ∃ D : Int, D = ((d + 1 : Nat) : Int) := ⟨_, rfl⟩
  rw [← hD]
  have hd0 : (D == 0) = false := beq_eq_false_iff_ne.2 (by omega)
  have hdm : D - 1 = (d : Int) := by omega
  have hl63 : l.length ≤ 9223372036854775807 := by
    obtain ⟨_, _, _, h1, h2, _⟩ := h.parts
    unfold maxLen at h2; omega
  have hD1 : 1 ≤ D := by omega
  have hD9 : D ≤ 9 := by omega
  have IH := Lib.hid ih
  have H := Lib.hid h
  clear hD ih h
  obtain ⟨S, hS⟩ : ∃ S, S = bs [] := ⟨_, rfl⟩
  have hSz : S.size = 0 := by rw [hS]; rfl
  rw [← hS] at hn ⊢
  clear hS
  go_enter Tryd.func15, Tryd.ntmps15
  go_wp2
  go_loop [5] (fun i => i = .int .i64 0) (fun i => 0)
  case atStart => rfl
  case round =>
    obtain rfl := hrel
    go_wp2
    go_loopw [6] (fun i wr => ∃ (j : Nat), j ≤ l.length ∧ i = .int .i64 j ∧ Hid (rightL d l = rightL d (l.drop j)) ∧ wr.heap[w.heap.size]? = some (.cells #[.int .i64 5, .string S, .int .i64 0, .slice p l.length c] 26 (0, 0)) ∧ Below w.heap.size w wr) (fun i _ => l.length - (intOf i).toNat)
    case atStart => exact ⟨0, Nat.zero_le _, rfl, Lib.hid rfl, heap_alloc_new w _, (Below.refl _ _).alloc (Nat.le_refl _) _⟩
    case round =>
      obtain ⟨j, hj, rfl, HM, hB, HB⟩ := hrel
      have c3 : wr.cell? ⟨w.heap.size, 3, none⟩ = some (.slice p l.length c) := by rw [Lib.cell_of_heap hB]; rfl
      have hBl := (Array.getElem?_eq_some_iff.1 hB).1
      have HBB := Lib.hid hB
      clear hB
      by_cases hjl : j < l.length
      · have hd1 : decide ((j : Int) < (l.length : Int)) = true := decide_eq_true (by omega)
        have HN1 := Lib.hid (rightL_next d l j hjl HM.out)
        have HN2 := Lib.hid (rightL_stop d l j hjl HM.out)
        obtain ⟨b, o, q, e, rfl, hc, hi⟩ := H.out.kid j hjl
        obtain ⟨e0, e1, e2, e3⟩ := hc.below HB
        have hcall := IH.out l[j] q e wr (RepIn.below HB _ hi)
        clear hi hc H
        generalize l[j] = x at *
        unfold repCs at hcall
        cases hx : right d x
        · rw [hx] at hcall
          have HCL := Lib.hid hcall
          have HN := Lib.hid (HN2.out hx)
          clear hcall hx
          go_wp2_with fail
          with_reducible refine HCL.out.mono ?_
          rintro e' w1 ⟨rfl, hb1⟩
          clear e0 e1 e2 e3
          go_wp2
          go_ret
          exact ⟨by rw [HN.out]; rfl, HB.trans (hb1.mono HB.size)⟩
        · rw [hx] at hcall
          have HCL := Lib.hid hcall
          have HN := Lib.hid (HN1.out hx)
          clear hcall hx
          go_wp2_with fail
          with_reducible refine HCL.out.mono ?_
          rintro e' w1 ⟨rfl, hb1⟩
          clear e0 e1 e2 e3
          go_wp2
          go_roundw
          case rel => exact ⟨j + 1, by omega, by go_num, HN, (hb1.block _ hBl).trans HBB.out, HB.trans (hb1.mono HB.size)⟩
          case measure => simp [intOf]; omega
      · have hd1 : decide ((j : Int) < (l.length : Int)) = false := decide_eq_false (by omega)
        have HN := Lib.hid (show rightL d l = true by rw [HM.out, List.drop_eq_nil_of_le (by omega)]; rfl)
        go_wp2
        go_ret
        exact ⟨by rw [HN.out]; rfl, HB⟩

theorem len_pos {l : List Rep} (h : l ≠ []) : decide (0 < l.length) = true := decide_eq_true (List.length_pos_iff.2 h)

theorem refright_of (d : Nat) (hd : d ≤ 9) (ih : ∀ e, e + 1 = d → RightAt e) : RightAt d := by
  intro r p c w h
  obtain ⟨k, s, n, l⟩ := r
  unfold repCs
  simp only [Rep.kind, Rep.str, Rep.num, Rep.kids]
  obtain ⟨hk, hn, hs, hl, hc, hlast⟩ := h.parts
  have hs63 : (bs s).size ≤ 9223372036854775807 := by rw [bs_size]; unfold maxLen at hs; omega
  by_cases k0 : k < 0
  · have : right d (.mk k s n l) = false := by simp only [right]; rw [if_neg (by omega), if_neg (by omega), if_neg (by omega), if_neg (by omega), if_neg (by omega)]
    rw [this]
    exact rr_neg k n l.length c p (bs s) d w (decide_eq_true k0)
  by_cases k6 : 5 < k
  · have : right d (.mk k s n l) = false := by simp only [right]; rw [if_neg (by omega), if_neg (by omega), if_neg (by omega), if_neg (by omega), if_neg (by omega)]
    rw [this]
    exact rr_big k n l.length c p (bs s) d w (decide_eq_false k0) (decide_eq_true k6)
  have ne0 : n ≠ 0 → (n != 0) = true := fun h => by simpa using h
  obtain rfl | rfl | rfl | rfl | rfl | rfl : k = 0 ∨ k = 1 ∨ k = 2 ∨ k = 3 ∨ k = 4 ∨ k = 5 := by omega
  · by_cases h1 : l = []
    · subst h1
      by_cases h2 : n = 0
      · subst h2
        rw [show right d (.mk 0 s 0 []) = calm s by simp [right]]
        exact rr_0 (bs s) hs63 c p d w
      · rw [show right d (.mk 0 s n []) = false by simp [right, h2]]
        exact rr_0n n c p (bs s) d w (ne0 h2)
    · rw [show right d (.mk 0 s n l) = false by simp [right, h1]]
      exact rr_0l n l.length c p (bs s) d w (len_pos h1)
  · by_cases h1 : l = []
    · subst h1
      by_cases h2 : n = 0
      · subst h2
        rw [show right d (.mk 1 s 0 []) = calm s by simp [right]]
        exact rr_1 (bs s) hs63 c p d w
      · rw [show right d (.mk 1 s n []) = false by simp [right, h2]]
        exact rr_1n n c p (bs s) d w (ne0 h2)
    · rw [show right d (.mk 1 s n l) = false by simp [right, h1]]
      exact rr_1l n l.length c p (bs s) d w (len_pos h1)
  · by_cases h1 : l = []
    · subst h1
      by_cases h3 : s = []
      · subst h3
        rw [show right d (.mk 2 [] n []) = true by simp [right]]
        exact rr_2 n c p d w
      · rw [show right d (.mk 2 s n []) = false by simp [right, h3]]
        exact rr_2s n c p (bs s) d w (bytes_ne s h3)
    · rw [show right d (.mk 2 s n l) = false by simp [right, h1]]
      exact rr_2l n l.length c p (bs s) d w (len_pos h1)
  · by_cases h1 : l = []
    · subst h1
      by_cases h2 : n = 0
      · subst h2
        rw [show right d (.mk 3 s 0 []) = true by simp [right]]
        exact rr_3 (bs s) c p d w
      · rw [show right d (.mk 3 s n []) = false by simp [right, h2]]
        exact rr_3n n c p (bs s) d w (ne0 h2)
    · rw [show right d (.mk 3 s n l) = false by simp [right, h1]]
      exact rr_3l n l.length c p (bs s) d w (len_pos h1)
  · by_cases h1 : l = []
    · subst h1
      by_cases h2 : n = 0
      · subst h2
        by_cases h3 : s = []
        · subst h3
          rw [show right d (.mk 4 [] 0 []) = true by simp [right]]
          exact rr_4 c p d w
        · rw [show right d (.mk 4 s 0 []) = false by simp [right, h3]]
          exact rr_4s c p (bs s) d w (bytes_ne s h3)
      · rw [show right d (.mk 4 s n []) = false by simp [right, h2]]
        exact rr_4n n c p (bs s) d w (ne0 h2)
    · rw [show right d (.mk 4 s n l) = false by simp [right, h1]]
      exact rr_4l n l.length c p (bs s) d w (len_pos h1)
  · by_cases h2 : n = 0
    · subst h2
      by_cases h3 : s = []
      · subst h3
        cases d with
        | zero =>
          rw [show right 0 (.mk 5 [] 0 l) = false by simp [right]]
          exact rr_5z l.length c p w
        | succ d =>
          rw [show right (d + 1) (.mk 5 [] 0 l) = rightL d l by simp [right]]
          exact rr_5 l d (by omega) (ih d rfl) c p w h
      · rw [show right d (.mk 5 s 0 l) = false by simp [right, h3]]
        exact rr_5s l.length c p (bs s) d w (bytes_ne s h3)
    · rw [show right d (.mk 5 s n l) = false by simp [right, h2]]
      exact rr_5n n l.length c p (bs s) d w (ne0 h2)

/-- THE REFERENCE's Right. -/
theorem refright_any (d : Nat) : d ≤ 9 → RightAt d := by
  induction d with
  | zero => exact fun _ => refright_of 0 (by omega) (fun d h => absurd h (by omega))
  | succ d ih => exact fun hd => refright_of (d + 1) hd (fun e h => by obtain rfl : e = d := (by omega); exact ih (by omega))
end Go.Proofs.YtcikelcecfapcaaDoor
