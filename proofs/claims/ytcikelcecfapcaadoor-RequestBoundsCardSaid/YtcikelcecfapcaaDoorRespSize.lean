/-
  What the reference's Size answers: how many replies there are in one.
-/
import Derived.Test.YtcikelcecfapcaaDoorRespMem
import Derived.Lib.Builder
namespace Go.Proofs.YtcikelcecfapcaaDoor
open Go.RowKit Rp

/-- What is left of the count. -/
theorem sizeFrom_stop (f : Rep → Nat) (n : Nat) (l : List Rep) (h : ¬ n < 100000) : sizeFrom f n l = n := by
  cases l with
  | nil => rfl
  | cons r rs => rw [sizeFrom, if_neg h]
theorem sizeFrom_next (f : Rep → Nat) (n : Nat) (l : List Rep) (j : Nat) (hj : j < l.length) (h : n < 100000) : sizeFrom f n (l.drop j) = sizeFrom f (n + f l[j]) (l.drop (j + 1)) := by
  rw [List.drop_eq_getElem_cons hj, sizeFrom, if_pos h]

set_option maxRecDepth 20000 in
set_option maxHeartbeats 1000000 in
theorem refsize_any (d : Nat) : ∀ (_ : d ≤ 9) (r : Rep) (p : Option Addr) (c : Nat) (w : World), RepIn w r p c →
    Calls Tryd.prog 14 #[.agg (repCs r p c), .int .i64 d] w fun e w' => e = .returned (.int .i64 (size d r : Nat)) ∧ Below w.heap.size w w' := by
  induction d with
  | zero =>
    intro _ r p c w _
    unfold repCs
    go_enter Tryd.func14, Tryd.ntmps14
    go_wp2
    go_ret
    exact ⟨rfl, (Below.refl _ _).alloc (Nat.le_refl _) _⟩
  | succ d ih =>
    intro hd r p c w h
    obtain ⟨k, s, n, l⟩ := r
    unfold repCs
    simp only [Rep.kind, Rep.str, Rep.num, Rep.kids]
    obtain ⟨hk, hn, hs, hl, hc, hlast⟩ := h.parts
    clear hlast
    have hz := bs_size s
    obtain ⟨D, hD⟩ : ∃ D : Int, D = ((d + 1 : Nat) : Int) := ⟨_, rfl⟩
    rw [← hD]
    have hd0 : (D == 0) = false := beq_eq_false_iff_ne.2 (by omega)
    have hdm : D - 1 = (d : Int) := by omega
    have hl63 : l.length ≤ 9223372036854775807 := by unfold maxLen at hc; omega
    have hds : ∀ x, size d x ≤ 1000000 := fun x => Nat.le_trans (size_le d x) (by omega)
    have IH := Lib.hid (ih (by omega))
    have hD1 : 1 ≤ D := by omega
    have hD9 : D ≤ 9 := by omega
    have hd8 : d ≤ 8 := by omega
    clear hc hl hs hk hn ih hd hD
    by_cases h2 : 2000 < s.length
    · have h2' : decide ((2000 : Int) < (s.length : Int)) = true := decide_eq_true (by omega)
      have HE := Lib.hid (show size (d + 1) (.mk k s n l) = 100000 by rw [size, if_pos h2])
      clear h hds hl63
      go_enter Tryd.func14, Tryd.ntmps14
      go_wp2
      go_ret
      exact ⟨by rw [HE.out]; rfl, (Below.refl _ _).alloc (Nat.le_refl _) _⟩
    · have h2' : decide ((2000 : Int) < (s.length : Int)) = false := decide_eq_false (by omega)
      have HE := Lib.hid (show size (d + 1) (.mk k s n l) = sizeFrom (size d) 1 l by rw [size, if_neg h2])
      have H := Lib.hid h
      have HDS := Lib.hid hds
      clear h hds
      generalize hS : bs s = S at *
      clear hS
      go_enter Tryd.func14, Tryd.ntmps14
      go_wp2
      clear hz
      go_loopw [5, 6] (fun a i wr => ∃ (j m : Nat), j ≤ l.length ∧ i = .int .i64 j ∧ a = .int .i64 m ∧ m ≤ 1100000 ∧ Hid (sizeFrom (size d) 1 l = sizeFrom (size d) m (l.drop j)) ∧ wr.heap[w.heap.size]? = some (.cells #[.int .i64 k, .string S, .int .i64 n, .slice p l.length c] 26 (0, 0)) ∧ Below w.heap.size w wr) (fun _ i _ => l.length - (intOf i).toNat)
      case atStart => exact ⟨0, 1, Nat.zero_le _, rfl, rfl, by omega, Lib.hid rfl, heap_alloc_new w _, (Below.refl _ _).alloc (Nat.le_refl _) _⟩
      case round =>
        obtain ⟨j, m, hj, rfl, rfl, hm, HM, hB, HB⟩ := hrel
        have c3 : wr.cell? ⟨w.heap.size, 3, none⟩ = some (.slice p l.length c) := by rw [Lib.cell_of_heap hB]; rfl
        have hBl := (Array.getElem?_eq_some_iff.1 hB).1
        have HBB := Lib.hid hB
        clear hB
        by_cases hjl : j < l.length
        · have hd1 : decide ((j : Int) < (l.length : Int)) = true := decide_eq_true (by omega)
          by_cases hm1 : m < 100000
          · have hd2 : decide ((m : Int) < 100000) = true := decide_eq_true (by omega)
            have HN := Lib.hid (HM.out.trans (sizeFrom_next (size d) m l j hjl hm1))
            obtain ⟨b, o, q, e, rfl, hc, hi⟩ := H.out.kid j hjl
            obtain ⟨e0, e1, e2, e3⟩ := hc.below HB
            have HI := Lib.hid (RepIn.below HB _ hi)
            clear hi hc H
            generalize l[j] = x at *
            have hx := HDS.out x
            have hcall := IH.out x q e wr HI.out
            unfold repCs at hcall
            generalize size d x = y at *
            have HCL := Lib.hid hcall
            clear hcall
            go_wp2_with fail
            with_reducible refine HCL.out.mono ?_
            rintro e' w1 ⟨rfl, hb1⟩
            clear e0 e1 e2 e3
            go_wp2
            go_roundw
            case rel => exact ⟨j + 1, m + y, by omega, by go_num, by go_num, by omega, HN, (hb1.block _ hBl).trans HBB.out, HB.trans (hb1.mono HB.size)⟩
            case measure => simp [intOf]; omega
          · have hd2 : decide ((m : Int) < 100000) = false := decide_eq_false (by omega)
            have HN := Lib.hid (HM.out.trans (sizeFrom_stop (size d) m _ hm1))
            go_wp2
            go_ret
            exact ⟨by rw [HE.out, HN.out]; rfl, HB⟩
        · have hd1 : decide ((j : Int) < (l.length : Int)) = false := decide_eq_false (by omega)
          have HN := Lib.hid (show sizeFrom (size d) 1 l = m by rw [HM.out, List.drop_eq_nil_of_le (by omega)]; rfl)
          go_wp2
          go_ret
          exact ⟨by rw [HE.out, HN.out]; rfl, HB⟩
end Go.Proofs.YtcikelcecfapcaaDoor
