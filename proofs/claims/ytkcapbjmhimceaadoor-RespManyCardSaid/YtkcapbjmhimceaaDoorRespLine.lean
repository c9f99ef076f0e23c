/-
  What the line that is handed to resp.encode does: its parts and CR LF are appended.
-/
import Derived.Test.YtkcapbjmhimceaaDoorRespOut
namespace Go.Proofs.YtkcapbjmhimceaaDoor
open Go.RowKit Rp

/-- The first parts, one behind the other. -/
def joined (ps : List (List UInt8)) (j : Nat) : List UInt8 := (ps.take j).flatten
theorem joined_next (ps : List (List UInt8)) (j : Nat) (h : j < ps.length) : joined ps (j + 1) = joined ps j ++ ps[j] := by
  unfold joined
  rw [List.take_succ_eq_append_getElem h, List.flatten_append]
  simp
theorem joined_all (ps : List (List UInt8)) : joined ps ps.length = ps.flatten := by simp [joined]
theorem joined_le (ps : List (List UInt8)) (j : Nat) (h : j < ps.length) : (joined ps j).length + ps[j].length ≤ ps.flatten.length := by
  have h1 : (joined ps (j + 1)).length ≤ ps.flatten.length := by
    have : ps.flatten = (ps.take (j + 1)).flatten ++ (ps.drop (j + 1)).flatten := by rw [← List.flatten_append, List.take_append_drop]
    rw [this, List.length_append]; exact Nat.le_add_right _ _
  rw [joined_next ps j h, List.length_append] at h1
  exact h1

theorem frozen_at {W : World} {b : Nat} {cs : Array Value} {T : TypeId} (h : W.heap[b]? = some (.cells cs T (0, 0))) : W.frozen? ⟨b, 0, none⟩ = false := by rw [Lib.frozen_of_heap h]

theorem mine {B : Nat} {v : Value} {xs : List UInt8} {w w1 : World} (h : Out B v xs w) (hg : w.grownBy w1 v.ownBlock) : w1.cell? ⟨B, 0, none⟩ = some v ∧ w1.frozen? ⟨B, 0, none⟩ = false := by
  have hv1 : w1.heap[B]? = some (.cells #[v] 22 (0, 0)) := (hg.block B h.lt (fun e => by have := (h.far B e.symm).1; omega)).trans h.var
  exact ⟨by rw [Lib.cell_of_heap hv1]; rfl, frozen_at hv1⟩

theorem row_slice {w : World} {base : Nat} {e : TypeId} {size : Nat} {v : Value} {n : Nat} {xs : List Value} (h : w.ownsRow base e size v n xs) : ∃ a m c, v = .slice a m c := by
  rcases h.2 with ⟨rfl, _⟩ | ⟨g, cap, cur, rfl, _⟩
  · exact ⟨_, _, _, rfl⟩
  · exact ⟨_, _, _, rfl⟩

set_option maxRecDepth 20000 in
set_option maxHeartbeats 2000000 in
theorem line_any (B G cap : Nat) (v : Value) (xs : List UInt8) (ps : List (List UInt8)) (w : World) (hO : Out B v xs w) (hG : G ≠ B) (hGn : G < B ∨ NoBytes w G) (hGl : G < w.heap.size)
    (hc : ∀ j (h : j < ps.length), w.cell? ⟨G, j, none⟩ = some (.string (bs ps[j]))) (hl : ps.length ≤ 1099511627776) (hlen : xs.length + ps.flatten.length + 2 ≤ 1099511627776) :
    Calls Tryd.prog 30 #[.slice (some ⟨G, 0, none⟩) ps.length cap, .pointer (some ⟨B, 0, none⟩)] w fun e w' => e = .returned (.tuple #[]) ∧ ∃ v', Out B v' (xs ++ (ps.flatten ++ [13, 10])) w' ∧ Wrote B w w' := by
  obtain ⟨i0, hi, hz0, hz1, hz2⟩ := info_parts info_u8
  obtain ⟨M, hM⟩ : ∃ M, M = ps.length := ⟨_, rfl⟩
  rw [← hM] at hl ⊢
  have HM := Lib.hid hM
  have HC := Lib.hid hc
  clear hM hc
  go_enter Tryd.func30, Tryd.ntmps30
  go_wp2
  go_loopw [4, 7] (fun _ i wr => ∃ (j : Nat) (u : Value) (X : List UInt8), j ≤ M ∧ i = .int .i64 j ∧ Hid (X = xs ++ joined ps j) ∧ Out B u X wr ∧ Wrote B w wr) (fun _ i _ => M - (intOf i).toNat)
  case atStart => exact ⟨0, v, xs, Nat.zero_le _, rfl, Lib.hid (by simp [joined]), hO, Wrote.refl B w⟩
  case round =>
    obtain ⟨j, u, X, hj, rfl, HX, hO1, hW⟩ := hrel
    have cB : wr.cell? ⟨B, 0, none⟩ = some u := by rw [Lib.cell_of_heap hO1.var]; rfl
    have fB := frozen_at hO1.var
    have hsz := hO1.lt
    by_cases hjl : j < M
    · have hd1 : decide ((j : Int) < (M : Int)) = true := decide_eq_true (by omega)
      have hja : j < ps.length := by have := HM.out; omega
      have cG := (World.cell?_of_block (a := ⟨G, j, none⟩) (hW.block G hGl hG hGn)).trans (HC.out j hja)
      have hJ := joined_le ps j hja
      have HN := Lib.hid (joined_next ps j hja)
      have hpl := bs_size ps[j]
      have HP := Lib.hid (sCells_bs ps[j])
      have HO := Lib.hid hO1
      clear hO1
      generalize ps[j] = part at *
      generalize joined ps j = done at *
      have hown := HO.out.row
      generalize hS : bs part = S at *
      have HS := Lib.hid hS
      have HL := Lib.hid hpl
      clear hS hpl hja
      have hpart : X.length + S.size ≤ 1099511627776 := by rw [HX.out, List.length_append, HL.out]; omega
      go_wp2_with (at_builtin; refine Lib.wpList_append_own_string _ rfl (.tmp 11) (.tmp 12) 22 9 rfl (B + 1) 5 i0 Tryd.underlying22 Tryd.underlying9 hi hz0 hz1 hz2 u _ _ rfl hown S rfl (by unfold maxLen; omega) (by omega) (by omega) ?_)
      intro u' w1 hown1 hgrow hnil
      clear hnil
      obtain ⟨m1, m2⟩ := mine HO.out hgrow
      obtain ⟨ua, un, uc, rfl⟩ := row_slice hown1
      have hyl : (X ++ part).length = X.length + S.size := by rw [List.length_append, HL.out]
      have hput := HO.out.put (ys := X ++ part) hgrow (by rw [hyl, sCells_append, ← HP.out]; exact hown1)
      have HPU := Lib.hid hput
      clear hput hown1 hgrow hown hyl
      go_wp2
      go_roundw
      case rel => exact ⟨j + 1, _, X ++ part, by omega, by go_num, Lib.hid (by rw [HN.out, HX.out, List.append_assoc]), HPU.out.1, hW.trans HPU.out.2⟩
      case measure => simp [intOf]; omega
    · have hd1 : decide ((j : Int) < (M : Int)) = false := decide_eq_false (by omega)
      obtain rfl : j = M := by omega
      have hown := hO1.row
      have HO := Lib.hid hO1
      have HJ := Lib.hid (show joined ps j = ps.flatten by rw [HM.out]; exact joined_all ps)
      clear hO1
      have hlj : (joined ps j).length = ps.flatten.length := by rw [HJ.out]
      generalize joined ps j = done at *
      have hpart : X.length + 2 ≤ 1099511627776 := by rw [HX.out, List.length_append]; omega
      have HLJ := Lib.hid hlj
      clear hlj
      go_wp2_with (at_builtin; refine Lib.wpList_append_own_string _ rfl (.tmp 15) (.const (.string ⟨#[13, 10]⟩)) 22 9 rfl (B + 1) 5 i0 Tryd.underlying22 Tryd.underlying9 hi hz0 hz1 hz2 u _ _ rfl hown ⟨#[13, 10]⟩ rfl (by unfold maxLen; show _ + 2 ≤ _; omega) (by show _ + 2 ≤ _; omega) (by omega) ?_)
      intro u' w1 hown1 hgrow hnil
      clear hnil
      obtain ⟨m1, m2⟩ := mine HO.out hgrow
      obtain ⟨ua, un, uc, rfl⟩ := row_slice hown1
      have hput := HO.out.put (ys := X ++ [13, 10]) hgrow (by rw [List.length_append, sCells_append]; exact hown1)
      have HPU := Lib.hid hput
      clear hput hown1 hgrow hown
      go_wp2
      go_end0
      exact ⟨rfl, _, by have h := HPU.out.1; rw [HX.out, HJ.out, List.append_assoc] at h; exact h, hW.trans HPU.out.2⟩
end Go.Proofs.YtkcapbjmhimceaaDoor
