/-
  Two lists of entries compared.
-/
import Derived.Test.YtgcifhhbhoafcaaLogReplay
import Derived.StillTailTactics
import Derived.BigQuiet
import Derived.Deep.QuietTactic
namespace Go.Proofs.Ytgcifhhbhoafcaa
open Go.RowKit Go.Shelf

theorem conv_in {w : World} {p : Option Addr} {l : List UInt8} {c : Nat} (h : InAt w p l) : (convert 22 9 (.slice p l.length c)).run Try.prog w = .ok (.string (bs l)) w := by
  cases l with
  | nil =>
    cases p with
    | none =>
      show (convert 22 9 (.slice none 0 c)).run Try.prog w = _
      rw [run_convert_bytes_string w _ _ 5 none _ _ Try.underlying22 Try.underlying5 Try.underlying9]
      rfl
    | some ad => exact run_convert_bytes_back (P := Try.prog) w 22 9 5 ad c [] Try.underlying22 Try.underlying5 Try.underlying9 (fun j hj => by simp at hj)
  | cons x l =>
    obtain ⟨b, o, rfl, hr⟩ := h (by simp)
    exact run_str hr
/-- A slice of entries. -/
def EntRow (w : World) (p : Option Addr) (E : List Ent) : Prop := (0 < E.length → ∃ b o, p = some ⟨b, o, none⟩ ∧ w.rangeAt b o (eCells E)) ∧ ∀ x ∈ E, InAt w x.p x.body
theorem EntRow.chg {ex : Nat → Prop} {w w' : World} {p : Option Addr} {E : List Ent} (H : EntRow w p E) (hc : Chg ex w w') (hp : ∀ b o, p = some ⟨b, o, none⟩ → 0 < E.length → ¬ ex b) (hx : ∀ x ∈ E, ∀ b o, x.p = some ⟨b, o, none⟩ → 0 < x.body.length → ¬ ex b) : EntRow w' p E :=
  ⟨fun h => by
    obtain ⟨b, o, e, hr⟩ := H.1 h
    exact ⟨b, o, e, hc.range hr (hp b o e h)⟩, fun x hxE h => by
    obtain ⟨b, o, e, hr⟩ := H.2 x hxE h
    exact ⟨b, o, e, hc.range hr (hx x hxE b o e h)⟩⟩
theorem EntRow.on {w w' : World} {p : Option Addr} {E : List Ent} (H : EntRow w p E) (hb : Below w.heap.size w w') : EntRow w' p E := H.chg (Chg.below hb (fun _ => False)) (fun _ _ _ _ e => e) (fun _ _ _ _ _ _ e => e)
theorem eCells_at (E : List Ent) (i : Nat) (hi : i < E.length) : (eCells E)[i * 2 + 0]? = some (.int .i64 (E[i]).st) ∧ (eCells E)[i * 2 + 1]? = some (.slice (E[i]).p (E[i]).body.length (E[i]).cp) := by
  have h := flat_at eCell 2 E i hi (fun _ _ => rfl)
  exact ⟨(h 0 (by decide)).trans rfl, (h 1 (by decide)).trans rfl⟩
/-- The same stamps, the same bodies. -/
def SameE (E F : List Ent) : Prop := E.length = F.length ∧ ∀ (i : Nat) (h : i < E.length) (h' : i < F.length), (E[i]).st = (F[i]).st ∧ (E[i]).body = (F[i]).body

theorem same_len (p q : Option Addr) (n m c d : Nat) (hnm : n ≠ m) (w : World) :
    Calls Try.prog 15 #[.slice p n c, .slice q m d] w fun e w' => e = .returned (.bool false) ∧ w = w' := by
  have d1 : decide ((n : Int) = (m : Int)) = false := decide_eq_false (by omega)
  have d1' : decide (n = m) = false := decide_eq_false hnm
  go_enter Try.func15, Try.ntmps15
  go_wp2
  go_ret
  exact ⟨rfl, rfl⟩
set_option maxRecDepth 20000 in
set_option maxHeartbeats 4000000 in
theorem same_true (p q : Option Addr) (n c d : Nat) (E F : List Ent) (hnb : n ≤ 1000000) (hE : n = E.length) (hs : SameE E F) (w : World) (h1 : EntRow w p E) (h2 : EntRow w q F) :
    Calls Try.prog 15 #[.slice p n c, .slice q n d] w fun e w' => e = .returned (.bool true) ∧ Below w.heap.size w w' := by
  have HE := Lib.hid hE
  have HS := Lib.hid hs
  have H1 := Lib.hid h1
  have H2 := Lib.hid h2
  clear hE hs h1 h2
  go_enter Try.func15, Try.ntmps15
  go_wp2
  go_loopw [5] (fun s5 wr => ∃ i : Nat, i ≤ n ∧ s5 = .int .i64 i ∧ Hid (Below w.heap.size w wr)) (fun s5 _ => n - (intOf s5).toNat)
  case atStart => exact ⟨0, Nat.zero_le _, rfl, Lib.hid (Below.refl _ _)⟩
  case round =>
    obtain ⟨i, hi, rfl, HB⟩ := hrel
    by_cases hlt : i < n
    · have d1 : decide ((i : Int) < (n : Int)) = true := decide_eq_true (by omega)
      have d1' : decide (i < n) = true := decide_eq_true hlt
      have hiE : i < E.length := by have := HE.out; omega
      have hiF : i < F.length := by have := HS.out.1; omega
      obtain ⟨b1, o1, rfl, hr1⟩ := H1.out.1 (by omega)
      obtain ⟨b2, o2, rfl, hr2⟩ := H2.out.1 (by omega)
      obtain ⟨hst, hbo⟩ := HS.out.2 i hiE hiF
      have j0 : (0 : Int) ≤ (i : Int) := by omega
      have j1 : (i : Int) < (n : Int) := by omega
      have H1r := H1.out.on HB.out
      have H2r := H2.out.on HB.out
      obtain ⟨b1', o1', e1, hr1⟩ := H1r.1 (by omega)
      cases e1
      obtain ⟨b2', o2', e2, hr2⟩ := H2r.1 (by omega)
      cases e2
      have c1 : wr.drew.cell? ⟨b1, o1 + i * 2, none⟩ = some (.int .i64 (E[i]).st) := hr1 (i * 2 + 0) _ (eCells_at E i hiE).1
      have c2 : wr.drew.cell? ⟨b1, o1 + i * 2 + 1, none⟩ = some (.slice (E[i]).p (E[i]).body.length (E[i]).cp) := hr1 (i * 2 + 1) _ (eCells_at E i hiE).2
      have c3 : wr.drew.cell? ⟨b2, o2 + i * 2, none⟩ = some (.int .i64 (F[i]).st) := hr2 (i * 2 + 0) _ (eCells_at F i hiF).1
      have c4 : wr.drew.cell? ⟨b2, o2 + i * 2 + 1, none⟩ = some (.slice (F[i]).p (F[i]).body.length (F[i]).cp) := hr2 (i * 2 + 1) _ (eCells_at F i hiF).2
      have v1 := fun X (hX : Below wr.heap.size wr X) => conv_in (c := (E[i]).cp) ((H1r.2 _ (List.getElem_mem hiE)).on hX)
      have v2 := fun X (hX : Below wr.heap.size wr X) => conv_in (c := (F[i]).cp) ((H2r.2 _ (List.getElem_mem hiF)).on hX)
      rw [← hst] at c3
      rw [← hbo] at c4 v2
      generalize (E[i]).st = S1 at *
      generalize (E[i]).cp = C1 at *
      generalize (F[i]).cp = C2 at *
      generalize (E[i]).p = P1 at *
      generalize (F[i]).p = P2 at *
      obtain ⟨B1, hB1⟩ : ∃ B1, (E[i]).body = B1 := ⟨_, rfl⟩
      rw [hB1] at c2 c4 v1 v2
      obtain ⟨bl, hbl⟩ : ∃ bl, bl = B1.length := ⟨_, rfl⟩
      rw [← hbl] at c2 c4 v1 v2
      obtain ⟨st, hstr⟩ : ∃ st, bs B1 = st := ⟨_, rfl⟩
      rw [hstr] at v1 v2
      have HV1 := Lib.hid v1
      have HV2 := Lib.hid v2
      have hbq : (st.toList == st.toList) = true := by simp
      clear hB1 hbl hstr hst hbo v1 v2 hr1 hr2
      go_wp2
      refine wp_region_noPanic ?_
      refine wp_region_held_drew (S := fun X => X.cell? ⟨b1, o1 + i * 2, none⟩ = some (.int .i64 S1) ∧ X.cell? ⟨b1, o1 + i * 2 + 1, none⟩ = some (.slice P1 bl C1) ∧ X.cell? ⟨b2, o2 + i * 2, none⟩ = some (.int .i64 S1) ∧ X.cell? ⟨b2, o2 + i * 2 + 1, none⟩ = some (.slice P2 bl C2) ∧ (convert 22 9 (.slice P1 bl C1)).run Try.prog X = .ok (.string st) X ∧ (convert 22 9 (.slice P2 bl C2)).run Try.prog X = .ok (.string st) X) (by kernel_rfl) (⟨c1, c2, c3, c4, HV1.out _ (bD (Below.refl _ _)), HV2.out _ (bD (Below.refl _ _))⟩) (fun hHeld => ?_)
      refine wpAnyH_take (i := 0) (v := ?_) rfl (by kernel_rfl) (by kernel_rfl) (by kernel_rfl) (fun _ _ _ h => h) (Or.inl ⟨by rfl, ?_⟩) (by assumption) ?_
      rotate_left
      · (intro w hSw; (try dsimp only at hSw); go_simp; try (with_reducible rfl))
      try simp only [Act.put, List.setIfInBounds_toArray, List.set_cons_zero, List.set_cons_succ, List.getElem_toArray, List.getElem_cons_zero]
      refine wpAnyH_take (i := 1) (v := ?_) rfl (by kernel_rfl) (by kernel_rfl) (by kernel_rfl) (fun _ _ _ h => h) (Or.inl ⟨by rfl, ?_⟩) (by assumption) ?_
      rotate_left
      · (intro w hSw; (try dsimp only at hSw); go_simp; try (with_reducible rfl))
      try simp only [Act.put, List.setIfInBounds_toArray, List.set_cons_zero, List.set_cons_succ, List.getElem_toArray, List.getElem_cons_zero, List.getElem_cons_succ]
      refine wpAnyH_take (i := 2) (v := ?_) rfl (by kernel_rfl) (by kernel_rfl) (by kernel_rfl) (fun _ _ _ h => h) (Or.inl ⟨by rfl, ?_⟩) (by assumption) ?_
      rotate_left
      · (intro w hSw; (try dsimp only at hSw); go_simp; try (with_reducible rfl))
      try simp only [Act.put, List.setIfInBounds_toArray, List.set_cons_zero, List.set_cons_succ, List.getElem_toArray, List.getElem_cons_zero, List.getElem_cons_succ]
      refine wpAnyH_take (i := 3) (v := ?_) rfl (by kernel_rfl) (by kernel_rfl) (by kernel_rfl) (fun _ _ _ h => h) (Or.inl ⟨by rfl, ?_⟩) (by assumption) ?_
      rotate_left
      · (intro w hSw; (try dsimp only at hSw); go_simp; try (with_reducible rfl))
      try simp only [Act.put, List.setIfInBounds_toArray, List.set_cons_zero, List.set_cons_succ, List.getElem_toArray, List.getElem_cons_zero, List.getElem_cons_succ]
      refine wpAnyH_take (i := 4) (v := ?_) rfl (by kernel_rfl) (by kernel_rfl) (by kernel_rfl) (fun _ _ _ h => h) (Or.inl ⟨by rfl, ?_⟩) (by assumption) ?_
      rotate_left
      · (intro w hSw; (try dsimp only at hSw); go_simp; try (with_reducible rfl))
      try simp only [Act.put, List.setIfInBounds_toArray, List.set_cons_zero, List.set_cons_succ, List.getElem_toArray, List.getElem_cons_zero, List.getElem_cons_succ]
      refine wpAnyH_take (i := 5) (v := ?_) rfl (by kernel_rfl) (by kernel_rfl) (by kernel_rfl) (fun _ _ _ h => h) (Or.inl ⟨by rfl, ?_⟩) (by assumption) ?_
      rotate_left
      · (intro w hSw; (try dsimp only at hSw); go_simp; try (with_reducible rfl))
      try simp only [Act.put, List.setIfInBounds_toArray, List.set_cons_zero, List.set_cons_succ, List.getElem_toArray, List.getElem_cons_zero, List.getElem_cons_succ]
      refine wpAnyH_take (i := 6) (v := ?_) rfl (by kernel_rfl) (by kernel_rfl) (by kernel_rfl) (fun _ _ _ h => h) (Or.inl ⟨by rfl, ?_⟩) (by assumption) ?_
      rotate_left
      · (intro w hSw; (try dsimp only at hSw); go_simp; try (with_reducible rfl))
      try simp only [Act.put, List.setIfInBounds_toArray, List.set_cons_zero, List.set_cons_succ, List.getElem_toArray, List.getElem_cons_zero, List.getElem_cons_succ]
      refine wpAnyH_take (i := 7) (v := ?_) rfl (by kernel_rfl) (by kernel_rfl) (by kernel_rfl) (fun _ _ _ h => h) (Or.inl ⟨by rfl, ?_⟩) (by assumption) ?_
      rotate_left
      · (intro w hSw; (try dsimp only at hSw); go_simp; try (with_reducible rfl))
      try simp only [Act.put, List.setIfInBounds_toArray, List.set_cons_zero, List.set_cons_succ, List.getElem_toArray, List.getElem_cons_zero, List.getElem_cons_succ]
      refine wpAnyH_take (i := 8) (v := ?_) rfl (by kernel_rfl) (by kernel_rfl) (by kernel_rfl) (fun _ _ _ h => h) (Or.inl ⟨by rfl, ?_⟩) (by assumption) ?_
      rotate_left
      · (intro w hSw; (try dsimp only at hSw); go_simp; try (with_reducible rfl))
      try simp only [Act.put, List.setIfInBounds_toArray, List.set_cons_zero, List.set_cons_succ, List.getElem_toArray, List.getElem_cons_zero, List.getElem_cons_succ]
      refine wpAnyH_take (i := 9) (v := ?_) rfl (by kernel_rfl) (by kernel_rfl) (by kernel_rfl) (fun _ _ _ h => h) (Or.inl ⟨by rfl, ?_⟩) (by assumption) ?_
      rotate_left
      · (intro w hSw; (try dsimp only at hSw); go_simp; try (with_reducible rfl))
      try simp only [Act.put, List.setIfInBounds_toArray, List.set_cons_zero, List.set_cons_succ, List.getElem_toArray, List.getElem_cons_zero, List.getElem_cons_succ]
      refine wpAnyH_take (i := 10) (v := ?_) rfl (by kernel_rfl) (by kernel_rfl) (by kernel_rfl) (fun _ _ _ h => h) (Or.inl ⟨by rfl, ?_⟩) (by assumption) ?_
      rotate_left
      · (intro w hSw; (try dsimp only at hSw); go_simp; try (with_reducible rfl))
      try simp only [Act.put, List.setIfInBounds_toArray, List.set_cons_zero, List.set_cons_succ, List.getElem_toArray, List.getElem_cons_zero, List.getElem_cons_succ]
      refine wpAnyH_take (i := 11) (v := ?_) rfl (by kernel_rfl) (by kernel_rfl) (by kernel_rfl) (fun _ _ _ h => h) (Or.inl ⟨by rfl, ?_⟩) (by assumption) ?_
      rotate_left
      · (intro w hSw; (try dsimp only at hSw); go_simp; try (with_reducible rfl))
      try simp only [Act.put, List.setIfInBounds_toArray, List.set_cons_zero, List.set_cons_succ, List.getElem_toArray, List.getElem_cons_zero, List.getElem_cons_succ]
      refine wpAnyH_take (i := 12) (v := ?_) rfl (by kernel_rfl) (by kernel_rfl) (by kernel_rfl) (fun _ _ _ h => h) (Or.inl ⟨by rfl, ?_⟩) (by assumption) ?_
      rotate_left
      · (intro w hSw; (try dsimp only at hSw); go_simp; try (with_reducible rfl))
      try simp only [Act.put, List.setIfInBounds_toArray, List.set_cons_zero, List.set_cons_succ, List.getElem_toArray, List.getElem_cons_zero, List.getElem_cons_succ]
      refine wpAnyH_take (i := 13) (v := ?_) rfl (by kernel_rfl) (by kernel_rfl) (by kernel_rfl) (fun _ _ _ h => h) (Or.inl ⟨by rfl, ?_⟩) (by assumption) ?_
      rotate_left
      · (intro w hSw; (try dsimp only at hSw); go_simp; try (with_reducible rfl))
      try simp only [Act.put, List.setIfInBounds_toArray, List.set_cons_zero, List.set_cons_succ, List.getElem_toArray, List.getElem_cons_zero, List.getElem_cons_succ]
      refine wpAnyH_take (i := 14) (v := ?_) rfl (by kernel_rfl) (by kernel_rfl) (by kernel_rfl) (fun _ _ _ h => h) (Or.inl ⟨by rfl, ?_⟩) (by assumption) ?_
      rotate_left
      · (intro w hSw; (try dsimp only at hSw); go_simp; try (with_reducible rfl))
      try simp only [Act.put, List.setIfInBounds_toArray, List.set_cons_zero, List.set_cons_succ, List.getElem_toArray, List.getElem_cons_zero, List.getElem_cons_succ]
      refine wpAnyH_take (i := 15) (v := ?_) rfl (by kernel_rfl) (by kernel_rfl) (by kernel_rfl) (fun _ _ _ h => h) (Or.inl ⟨by rfl, ?_⟩) (by assumption) ?_
      rotate_left
      · (intro w hSw; (try dsimp only at hSw); go_simp; try (with_reducible rfl))
      try simp only [Act.put, List.setIfInBounds_toArray, List.set_cons_zero, List.set_cons_succ, List.getElem_toArray, List.getElem_cons_zero, List.getElem_cons_succ]
      refine wpAnyH_take (i := 16) (v := ?_) rfl (by kernel_rfl) (by kernel_rfl) (by kernel_rfl) (fun _ _ _ h => h) (Or.inl ⟨by rfl, ?_⟩) (by assumption) ?_
      rotate_left
      · (intro w hSw; (try dsimp only at hSw); go_simp; try (with_reducible rfl))
      try simp only [Act.put, List.setIfInBounds_toArray, List.set_cons_zero, List.set_cons_succ, List.getElem_toArray, List.getElem_cons_zero, List.getElem_cons_succ]
      refine wpAnyH_take (i := 17) (v := ?_) rfl (by kernel_rfl) (by kernel_rfl) (by kernel_rfl) (fun _ _ _ h => h) (Or.inl ⟨by rfl, ?_⟩) (by assumption) ?_
      rotate_left
      · (intro w hSw; (try dsimp only at hSw); go_simp; try (with_reducible rfl))
      try simp only [Act.put, List.setIfInBounds_toArray, List.set_cons_zero, List.set_cons_succ, List.getElem_toArray, List.getElem_cons_zero, List.getElem_cons_succ]
      refine wpAnyH_take (i := 18) (v := ?_) rfl (by kernel_rfl) (by kernel_rfl) (by kernel_rfl) (fun _ _ _ h => h) (Or.inl ⟨by rfl, ?_⟩) (by assumption) ?_
      rotate_left
      · (intro w hSw; (try dsimp only at hSw); go_simp; try (with_reducible rfl))
      try simp only [Act.put, List.setIfInBounds_toArray, List.set_cons_zero, List.set_cons_succ, List.getElem_toArray, List.getElem_cons_zero, List.getElem_cons_succ]
      refine wpAnyH_take (i := 19) (v := ?_) rfl (by kernel_rfl) (by kernel_rfl) (by kernel_rfl) (fun _ _ _ h => h) (Or.inl ⟨by rfl, ?_⟩) (by assumption) ?_
      rotate_left
      · (intro w hSw; (try dsimp only at hSw); go_simp; try (with_reducible rfl))
      try simp only [Act.put, List.setIfInBounds_toArray, List.set_cons_zero, List.set_cons_succ, List.getElem_toArray, List.getElem_cons_zero, List.getElem_cons_succ]
      refine wpAnyH_take (i := 20) (v := ?_) rfl (by kernel_rfl) (by kernel_rfl) (by kernel_rfl) (fun _ _ _ h => h) (Or.inl ⟨by rfl, ?_⟩) (by assumption) ?_
      rotate_left
      · (intro w hSw; (try dsimp only at hSw); go_simp; try (with_reducible rfl))
      try simp only [Act.put, List.setIfInBounds_toArray, List.set_cons_zero, List.set_cons_succ, List.getElem_toArray, List.getElem_cons_zero, List.getElem_cons_succ]
      refine wpAnyH_take (i := 21) (v := ?_) rfl (by kernel_rfl) (by kernel_rfl) (by kernel_rfl) (fun _ _ _ h => h) (Or.inl ⟨by rfl, ?_⟩) (by assumption) ?_
      rotate_left
      · (intro w hSw; (try dsimp only at hSw); go_simp; try (with_reducible rfl))
      try simp only [Act.put, List.setIfInBounds_toArray, List.set_cons_zero, List.set_cons_succ, List.getElem_toArray, List.getElem_cons_zero, List.getElem_cons_succ]
      refine wpAnyH_take (i := 22) (v := ?_) rfl (by kernel_rfl) (by kernel_rfl) (by kernel_rfl) (fun _ _ _ h => h) (Or.inl ⟨by rfl, ?_⟩) (by assumption) ?_
      rotate_left
      · (intro w hSw; (try dsimp only at hSw); go_simp; try (with_reducible rfl))
      try simp only [Act.put, List.setIfInBounds_toArray, List.set_cons_zero, List.set_cons_succ, List.getElem_toArray, List.getElem_cons_zero, List.getElem_cons_succ]
      refine wpAnyH_take (i := 23) (v := ?_) rfl (by kernel_rfl) (by kernel_rfl) (by kernel_rfl) (fun _ _ _ h => h) (Or.inl ⟨by rfl, ?_⟩) (by assumption) ?_
      rotate_left
      · (intro w hSw; (try dsimp only at hSw); go_simp; try (with_reducible rfl))
      try simp only [Act.put, List.setIfInBounds_toArray, List.set_cons_zero, List.set_cons_succ, List.getElem_toArray, List.getElem_cons_zero, List.getElem_cons_succ]
      refine wpAnyH_take (i := 24) (v := ?_) rfl (by kernel_rfl) (by kernel_rfl) (by kernel_rfl) (fun _ _ _ h => h) (Or.inl ⟨by rfl, ?_⟩) (by assumption) ?_
      rotate_left
      · (intro w hSw; (try dsimp only at hSw); go_simp; try (with_reducible rfl))
      try simp only [Act.put, List.setIfInBounds_toArray, List.set_cons_zero, List.set_cons_succ, List.getElem_toArray, List.getElem_cons_zero, List.getElem_cons_succ]
      refine wpAnyH_take (i := 25) (v := ?_) rfl (by kernel_rfl) (by kernel_rfl) (by kernel_rfl) (fun _ _ _ h => h) (Or.inl ⟨by rfl, ?_⟩) (by assumption) ?_
      rotate_left
      · (intro w hSw; (try dsimp only at hSw); go_simp; try (with_reducible rfl))
      try simp only [Act.put, List.setIfInBounds_toArray, List.set_cons_zero, List.set_cons_succ, List.getElem_toArray, List.getElem_cons_zero, List.getElem_cons_succ]
      refine wpAnyH_done (by kernel_rfl) ?_ _
      refine NoPanic.normal ?_
      clear hHeld
      go_wp2
      go_roundw
      case rel => exact ⟨i + 1, by omega, by go_num, Lib.hid ((Chg.drew (fun _ => False) wr).on HB.out HB.out.size (fun _ e => e.elim))⟩
      case measure => simp [intOf]; omega
    · have d1 : decide ((i : Int) < (n : Int)) = false := decide_eq_false (by omega)
      have d1' : decide (i < n) = false := decide_eq_false hlt
      go_wp2
      go_ret
      exact ⟨rfl, HB.out⟩
end Go.Proofs.Ytgcifhhbhoafcaa
