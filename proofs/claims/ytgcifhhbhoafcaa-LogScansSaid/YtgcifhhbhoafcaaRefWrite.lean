/-
  The reference's disk: New. The reference's disk: Write.
-/
import Derived.Test.YtgcifhhbhoafcaaLogRefC
namespace Go.Proofs.Ytgcifhhbhoafcaa
open Go.RowKit Go.Shelf
attribute [local go_sem] Oper.semAt_some

def zst : ByteArray := bs (List.replicate 64 0)
theorem sCells_zero (k : Nat) : sCells (zeroS (k + 1)) = sCells (zeroS k) ++ [.string zst] := by
  unfold sCells zeroS zst
  rw [List.replicate_succ', List.map_append]
  rfl
theorem sCells_len (B : List Sec) : (sCells B).length = B.length := by simp [sCells]
def pCells (pos : List Nat) : List Value := pos.map fun (x : Nat) => Value.int .i64 ((x : Nat) : Int)
/-- The reference's disk: its safe sectors S, the numbers and the bytes of the writes that wait, no limit. -/
structure RA (w : World) (D lo : Nat) (S : List Sec) (va vw : Value) (pos : List Nat) (B : List Sec) : Prop where
  box : ∃ gs cs, w.heap[D]? = some (.cells #[.slice (some ⟨gs, 0, none⟩) S.length cs, va, vw, .int .i64 (-1)] 76 (0, 0)) ∧ w.rangeAt gs 0 (sCells S) ∧ gs < lo ∧ gs ≠ D ∧ gs < w.heap.size
  dlo : D < lo
  lolow : lo ≤ w.heap.size
  at_ : w.ownsRow lo 3 1 va pos.length (pCells pos)
  what : w.ownsRow lo 9 1 vw B.length (sCells B)
theorem RA.lt {w : World} {D lo : Nat} {S : List Sec} {va vw : Value} {pos : List Nat} {B : List Sec} (H : RA w D lo S va vw pos B) : D < w.heap.size := Nat.lt_of_lt_of_le H.dlo H.lolow
theorem RA.types {w : World} {D lo : Nat} {S : List Sec} {va vw : Value} {pos : List Nat} {B : List Sec} (H : RA w D lo S va vw pos B) {k : Nat} (h1 : va.ownBlock = some k) (h2 : vw.ownBlock = some k) : False := by
  rcases H.at_.2 with ⟨rfl, _⟩ | ⟨g1, c1, u1, rfl, _, hg1, _⟩
  · cases h1
  · rcases H.what.2 with ⟨rfl, _⟩ | ⟨g2, c2, u2, rfl, _, hg2, _⟩
    · cases h2
    · cases h1
      cases h2
      rw [hg1] at hg2
      simp only [Option.some.injEq, Obj.cells.injEq] at hg2
      exact absurd hg2.2.1 (by decide)
theorem RA.chg {w w' : World} {D lo : Nat} {S : List Sec} {va vw : Value} {pos : List Nat} {B : List Sec} (H : RA w D lo S va vw pos B) {ex : Nat → Prop} (hc : Chg ex w w') (hex : ∀ k, ex k → lo ≤ k ∧ va.ownBlock ≠ some k ∧ vw.ownBlock ≠ some k) : RA w' D lo S va vw pos B := by
  obtain ⟨gs, cs, h1, h2, h3, h4, h5⟩ := H.box
  have hd := H.dlo
  exact ⟨⟨gs, cs, hc.box h1 (fun e => by have := (hex _ e).1; omega), hc.range h2 (fun e => by have := (hex _ e).1; omega), h3, h4, Nat.lt_of_lt_of_le h5 hc.size⟩, hd, Nat.le_trans H.lolow hc.size, hc.own H.at_ (fun k hk e => (hex k e).2.1 hk), hc.own H.what (fun k hk e => (hex k e).2.2 hk)⟩
theorem RA.on {w w' : World} {D lo : Nat} {S : List Sec} {va vw : Value} {pos : List Nat} {B : List Sec} (H : RA w D lo S va vw pos B) (hb : Below w.heap.size w w') : RA w' D lo S va vw pos B := H.chg (Chg.below hb (fun _ => False)) (fun _ e => e.elim)
theorem RA.grow_at {w w2 : World} {D lo : Nat} {S : List Sec} {va vw va' : Value} {pos : List Nat} {B : List Sec} (H : RA w D lo S va vw pos B) (x : Nat) (hrow : w2.ownsRow lo 3 1 va' (pos.length + 1) (pCells pos ++ [.int .i64 (x : Int)])) (hg : w.grownBy w2 va.ownBlock) : RA (w2.setCell ⟨D, 1, none⟩ va') D lo S va' vw (pos ++ [x]) B := by
  obtain ⟨gs, cs, h1, h2, h3, h4, h5⟩ := H.box
  have hd := H.dlo
  have hc := Chg.grown hg
  have hnD : ¬ (some D = va.ownBlock) := fun e => by have := (H.at_.lt D e.symm).1; omega
  have hb2 := hc.box h1 hnD
  have hc2 := Chg.setCell w2 ⟨D, 1, none⟩ va'
  refine ⟨⟨gs, cs, ?_, hc2.range (hc.range h2 (fun e => by have := (H.at_.lt gs e.symm).1; omega)) h4, h3, h4, Nat.lt_of_lt_of_le h5 (Nat.le_trans hc.size hc2.size)⟩, hd, Nat.le_trans H.lolow (Nat.le_trans hc.size hc2.size), ?_, ?_⟩
  · rw [setCell_eq_setRow w2 D _ _ _ _ _ hb2, setRow_heap w2 D _ _ _ _ hb2]
    rfl
  · have := hc2.own hrow (fun k hk e => by have := (hrow.lt k hk).1; have e' : k = D := e; omega)
    rw [List.length_append]
    simpa [pCells] using this
  · exact hc2.own (hc.own H.what (fun k hk e => H.types e.symm hk)) (fun k hk e => by have := (H.what.lt k hk).1; have e' : k = D := e; omega)
theorem RA.grow_what {w w2 : World} {D lo : Nat} {S : List Sec} {va vw vw' : Value} {pos : List Nat} {B : List Sec} (H : RA w D lo S va vw pos B) (x : Sec) (hrow : w2.ownsRow lo 9 1 vw' (B.length + 1) (sCells B ++ [.string (bs x)])) (hg : w.grownBy w2 vw.ownBlock) : RA (w2.setCell ⟨D, 2, none⟩ vw') D lo S va vw' pos (B ++ [x]) := by
  obtain ⟨gs, cs, h1, h2, h3, h4, h5⟩ := H.box
  have hd := H.dlo
  have hc := Chg.grown hg
  have hnD : ¬ (some D = vw.ownBlock) := fun e => by have := (H.what.lt D e.symm).1; omega
  have hb2 := hc.box h1 hnD
  have hc2 := Chg.setCell w2 ⟨D, 2, none⟩ vw'
  refine ⟨⟨gs, cs, ?_, hc2.range (hc.range h2 (fun e => by have := (H.what.lt gs e.symm).1; omega)) h4, h3, h4, Nat.lt_of_lt_of_le h5 (Nat.le_trans hc.size hc2.size)⟩, hd, Nat.le_trans H.lolow (Nat.le_trans hc.size hc2.size), ?_, ?_⟩
  · rw [setCell_eq_setRow w2 D _ _ _ _ _ hb2, setRow_heap w2 D _ _ _ _ hb2]
    rfl
  · exact hc2.own (hc.own H.at_ (fun k hk e => H.types hk e.symm)) (fun k hk e => by have := (H.at_.lt k hk).1; have e' : k = D := e; omega)
  · have := hc2.own hrow (fun k hk e => by have := (hrow.lt k hk).1; have e' : k = D := e; omega)
    rw [List.length_append]
    simpa [sCells] using this

set_option maxRecDepth 20000 in
set_option maxHeartbeats 4000000 in
theorem refnew_any (n : Nat) (h1 : 1 ≤ n) (hn : n ≤ 1000) (w : World) :
    Calls Try.prog 10 #[.int .i64 n] w fun e w' => e = .returned (.pointer (some ⟨w.heap.size, 0, none⟩)) ∧ RA w' w.heap.size w'.heap.size (zeroS n) (.slice none 0 0) (.slice none 0 0) [] [] ∧ Below w.heap.size w w' := by
  obtain ⟨i0, hi, hz0, hz1, hz2⟩ := info_parts info_strs
  have hA := heap_new w (.cells #[.slice none 0 0, .slice none 0 0, .slice none 0 0, .int .i64 (-1)] 76)
  have hbA : Below w.heap.size w (w.alloc (.cells #[.slice none 0 0, .slice none 0 0, .slice none 0 0, .int .i64 (-1)] 76)) := bA (Below.refl _ _) _
  have HA := Lib.hid hA
  have HBA := Lib.hid hbA
  have hmk := fun W => make_u8 W 64 (by decide)
  obtain ⟨D, hD⟩ : ∃ D, w.heap.size = D := ⟨_, rfl⟩
  have HD := Lib.hid hD
  rw [hD] at HA ⊢
  clear hA hbA hD
  go_enter Try.func10, Try.ntmps10
  go_wp2
  rw [HD.out]
  go_loopw [4] (fun s4 wr => ∃ k : Nat, ∃ pv cv, k ≤ n ∧ s4 = .int .i64 k ∧ Hid (wr.heap[D]? = some (.cells #[.slice pv k cv, .slice none 0 0, .slice none 0 0, .int .i64 (-1)] 76 (0, 0))) ∧ Hid (wr.ownsRow (D + 1) 9 1 (.slice pv k cv) k (sCells (zeroS k))) ∧ Hid (Below w.heap.size w wr)) (fun s4 _ => n - (intOf s4).toNat)
  case atStart => exact ⟨0, none, 0, Nat.zero_le _, rfl, HA, Lib.hid (World.ownsRow_nil _ _ _ _), HBA⟩
  case round =>
    clear HA HBA
    obtain ⟨k, pv, cv, hk, rfl, HDW, HROW, HB⟩ := hrel
    by_cases hlt : k < n
    · have d1 : decide ((k : Int) < (n : Int)) = true := decide_eq_true (by omega)
      have d1' : decide (k < n) = true := decide_eq_true hlt
      have kd : wr.cell? ⟨D, 0, none⟩ = some (.slice pv k cv) := by rw [cell_in HDW.out]; rfl
      have hDl : D < wr.heap.size := (Array.getElem?_eq_some_iff.1 HDW.out).1
      obtain ⟨W1, hW1⟩ : ∃ W1, wr.drew.alloc (.cells (List.replicate 64 (Value.int .u8 0)).toArray 5) = W1 := ⟨_, rfl⟩
      have hb1 : Below wr.heap.size wr W1 := by rw [← hW1]; exact bA (bD (Below.refl _ _)) _
      have hmk2 : (Instr.makeSlice 22 (.int .i64 64) (.int .i64 64)).run Try.prog wr.drew = .ok (.slice (some ⟨wr.heap.size, 0, none⟩) 64 64) W1 := by rw [← hW1]; exact hmk wr.drew
      have hZ1 : W1.heap[wr.heap.size]? = some (.cells (bCells (List.replicate 64 0)).toArray 5 (0, 0)) := by rw [← hW1, show bCells (List.replicate 64 0) = List.replicate 64 (Value.int .u8 0) by simp [bCells]]; exact heap_new wr.drew _
      have hs1 : W1.heap.size = wr.heap.size + 1 := by rw [← hW1, World.size_alloc]; rfl
      have hcv : (convert 22 9 (.slice (some ⟨wr.heap.size, 0, none⟩) 64 64)).run Try.prog W1 = .ok (.string zst) W1 := by
        have h := run_str (c := 64) (in_block hZ1)
        rw [List.length_replicate] at h
        exact h
      obtain ⟨W2, hW2⟩ : ∃ W2, W1.alloc (.cells #[.string zst] 9) = W2 := ⟨_, rfl⟩
      have hb2 : Below wr.heap.size wr W2 := by rw [← hW2]; exact bA hb1 _
      have hlit : W2.ownsRow W1.heap.size 9 1 (.slice (some ⟨W1.heap.size, 0, none⟩) 1 1) 1 [.string zst] := by rw [← hW2]; exact World.ownsRow_lit W1 #[.string zst] 1 (Nat.le_refl _) (by decide) rfl
      have hrow2 : W2.ownsRow (D + 1) 9 1 (.slice pv k cv) k (sCells (zeroS k)) := (Chg.below hb2 (fun _ => False)).own HROW.out (fun _ _ e => e)
      have hD1 := (Chg.below hb1 (fun _ => False)).box HDW.out (fun e => e)
      have hD2 := (Chg.below hb2 (fun _ => False)).box HDW.out (fun e => e)
      have HW1 := Lib.hid hW1
      have HW2 := Lib.hid hW2
      have HLIT := Lib.hid hlit
      have HROW2 := Lib.hid hrow2
      have HD1 := Lib.hid hD1
      have HD2 := Lib.hid hD2
      have HB2 := Lib.hid hb2
      have HS1 := Lib.hid hs1
      clear hW1 hb1 hZ1 hW2 hb2 hlit hmk hrow2 hD1 hD2 hs1
      have kd1 : W1.cell? ⟨D, 0, none⟩ = some (.slice pv k cv) := by rw [cell_in HD1.out]; rfl
      have kd2 : W2.cell? ⟨D, 0, none⟩ = some (.slice pv k cv) := by rw [cell_in HD2.out]; rfl
      go_wp2_with fail
      refine wp_region_noPanic ?_
      refine wp_region_held_drew (S := fun _ => True) (by kernel_rfl) (trivial) (fun hHeld => ?_)
      refine wpAnyH_take (i := 0) (v := ?_) rfl (by kernel_rfl) (by kernel_rfl) (by kernel_rfl) (fun _ _ _ h => h) (Or.inl ⟨by rfl, ?_⟩) (by assumption) ?_
      rotate_left
      · (intro w hSw; (try dsimp only at hSw); go_simp; try (with_reducible rfl))
      try simp only [Act.put, List.setIfInBounds_toArray, List.set_cons_zero, List.set_cons_succ, List.getElem_toArray, List.getElem_cons_zero]
      refine wpAnyH_take (i := 1) (v := ?_) rfl (by kernel_rfl) (by kernel_rfl) (by kernel_rfl) (fun _ _ _ h => h) (Or.inl ⟨by rfl, ?_⟩) (by assumption) ?_
      rotate_left
      · (intro w hSw; (try dsimp only at hSw); go_simp; try (with_reducible rfl))
      try simp only [Act.put, List.setIfInBounds_toArray, List.set_cons_zero, List.set_cons_succ, List.getElem_toArray, List.getElem_cons_zero, List.getElem_cons_succ]
      refine wpAnyH_take (i := 2) (v := ?_) rfl (by kernel_rfl) (by kernel_rfl) (by kernel_rfl) (fun _ _ _ h => h) (Or.inl ⟨by rfl, ?_⟩) (by assumption) ?_
      rotate_left
      · (intro w hSw; (try dsimp only at hSw); go_simp; try (with_reducible rfl))
      try simp only [Act.put, List.setIfInBounds_toArray, List.set_cons_zero, List.set_cons_succ, List.getElem_toArray, List.getElem_cons_zero, List.getElem_cons_succ]
      refine wpAnyH_take (i := 3) (v := ?_) rfl (by kernel_rfl) (by kernel_rfl) (by kernel_rfl) (fun _ _ _ h => h) (Or.inl ⟨by rfl, ?_⟩) (by assumption) ?_
      rotate_left
      · (intro w hSw; (try dsimp only at hSw); go_simp; try (with_reducible rfl))
      try simp only [Act.put, List.setIfInBounds_toArray, List.set_cons_zero, List.set_cons_succ, List.getElem_toArray, List.getElem_cons_zero, List.getElem_cons_succ]
      refine wpAnyH_ready (rs := [4, 5]) (by kernel_rfl) (by simp) ?_
      refine AllReadyH.cons rfl (fun K hK => ?_) (AllReadyH.cons rfl (fun K hK => ?_) AllReadyH.nil)
      · go_simp
        refine hK.out _ _ (trivial) (fun hHeld2 => ?_)
        clear hK K hHeld
        have hHeld := hHeld2
        clear hHeld2
        try simp only [Act.put, List.setIfInBounds_toArray, List.set_cons_zero, List.set_cons_succ, List.getElem_toArray, List.getElem_cons_zero, List.getElem_cons_succ]
        refine wpAnyH_ready (rs := [5]) (by kernel_rfl) (by simp) ?_
        refine AllReadyH.cons rfl (fun K hK => ?_) AllReadyH.nil
        go_simp
        refine hK.out _ _ (trivial) (fun hHeld2 => ?_)
        clear hK K hHeld
        have hHeld := hHeld2
        clear hHeld2
        try simp only [Act.put, List.setIfInBounds_toArray, List.set_cons_zero, List.set_cons_succ, List.getElem_toArray, List.getElem_cons_zero, List.getElem_cons_succ]
        refine wpAnyH_ready (rs := [6]) (by kernel_rfl) (by simp) ?_
        refine AllReadyH.cons rfl (fun K hK => ?_) AllReadyH.nil
        go_simp
        refine hK.out _ _ (trivial) (fun hHeld2 => ?_)
        clear hK K hHeld
        have hHeld := hHeld2
        clear hHeld2
        try simp only [Act.put, List.setIfInBounds_toArray, List.set_cons_zero, List.set_cons_succ, List.getElem_toArray, List.getElem_cons_zero, List.getElem_cons_succ]
        refine wpAnyH_ready (rs := [7]) (by kernel_rfl) (by simp) ?_
        refine AllReadyH.cons rfl (fun K hK => ?_) AllReadyH.nil
        go_simp
        first | rw [HW2.out] | skip
        refine hK.out _ _ (trivial) (fun hHeld2 => ?_)
        clear hK K hHeld
        have hHeld := hHeld2
        clear hHeld2
        try simp only [Act.put, List.setIfInBounds_toArray, List.set_cons_zero, List.set_cons_succ, List.getElem_toArray, List.getElem_cons_zero, List.getElem_cons_succ]
        refine wpAnyH_ready (rs := [8]) (by kernel_rfl) (by simp) ?_
        refine AllReadyH.cons rfl (fun K hK => ?_) AllReadyH.nil
        refine wp_append_lies _ (.tmp 16) (.tmp 19) 24 rfl (D + 1) 9 i0 (.string ⟨#[]⟩) 1 16 Try.underlying24 hi hz0 hz1 hz2 rfl (by decide) (.slice pv k cv) k _ rfl HROW2.out ⟨W1.heap.size, 0, none⟩ 1 1 [.string zst] rfl rfl (HLIT.out.cells rfl) (by simp; rfl) (by decide) (by unfold maxLen; omega) (by omega) (by have := HB2.out.size; omega) _ rfl ?_
        intro g4 c4 w4 hrow4 hg4 _ _
        have hD4 : w4.heap[D]? = some (.cells #[.slice pv k cv, .slice none 0 0, .slice none 0 0, .int .i64 (-1)] 76 (0, 0)) := (Chg.grown hg4).box HD2.out (fun e => by
          have := (HROW2.out.lt D e.symm).1
          omega)
        have HD4 := Lib.hid hD4
        have HROW4 := Lib.hid (show w4.ownsRow (D + 1) 9 1 (.slice (some ⟨g4, 0, none⟩) (k + 1) c4) (k + 1) (sCells (zeroS (k + 1))) by rw [sCells_zero]; exact hrow4)
        have hW2b := HB.out.trans (HB2.out.mono HB.out.size)
        have HB4 := Lib.hid (show Below w.heap.size w w4 from (Chg.grown hg4).on hW2b hW2b.size (fun b e => by have := (HROW2.out.lt b e.symm).1; have := HD.out; omega))
        have kd4 : w4.cell? ⟨D, 0, none⟩ = some (.slice pv k cv) := by rw [cell_in hD4]; rfl
        have fd4 := frozen_in hD4 0
        clear hrow4 hg4 hW2b
        refine hK.out _ _ (trivial) (fun hHeld2 => ?_)
        clear hK K hHeld
        have hHeld := hHeld2
        clear hHeld2
        try simp only [Act.put, List.setIfInBounds_toArray, List.set_cons_zero, List.set_cons_succ, List.getElem_toArray, List.getElem_cons_zero, List.getElem_cons_succ]
        refine wpAnyH_take (i := 9) (v := ?_) rfl (by kernel_rfl) (by kernel_rfl) (by kernel_rfl) (fun _ _ _ h => h) (Or.inl ⟨by rfl, ?_⟩) (by assumption) ?_
        rotate_left
        · (intro w hSw; (try dsimp only at hSw); go_simp; try (with_reducible rfl))
        try simp only [Act.put, List.setIfInBounds_toArray, List.set_cons_zero, List.set_cons_succ, List.getElem_toArray, List.getElem_cons_zero, List.getElem_cons_succ]
        refine wpAnyH_take (i := 10) (v := ?_) rfl (by kernel_rfl) (by kernel_rfl) (by kernel_rfl) (fun _ _ _ h => h) (Or.inl ⟨by rfl, ?_⟩) (by assumption) ?_
        rotate_left
        · (intro w hSw; (try dsimp only at hSw); go_simp; try (with_reducible rfl))
        try simp only [Act.put, List.setIfInBounds_toArray, List.set_cons_zero, List.set_cons_succ, List.getElem_toArray, List.getElem_cons_zero, List.getElem_cons_succ]
        refine wpAnyH_ready (rs := [11]) (by kernel_rfl) (by simp) ?_
        refine AllReadyH.cons rfl (fun K hK => ?_) AllReadyH.nil
        go_simp
        refine hK.out _ _ (trivial) (fun hHeld2 => ?_)
        clear hK K hHeld
        have hHeld := hHeld2
        clear hHeld2
        try simp only [Act.put, List.setIfInBounds_toArray, List.set_cons_zero, List.set_cons_succ, List.getElem_toArray, List.getElem_cons_zero, List.getElem_cons_succ]
        refine wpAnyH_done (by kernel_rfl) ?_ _
        refine NoPanic.normal ?_
        clear hHeld
        go_wp2
        have hD4' := setCell_eq_setRow w4 D 0 _ _ _ (.slice (some ⟨g4, 0, none⟩) (k + 1) c4) HD4.out
        have hD5 : (w4.setCell ⟨D, 0, none⟩ (.slice (some ⟨g4, 0, none⟩) (k + 1) c4)).heap[D]? = some (.cells #[.slice (some ⟨g4, 0, none⟩) (k + 1) c4, .slice none 0 0, .slice none 0 0, .int .i64 (-1)] 76 (0, 0)) := by
          rw [hD4', setRow_heap w4 D _ _ _ _ HD4.out]
          rfl
        have hc5 := Chg.setCell w4 ⟨D, 0, none⟩ (.slice (some ⟨g4, 0, none⟩) (k + 1) c4)
        have hR5 := hc5.own HROW4.out (fun b hb e => by
          have := (HROW4.out.lt b hb).1
          have e' : b = D := e
          omega)
        have hB5 := hc5.on HB4.out HB4.out.size (fun b e => by
          have e' : b = D := e
          rw [e', ← HD.out]
          exact Nat.le_refl _)
        have HD5 := Lib.hid hD5
        have HR5 := Lib.hid hR5
        have HB5 := Lib.hid hB5
        clear hD4 hD4' hD5 hc5 hR5 hB5
        go_roundw
        case rel => exact ⟨k + 1, some ⟨g4, 0, none⟩, c4, by omega, by go_num, HD5, HR5, HB5⟩
        case measure => simp [intOf]; omega
      · go_simp
        refine hK.out _ _ (trivial) (fun hHeld2 => ?_)
        clear hK K hHeld
        have hHeld := hHeld2
        clear hHeld2
        try simp only [Act.put, List.setIfInBounds_toArray, List.set_cons_zero, List.set_cons_succ, List.getElem_toArray, List.getElem_cons_zero, List.getElem_cons_succ]
        refine wpAnyH_ready (rs := [4, 6]) (by kernel_rfl) (by simp) ?_
        refine AllReadyH.cons rfl (fun K hK => ?_) (AllReadyH.cons rfl (fun K hK => ?_) AllReadyH.nil)
        · go_simp
          refine hK.out _ _ (trivial) (fun hHeld2 => ?_)
          clear hK K hHeld
          have hHeld := hHeld2
          clear hHeld2
          try simp only [Act.put, List.setIfInBounds_toArray, List.set_cons_zero, List.set_cons_succ, List.getElem_toArray, List.getElem_cons_zero, List.getElem_cons_succ]
          refine wpAnyH_ready (rs := [6]) (by kernel_rfl) (by simp) ?_
          refine AllReadyH.cons rfl (fun K hK => ?_) AllReadyH.nil
          go_simp
          refine hK.out _ _ (trivial) (fun hHeld2 => ?_)
          clear hK K hHeld
          have hHeld := hHeld2
          clear hHeld2
          try simp only [Act.put, List.setIfInBounds_toArray, List.set_cons_zero, List.set_cons_succ, List.getElem_toArray, List.getElem_cons_zero, List.getElem_cons_succ]
          refine wpAnyH_ready (rs := [7]) (by kernel_rfl) (by simp) ?_
          refine AllReadyH.cons rfl (fun K hK => ?_) AllReadyH.nil
          go_simp
          first | rw [HW2.out] | skip
          refine hK.out _ _ (trivial) (fun hHeld2 => ?_)
          clear hK K hHeld
          have hHeld := hHeld2
          clear hHeld2
          try simp only [Act.put, List.setIfInBounds_toArray, List.set_cons_zero, List.set_cons_succ, List.getElem_toArray, List.getElem_cons_zero, List.getElem_cons_succ]
          refine wpAnyH_ready (rs := [8]) (by kernel_rfl) (by simp) ?_
          refine AllReadyH.cons rfl (fun K hK => ?_) AllReadyH.nil
          refine wp_append_lies _ (.tmp 16) (.tmp 19) 24 rfl (D + 1) 9 i0 (.string ⟨#[]⟩) 1 16 Try.underlying24 hi hz0 hz1 hz2 rfl (by decide) (.slice pv k cv) k _ rfl HROW2.out ⟨W1.heap.size, 0, none⟩ 1 1 [.string zst] rfl rfl (HLIT.out.cells rfl) (by simp; rfl) (by decide) (by unfold maxLen; omega) (by omega) (by have := HB2.out.size; omega) _ rfl ?_
          intro g4 c4 w4 hrow4 hg4 _ _
          have hD4 : w4.heap[D]? = some (.cells #[.slice pv k cv, .slice none 0 0, .slice none 0 0, .int .i64 (-1)] 76 (0, 0)) := (Chg.grown hg4).box HD2.out (fun e => by
            have := (HROW2.out.lt D e.symm).1
            omega)
          have HD4 := Lib.hid hD4
          have HROW4 := Lib.hid (show w4.ownsRow (D + 1) 9 1 (.slice (some ⟨g4, 0, none⟩) (k + 1) c4) (k + 1) (sCells (zeroS (k + 1))) by rw [sCells_zero]; exact hrow4)
          have hW2b := HB.out.trans (HB2.out.mono HB.out.size)
          have HB4 := Lib.hid (show Below w.heap.size w w4 from (Chg.grown hg4).on hW2b hW2b.size (fun b e => by have := (HROW2.out.lt b e.symm).1; have := HD.out; omega))
          have kd4 : w4.cell? ⟨D, 0, none⟩ = some (.slice pv k cv) := by rw [cell_in hD4]; rfl
          have fd4 := frozen_in hD4 0
          clear hrow4 hg4 hW2b
          refine hK.out _ _ (trivial) (fun hHeld2 => ?_)
          clear hK K hHeld
          have hHeld := hHeld2
          clear hHeld2
          try simp only [Act.put, List.setIfInBounds_toArray, List.set_cons_zero, List.set_cons_succ, List.getElem_toArray, List.getElem_cons_zero, List.getElem_cons_succ]
          refine wpAnyH_take (i := 9) (v := ?_) rfl (by kernel_rfl) (by kernel_rfl) (by kernel_rfl) (fun _ _ _ h => h) (Or.inl ⟨by rfl, ?_⟩) (by assumption) ?_
          rotate_left
          · (intro w hSw; (try dsimp only at hSw); go_simp; try (with_reducible rfl))
          try simp only [Act.put, List.setIfInBounds_toArray, List.set_cons_zero, List.set_cons_succ, List.getElem_toArray, List.getElem_cons_zero, List.getElem_cons_succ]
          refine wpAnyH_take (i := 10) (v := ?_) rfl (by kernel_rfl) (by kernel_rfl) (by kernel_rfl) (fun _ _ _ h => h) (Or.inl ⟨by rfl, ?_⟩) (by assumption) ?_
          rotate_left
          · (intro w hSw; (try dsimp only at hSw); go_simp; try (with_reducible rfl))
          try simp only [Act.put, List.setIfInBounds_toArray, List.set_cons_zero, List.set_cons_succ, List.getElem_toArray, List.getElem_cons_zero, List.getElem_cons_succ]
          refine wpAnyH_ready (rs := [11]) (by kernel_rfl) (by simp) ?_
          refine AllReadyH.cons rfl (fun K hK => ?_) AllReadyH.nil
          go_simp
          refine hK.out _ _ (trivial) (fun hHeld2 => ?_)
          clear hK K hHeld
          have hHeld := hHeld2
          clear hHeld2
          try simp only [Act.put, List.setIfInBounds_toArray, List.set_cons_zero, List.set_cons_succ, List.getElem_toArray, List.getElem_cons_zero, List.getElem_cons_succ]
          refine wpAnyH_done (by kernel_rfl) ?_ _
          refine NoPanic.normal ?_
          clear hHeld
          go_wp2
          have hD4' := setCell_eq_setRow w4 D 0 _ _ _ (.slice (some ⟨g4, 0, none⟩) (k + 1) c4) HD4.out
          have hD5 : (w4.setCell ⟨D, 0, none⟩ (.slice (some ⟨g4, 0, none⟩) (k + 1) c4)).heap[D]? = some (.cells #[.slice (some ⟨g4, 0, none⟩) (k + 1) c4, .slice none 0 0, .slice none 0 0, .int .i64 (-1)] 76 (0, 0)) := by
            rw [hD4', setRow_heap w4 D _ _ _ _ HD4.out]
            rfl
          have hc5 := Chg.setCell w4 ⟨D, 0, none⟩ (.slice (some ⟨g4, 0, none⟩) (k + 1) c4)
          have hR5 := hc5.own HROW4.out (fun b hb e => by
            have := (HROW4.out.lt b hb).1
            have e' : b = D := e
            omega)
          have hB5 := hc5.on HB4.out HB4.out.size (fun b e => by
            have e' : b = D := e
            rw [e', ← HD.out]
            exact Nat.le_refl _)
          have HD5 := Lib.hid hD5
          have HR5 := Lib.hid hR5
          have HB5 := Lib.hid hB5
          clear hD4 hD4' hD5 hc5 hR5 hB5
          go_roundw
          case rel => exact ⟨k + 1, some ⟨g4, 0, none⟩, c4, by omega, by go_num, HD5, HR5, HB5⟩
          case measure => simp [intOf]; omega
        · go_simp
          refine hK.out _ _ (trivial) (fun hHeld2 => ?_)
          clear hK K hHeld
          have hHeld := hHeld2
          clear hHeld2
          try simp only [Act.put, List.setIfInBounds_toArray, List.set_cons_zero, List.set_cons_succ, List.getElem_toArray, List.getElem_cons_zero, List.getElem_cons_succ]
          refine wpAnyH_ready (rs := [4, 7]) (by kernel_rfl) (by simp) ?_
          refine AllReadyH.cons rfl (fun K hK => ?_) (AllReadyH.cons rfl (fun K hK => ?_) AllReadyH.nil)
          · go_simp
            refine hK.out _ _ (trivial) (fun hHeld2 => ?_)
            clear hK K hHeld
            have hHeld := hHeld2
            clear hHeld2
            try simp only [Act.put, List.setIfInBounds_toArray, List.set_cons_zero, List.set_cons_succ, List.getElem_toArray, List.getElem_cons_zero, List.getElem_cons_succ]
            refine wpAnyH_ready (rs := [7]) (by kernel_rfl) (by simp) ?_
            refine AllReadyH.cons rfl (fun K hK => ?_) AllReadyH.nil
            go_simp
            first | rw [HW2.out] | skip
            refine hK.out _ _ (trivial) (fun hHeld2 => ?_)
            clear hK K hHeld
            have hHeld := hHeld2
            clear hHeld2
            try simp only [Act.put, List.setIfInBounds_toArray, List.set_cons_zero, List.set_cons_succ, List.getElem_toArray, List.getElem_cons_zero, List.getElem_cons_succ]
            refine wpAnyH_ready (rs := [8]) (by kernel_rfl) (by simp) ?_
            refine AllReadyH.cons rfl (fun K hK => ?_) AllReadyH.nil
            refine wp_append_lies _ (.tmp 16) (.tmp 19) 24 rfl (D + 1) 9 i0 (.string ⟨#[]⟩) 1 16 Try.underlying24 hi hz0 hz1 hz2 rfl (by decide) (.slice pv k cv) k _ rfl HROW2.out ⟨W1.heap.size, 0, none⟩ 1 1 [.string zst] rfl rfl (HLIT.out.cells rfl) (by simp; rfl) (by decide) (by unfold maxLen; omega) (by omega) (by have := HB2.out.size; omega) _ rfl ?_
            intro g4 c4 w4 hrow4 hg4 _ _
            have hD4 : w4.heap[D]? = some (.cells #[.slice pv k cv, .slice none 0 0, .slice none 0 0, .int .i64 (-1)] 76 (0, 0)) := (Chg.grown hg4).box HD2.out (fun e => by
              have := (HROW2.out.lt D e.symm).1
              omega)
            have HD4 := Lib.hid hD4
            have HROW4 := Lib.hid (show w4.ownsRow (D + 1) 9 1 (.slice (some ⟨g4, 0, none⟩) (k + 1) c4) (k + 1) (sCells (zeroS (k + 1))) by rw [sCells_zero]; exact hrow4)
            have hW2b := HB.out.trans (HB2.out.mono HB.out.size)
            have HB4 := Lib.hid (show Below w.heap.size w w4 from (Chg.grown hg4).on hW2b hW2b.size (fun b e => by have := (HROW2.out.lt b e.symm).1; have := HD.out; omega))
            have kd4 : w4.cell? ⟨D, 0, none⟩ = some (.slice pv k cv) := by rw [cell_in hD4]; rfl
            have fd4 := frozen_in hD4 0
            clear hrow4 hg4 hW2b
            refine hK.out _ _ (trivial) (fun hHeld2 => ?_)
            clear hK K hHeld
            have hHeld := hHeld2
            clear hHeld2
            try simp only [Act.put, List.setIfInBounds_toArray, List.set_cons_zero, List.set_cons_succ, List.getElem_toArray, List.getElem_cons_zero, List.getElem_cons_succ]
            refine wpAnyH_take (i := 9) (v := ?_) rfl (by kernel_rfl) (by kernel_rfl) (by kernel_rfl) (fun _ _ _ h => h) (Or.inl ⟨by rfl, ?_⟩) (by assumption) ?_
            rotate_left
            · (intro w hSw; (try dsimp only at hSw); go_simp; try (with_reducible rfl))
            try simp only [Act.put, List.setIfInBounds_toArray, List.set_cons_zero, List.set_cons_succ, List.getElem_toArray, List.getElem_cons_zero, List.getElem_cons_succ]
            refine wpAnyH_take (i := 10) (v := ?_) rfl (by kernel_rfl) (by kernel_rfl) (by kernel_rfl) (fun _ _ _ h => h) (Or.inl ⟨by rfl, ?_⟩) (by assumption) ?_
            rotate_left
            · (intro w hSw; (try dsimp only at hSw); go_simp; try (with_reducible rfl))
            try simp only [Act.put, List.setIfInBounds_toArray, List.set_cons_zero, List.set_cons_succ, List.getElem_toArray, List.getElem_cons_zero, List.getElem_cons_succ]
            refine wpAnyH_ready (rs := [11]) (by kernel_rfl) (by simp) ?_
            refine AllReadyH.cons rfl (fun K hK => ?_) AllReadyH.nil
            go_simp
            refine hK.out _ _ (trivial) (fun hHeld2 => ?_)
            clear hK K hHeld
            have hHeld := hHeld2
            clear hHeld2
            try simp only [Act.put, List.setIfInBounds_toArray, List.set_cons_zero, List.set_cons_succ, List.getElem_toArray, List.getElem_cons_zero, List.getElem_cons_succ]
            refine wpAnyH_done (by kernel_rfl) ?_ _
            refine NoPanic.normal ?_
            clear hHeld
            go_wp2
            have hD4' := setCell_eq_setRow w4 D 0 _ _ _ (.slice (some ⟨g4, 0, none⟩) (k + 1) c4) HD4.out
            have hD5 : (w4.setCell ⟨D, 0, none⟩ (.slice (some ⟨g4, 0, none⟩) (k + 1) c4)).heap[D]? = some (.cells #[.slice (some ⟨g4, 0, none⟩) (k + 1) c4, .slice none 0 0, .slice none 0 0, .int .i64 (-1)] 76 (0, 0)) := by
              rw [hD4', setRow_heap w4 D _ _ _ _ HD4.out]
              rfl
            have hc5 := Chg.setCell w4 ⟨D, 0, none⟩ (.slice (some ⟨g4, 0, none⟩) (k + 1) c4)
            have hR5 := hc5.own HROW4.out (fun b hb e => by
              have := (HROW4.out.lt b hb).1
              have e' : b = D := e
              omega)
            have hB5 := hc5.on HB4.out HB4.out.size (fun b e => by
              have e' : b = D := e
              rw [e', ← HD.out]
              exact Nat.le_refl _)
            have HD5 := Lib.hid hD5
            have HR5 := Lib.hid hR5
            have HB5 := Lib.hid hB5
            clear hD4 hD4' hD5 hc5 hR5 hB5
            go_roundw
            case rel => exact ⟨k + 1, some ⟨g4, 0, none⟩, c4, by omega, by go_num, HD5, HR5, HB5⟩
            case measure => simp [intOf]; omega
          · go_simp
            first | rw [HW2.out] | skip
            refine hK.out _ _ (trivial) (fun hHeld2 => ?_)
            clear hK K hHeld
            have hHeld := hHeld2
            clear hHeld2
            try simp only [Act.put, List.setIfInBounds_toArray, List.set_cons_zero, List.set_cons_succ, List.getElem_toArray, List.getElem_cons_zero, List.getElem_cons_succ]
            refine wpAnyH_ready (rs := [4]) (by kernel_rfl) (by simp) ?_
            refine AllReadyH.cons rfl (fun K hK => ?_) AllReadyH.nil
            go_simp
            refine hK.out _ _ (trivial) (fun hHeld2 => ?_)
            clear hK K hHeld
            have hHeld := hHeld2
            clear hHeld2
            try simp only [Act.put, List.setIfInBounds_toArray, List.set_cons_zero, List.set_cons_succ, List.getElem_toArray, List.getElem_cons_zero, List.getElem_cons_succ]
            refine wpAnyH_ready (rs := [8]) (by kernel_rfl) (by simp) ?_
            refine AllReadyH.cons rfl (fun K hK => ?_) AllReadyH.nil
            refine wp_append_lies _ (.tmp 16) (.tmp 19) 24 rfl (D + 1) 9 i0 (.string ⟨#[]⟩) 1 16 Try.underlying24 hi hz0 hz1 hz2 rfl (by decide) (.slice pv k cv) k _ rfl HROW2.out ⟨W1.heap.size, 0, none⟩ 1 1 [.string zst] rfl rfl (HLIT.out.cells rfl) (by simp; rfl) (by decide) (by unfold maxLen; omega) (by omega) (by have := HB2.out.size; omega) _ rfl ?_
            intro g4 c4 w4 hrow4 hg4 _ _
            have hD4 : w4.heap[D]? = some (.cells #[.slice pv k cv, .slice none 0 0, .slice none 0 0, .int .i64 (-1)] 76 (0, 0)) := (Chg.grown hg4).box HD2.out (fun e => by
              have := (HROW2.out.lt D e.symm).1
              omega)
            have HD4 := Lib.hid hD4
            have HROW4 := Lib.hid (show w4.ownsRow (D + 1) 9 1 (.slice (some ⟨g4, 0, none⟩) (k + 1) c4) (k + 1) (sCells (zeroS (k + 1))) by rw [sCells_zero]; exact hrow4)
            have hW2b := HB.out.trans (HB2.out.mono HB.out.size)
            have HB4 := Lib.hid (show Below w.heap.size w w4 from (Chg.grown hg4).on hW2b hW2b.size (fun b e => by have := (HROW2.out.lt b e.symm).1; have := HD.out; omega))
            have kd4 : w4.cell? ⟨D, 0, none⟩ = some (.slice pv k cv) := by rw [cell_in hD4]; rfl
            have fd4 := frozen_in hD4 0
            clear hrow4 hg4 hW2b
            refine hK.out _ _ (trivial) (fun hHeld2 => ?_)
            clear hK K hHeld
            have hHeld := hHeld2
            clear hHeld2
            try simp only [Act.put, List.setIfInBounds_toArray, List.set_cons_zero, List.set_cons_succ, List.getElem_toArray, List.getElem_cons_zero, List.getElem_cons_succ]
            refine wpAnyH_take (i := 9) (v := ?_) rfl (by kernel_rfl) (by kernel_rfl) (by kernel_rfl) (fun _ _ _ h => h) (Or.inl ⟨by rfl, ?_⟩) (by assumption) ?_
            rotate_left
            · (intro w hSw; (try dsimp only at hSw); go_simp; try (with_reducible rfl))
            try simp only [Act.put, List.setIfInBounds_toArray, List.set_cons_zero, List.set_cons_succ, List.getElem_toArray, List.getElem_cons_zero, List.getElem_cons_succ]
            refine wpAnyH_take (i := 10) (v := ?_) rfl (by kernel_rfl) (by kernel_rfl) (by kernel_rfl) (fun _ _ _ h => h) (Or.inl ⟨by rfl, ?_⟩) (by assumption) ?_
            rotate_left
            · (intro w hSw; (try dsimp only at hSw); go_simp; try (with_reducible rfl))
            try simp only [Act.put, List.setIfInBounds_toArray, List.set_cons_zero, List.set_cons_succ, List.getElem_toArray, List.getElem_cons_zero, List.getElem_cons_succ]
            refine wpAnyH_ready (rs := [11]) (by kernel_rfl) (by simp) ?_
            refine AllReadyH.cons rfl (fun K hK => ?_) AllReadyH.nil
            go_simp
            refine hK.out _ _ (trivial) (fun hHeld2 => ?_)
            clear hK K hHeld
            have hHeld := hHeld2
            clear hHeld2
            try simp only [Act.put, List.setIfInBounds_toArray, List.set_cons_zero, List.set_cons_succ, List.getElem_toArray, List.getElem_cons_zero, List.getElem_cons_succ]
            refine wpAnyH_done (by kernel_rfl) ?_ _
            refine NoPanic.normal ?_
            clear hHeld
            go_wp2
            have hD4' := setCell_eq_setRow w4 D 0 _ _ _ (.slice (some ⟨g4, 0, none⟩) (k + 1) c4) HD4.out
            have hD5 : (w4.setCell ⟨D, 0, none⟩ (.slice (some ⟨g4, 0, none⟩) (k + 1) c4)).heap[D]? = some (.cells #[.slice (some ⟨g4, 0, none⟩) (k + 1) c4, .slice none 0 0, .slice none 0 0, .int .i64 (-1)] 76 (0, 0)) := by
              rw [hD4', setRow_heap w4 D _ _ _ _ HD4.out]
              rfl
            have hc5 := Chg.setCell w4 ⟨D, 0, none⟩ (.slice (some ⟨g4, 0, none⟩) (k + 1) c4)
            have hR5 := hc5.own HROW4.out (fun b hb e => by
              have := (HROW4.out.lt b hb).1
              have e' : b = D := e
              omega)
            have hB5 := hc5.on HB4.out HB4.out.size (fun b e => by
              have e' : b = D := e
              rw [e', ← HD.out]
              exact Nat.le_refl _)
            have HD5 := Lib.hid hD5
            have HR5 := Lib.hid hR5
            have HB5 := Lib.hid hB5
            clear hD4 hD4' hD5 hc5 hR5 hB5
            go_roundw
            case rel => exact ⟨k + 1, some ⟨g4, 0, none⟩, c4, by omega, by go_num, HD5, HR5, HB5⟩
            case measure => simp [intOf]; omega
    · have d1 : decide ((k : Int) < (n : Int)) = false := decide_eq_false (by omega)
      have d1' : decide (k < n) = false := decide_eq_false hlt
      obtain rfl : k = n := by omega
      go_wp2
      go_ret
      refine ⟨rfl, ⟨?_, ?_, Nat.le_refl _, World.ownsRow_nil _ _ _ _, World.ownsRow_nil _ _ _ _⟩, by rw [← HD.out]; exact HB.out⟩
      · have hzl : (zeroS k).length = k := by simp [zeroS]
        rcases HROW.out.2 with ⟨hv, h0⟩ | ⟨gr, cap, cur, hv, hb, hg, hn2, hm, hs, ht⟩
        · omega
        · refine ⟨gr, cap, by rw [hzl, ← hv]; exact HDW.out, fun j u hj => ?_, (Array.getElem?_eq_some_iff.1 hg).1, by omega, (Array.getElem?_eq_some_iff.1 hg).1⟩
          rw [Nat.zero_add, cell_in hg, ← Array.getElem?_toList]
          rw [← ht, List.getElem?_take] at hj
          split at hj
          · exact hj
          · cases hj
      · exact (Array.getElem?_eq_some_iff.1 HDW.out).1
end Go.Proofs.Ytgcifhhbhoafcaa

namespace Go.Proofs.Ytgcifhhbhoafcaa
open Go.RowKit Go.Shelf
attribute [local go_sem] Oper.semAt_some

theorem info_ints : (Try.prog.info? 3).map (fun i => (i.zero, i.size, i.bytes)) = some (some (.int .i64 0), 1, 8) := by kernel_rfl
theorem row_slice {w : World} {lo : Nat} {e : TypeId} {sz : Nat} {v : Value} {n : Nat} {xs : List Value} (h : w.ownsRow lo e sz v n xs) : ∃ p c, v = .slice p n c := by
  rcases h.2 with ⟨rfl, h0⟩ | ⟨g, cap, cur, rfl, _⟩
  · exact ⟨none, 0, by rw [h0]⟩
  · exact ⟨_, _, rfl⟩
theorem ra_there {w : World} {D lo : Nat} {S : List Sec} {va vw : Value} {pos : List Nat} {B : List Sec} (H : RA w D lo S va vw pos B) (a n : Nat) (h1 : 1 ≤ n) (h2 : a + n ≤ S.length) (hM : S.length ≤ 1000000) :
    Calls Try.prog 34 #[.pointer (some ⟨D, 0, none⟩), .int .i64 a, .int .i64 n] w fun e w' => e = .returned (.bool true) ∧ w = w' := by
  obtain ⟨gs, cs, hb, _⟩ := H.box
  have k0 : w.cell? ⟨D, 0, none⟩ = some (.slice (some ⟨gs, 0, none⟩) S.length cs) := by rw [cell_in hb]; rfl
  obtain ⟨M, hM0⟩ : ∃ M, S.length = M := ⟨_, rfl⟩
  rw [hM0] at k0 h2 hM
  have d1 : decide ((1 : Int) ≤ (n : Int)) = true := decide_eq_true (by omega)
  have d2 : decide ((0 : Int) ≤ (a : Int)) = true := decide_eq_true (by omega)
  have d3 : decide ((a : Int) < (M : Int)) = true := decide_eq_true (by omega)
  have d4 : decide ((n : Int) ≤ (M : Int) - (a : Int)) = true := decide_eq_true (by omega)
  clear hM0 hb H
  go_enter Try.func34, Try.ntmps34
  go_wp2
  go_ret
  exact ⟨rfl, rfl⟩
theorem ra_there0 {w : World} {D lo : Nat} {S : List Sec} {va vw : Value} {pos : List Nat} {B : List Sec} (_H : RA w D lo S va vw pos B) (a : Nat) :
    Calls Try.prog 34 #[.pointer (some ⟨D, 0, none⟩), .int .i64 a, .int .i64 0] w fun e w' => e = .returned (.bool false) ∧ w = w' := by
  go_enter Try.func34, Try.ntmps34
  go_wp2
  go_ret
  exact ⟨rfl, rfl⟩
theorem ra_on {w : World} {D lo : Nat} {S : List Sec} {va vw : Value} {pos : List Nat} {B : List Sec} (H : RA w D lo S va vw pos B) :
    Calls Try.prog 35 #[.pointer (some ⟨D, 0, none⟩)] w fun e w' => e = .returned (.bool true) ∧ w = w' := by
  obtain ⟨gs, cs, hb, _⟩ := H.box
  have k3 : w.cell? ⟨D, 3, none⟩ = some (.int .i64 (-1)) := by rw [cell_in hb]; rfl
  clear hb H
  go_enter Try.func35, Try.ntmps35
  go_wp2
  go_ret
  exact ⟨rfl, rfl⟩
theorem cut_nil (p : Option Addr) (c : Nat) (w : World) :
    Calls Try.prog 8 #[.slice p 0 c] w fun e w' => e = .returned (.slice none 0 0) ∧ w = w' := by
  go_enter Try.func8, Try.ntmps8
  go_wp2
  go_loopw [0, 3] (fun s0 s3 wr => s0 = .slice p 0 c ∧ s3 = .slice none 0 0 ∧ wr = w) (fun _ _ _ => 0)
  case atStart => exact ⟨rfl, rfl, rfl⟩
  case round =>
    obtain ⟨rfl, rfl, rfl⟩ := hrel
    go_wp2
    go_ret
    exact ⟨rfl, rfl⟩
/-- A write of no bytes is no write. -/
theorem refwrite_nil {w : World} {D lo : Nat} {S : List Sec} {va vw : Value} {pos : List Nat} {B : List Sec} (H : RA w D lo S va vw pos B) (a : Nat) (p : Option Addr) (c : Nat) :
    Calls Try.prog 12 #[.pointer (some ⟨D, 0, none⟩), .int .i64 a, .slice p 0 c] w fun e w' => e = .returned (.int .i64 2) ∧ w = w' := by
  have h1 := cut_nil p c w
  have h2 := ra_there0 H a
  clear H
  go_enter Try.func12, Try.ntmps12
  go_wp2_with fail
  refine h1.mono ?_
  rintro e w1 ⟨rfl, rfl⟩
  go_wp2_with fail
  refine h2.mono ?_
  rintro e w1 ⟨rfl, rfl⟩
  go_wp2
  go_ret
  exact ⟨rfl, rfl⟩

set_option maxRecDepth 20000 in
set_option maxHeartbeats 8000000 in
theorem refwrite_any {w : World} {D lo : Nat} {S : List Sec} {va0 vw0 : Value} {pos : List Nat} {B : List Sec} (H : RA w D lo S va0 vw0 pos B) (a : Nat) (b o c : Nat) (data : List UInt8) (h1 : 1 ≤ data.length) (hl : data.length ≤ 100000) (hc0 : data.length ≤ c) (hc : c ≤ 9223372036854775807) (hat : a + (data.length + 63) / 64 ≤ S.length) (hS : S.length ≤ 1000) (hpb : pos.length ≤ 1000 ∧ B.length ≤ 1000) (hr : w.rangeAt b o (bCells data)) :
    Calls Try.prog 12 #[.pointer (some ⟨D, 0, none⟩), .int .i64 a, .slice (some ⟨b, o, none⟩) data.length c] w fun e w' => e = .returned (.int .i64 0) ∧ ∃ va vw, RA w' D lo S va vw (pos ++ (List.range (cutS data).length).map (a + ·)) (B ++ cutS data) ∧ Chg (fun k => k = D ∨ va0.ownBlock = some k ∨ vw0.ownBlock = some k) w w' := by
  have hbw : b < w.heap.size := (by
    refine World.block_lt_of_cell? w _ (hr 0 _ (List.getElem?_eq_getElem ?_))
    rw [bCells_len]
    omega)
  have hcut := cut_any b o c data (by omega) hc0 hc w hr hbw
  have hcl := cutS_len data
  obtain ⟨L, hL⟩ : ∃ L, L = cutS data := ⟨_, rfl⟩
  rw [← hL] at hcut hcl ⊢
  obtain ⟨M, hM⟩ : ∃ M, M = L.length := ⟨_, rfl⟩
  rw [← hM] at hcut ⊢
  have hM1 : 1 ≤ M := by omega
  have haM : a + M ≤ S.length := by omega
  have HM := Lib.hid hM
  have HH := Lib.hid H
  clear hL hcl hr H hM
  obtain ⟨i0, hi, hz0, hz1, hz2⟩ := info_parts info_ints
  obtain ⟨i1, hj, hy0, hy1, hy2⟩ := info_parts info_strs
  go_enter Try.func12, Try.ntmps12
  go_wp2_with fail
  refine hcut.mono ?_
  clear hcut
  rintro e w1 ⟨v, rfl, hrow, hb1⟩
  have hrow' : w1.ownsRow w.heap.size 9 1 v L.length (sCells L) := by rw [← HM.out]; exact hrow
  obtain ⟨pl, cl, rfl, hrg⟩ := strs_of_owns hrow'
  obtain ⟨gl, rfl, hrl, hgl, hgw⟩ := hrg (by rw [← HM.out]; omega)
  rw [← HM.out]
  have H1 := HH.out.on hb1
  have hth := ra_there H1 a M hM1 haM (by omega)
  have hon := ra_on H1
  have HR1 := Lib.hid H1
  have HRL := Lib.hid hrl
  have HB1 := Lib.hid hb1
  have hGL : gl ≠ D ∧ va0.ownBlock ≠ some gl ∧ vw0.ownBlock ≠ some gl := by
    have h2 := HH.out.lt
    refine ⟨by omega, fun e => ?_, fun e => ?_⟩
    · have := (HH.out.at_.lt gl e).2
      omega
    · have := (HH.out.what.lt gl e).2
      omega
  have HGL := Lib.hid hGL
  clear hrow hrow' hrg hb1 H1 hrl hGL
  go_wp2_with fail
  refine hth.mono ?_
  rintro e w2 ⟨rfl, hw2⟩
  obtain rfl := hw2
  go_wp2_with fail
  refine hon.mono ?_
  rintro e w2 ⟨rfl, hw2⟩
  obtain rfl := hw2
  clear hth hon
  go_wp2
  go_loopw [8] (fun s8 wr => ∃ i : Nat, ∃ va vw, i ≤ M ∧ s8 = .int .i64 i ∧ Hid (RA wr D lo S va vw (pos ++ (List.range i).map (a + ·)) (B ++ L.take i)) ∧ Hid (wr.rangeAt gl 0 (sCells L) ∧ gl < wr.heap.size ∧ va.ownBlock ≠ some gl ∧ vw.ownBlock ≠ some gl) ∧ Hid (Chg (fun k => k = D ∨ va0.ownBlock = some k ∨ vw0.ownBlock = some k) w wr) ∧ Hid (∀ k, (va.ownBlock = some k → va0.ownBlock = some k ∨ w.heap.size ≤ k) ∧ (vw.ownBlock = some k → vw0.ownBlock = some k ∨ w.heap.size ≤ k))) (fun s8 _ => M - (intOf s8).toNat)
  case atStart => exact ⟨0, va0, vw0, Nat.zero_le _, rfl, Lib.hid (by simpa using HR1.out), Lib.hid ⟨HRL.out, hgl, HGL.out.2⟩, Lib.hid (Chg.below HB1.out _), Lib.hid (fun k => ⟨.inl, .inl⟩)⟩
  case round =>
    clear HR1 HRL
    obtain ⟨i, va, vw, hi0, rfl, HRA, HRL, HC, HV⟩ := hrel
    by_cases hlt : i < M
    · have e1 : decide ((i : Int) < (M : Int)) = true := decide_eq_true (by omega)
      have e1' : decide (i < M) = true := decide_eq_true hlt
      have hil : i < L.length := by have := HM.out; omega
      obtain ⟨pos', hpos'⟩ : ∃ pos', pos ++ (List.range i).map (a + ·) = pos' := ⟨_, rfl⟩
      obtain ⟨B', hB'⟩ : ∃ B', B ++ L.take i = B' := ⟨_, rfl⟩
      have HPN := Lib.hid (show pos ++ (List.range (i + 1)).map (a + ·) = pos' ++ [a + i] by rw [← hpos', List.range_succ, List.map_append, List.append_assoc]; rfl)
      have HBN := Lib.hid (show B ++ L.take (i + 1) = B' ++ [L[i]] by rw [← hB', List.take_succ_eq_append_getElem hil, List.append_assoc])
      have hpl2 : pos'.length ≤ 3000 := by rw [← hpos', List.length_append, List.length_map, List.length_range]; omega
      have hbl2 : B'.length ≤ 3000 := by rw [← hB', List.length_append, List.length_take]; omega
      rw [hpos', hB'] at HRA
      obtain ⟨x, hx⟩ : ∃ x, L[i] = x := ⟨_, rfl⟩
      rw [hx] at HBN
      obtain ⟨pa, ca, rfl⟩ := row_slice HRA.out.at_
      obtain ⟨pw, cw, rfl⟩ := row_slice HRA.out.what
      obtain ⟨np, hnp⟩ : ∃ np, pos'.length = np := ⟨_, rfl⟩
      obtain ⟨nb, hnb⟩ : ∃ nb, B'.length = nb := ⟨_, rfl⟩
      rw [hnp] at HRA HRL HV hpl2
      rw [hnb] at HRA HRL HV hbl2
      obtain ⟨st, hst⟩ : ∃ st, bs x = st := ⟨_, rfl⟩
      have hcl : wr.cell? ⟨gl, i, none⟩ = some (.string st) := by
        have := sCells_at HRL.out.1 i hil
        rwa [Nat.zero_add, hx, hst] at this
      have HX := Lib.hid hx
      have HST := Lib.hid hst
      have HNP := Lib.hid hnp
      have HNB := Lib.hid hnb
      obtain ⟨A, hA⟩ : ∃ A, A = a + i := ⟨_, rfl⟩
      have hAi : (a : Int) + (i : Int) = (A : Int) := by omega
      rw [← hA] at HPN
      have kd1 : wr.cell? ⟨D, 1, none⟩ = some (.slice pa np ca) := by
        obtain ⟨gs, cs, hb, _⟩ := HRA.out.box
        rw [cell_in hb]; rfl
      have hDl := HRA.out.lt
      have hlol := HRA.out.lolow
      have hlo := HRA.out.dlo
      obtain ⟨W1, hW1⟩ : ∃ W1, wr.alloc (.cells #[.int .i64 (A : Int)] 3) = W1 := ⟨_, rfl⟩
      have hb1 : Below wr.heap.size wr W1 := by rw [← hW1]; exact bA (Below.refl _ _) _
      have hlit : W1.ownsRow wr.heap.size 3 1 (.slice (some ⟨wr.heap.size, 0, none⟩) 1 1) 1 [.int .i64 (A : Int)] := by rw [← hW1]; exact World.ownsRow_lit wr #[.int .i64 (A : Int)] 1 (Nat.le_refl _) (by decide) rfl
      have hR1 := HRA.out.on hb1
      have hat1 : W1.ownsRow lo 3 1 (.slice pa np ca) np (pCells pos') := by have := hR1.at_; rwa [HNP.out] at this
      have HLIT := Lib.hid hlit
      have HAT1 := Lib.hid hat1
      have HRA1 := Lib.hid hR1
      have HB1' := Lib.hid hb1
      have HW1 := Lib.hid hW1
      have HIN := Lib.hid (show (W1.rangeAt gl 0 (sCells L) ∧ gl < W1.heap.size) ∧ lo ≤ W1.heap.size from ⟨⟨(Chg.below hb1 (fun _ => False)).range HRL.out.1 (fun e => e), Nat.lt_of_lt_of_le HRL.out.2.1 hb1.size⟩, Nat.le_trans hlol hb1.size⟩)
      have j0 : (0 : Int) ≤ (i : Int) := by omega
      have j1 : (i : Int) < (M : Int) := by omega
      clear hpos' hB' hx hst hnp hnb hA hlit hat1 hR1 hb1
      go_wp2_with (at_builtin; refine wpList_append_lies _ rfl (.tmp 30) (.tmp 34) 59 rfl lo 3 i0 (.int .i64 0) 1 8 Try.underlying59 hi hz0 hz1 hz2 rfl (by decide) _ np _ rfl HAT1.out ⟨wr.heap.size, 0, none⟩ 1 1 [.int .i64 (A : Int)] rfl rfl (HLIT.out.cells rfl) (by simp; rfl) (by decide) (by unfold maxLen; omega) (by omega) HIN.out.2 _ rfl ?_; intro g2 cap2 w2 hrow2 hg2 hgg2 hg2l; have HRW2 := Lib.hid (show _ ∧ W1.grownBy w2 (Value.slice pa np ca).ownBlock ∧ ((Value.slice pa np ca).ownBlock = some g2 ∨ g2 = W1.heap.size) ∧ _ from ⟨hrow2, hg2, hgg2, hg2l⟩); clear hrow2 hg2 hgg2 hg2l; have kd2 : w2.cell? ⟨D, 1, none⟩ = some (.slice pa np ca) := (by obtain ⟨gs, cs, hb, _⟩ := HRA1.out.box; rw [cell_in ((Chg.grown HRW2.out.2.1).box hb (fun e => by have := (HAT1.out.lt D e.symm).1; omega))]; rfl); have fd2 : w2.frozen? ⟨D, 1, none⟩ = false := (by obtain ⟨gs, cs, hb, _⟩ := HRA1.out.box; exact frozen_in ((Chg.grown HRW2.out.2.1).box hb (fun e => by have := (HAT1.out.lt D e.symm).1; omega)) 1))
      obtain ⟨w3, hw3⟩ : ∃ w3, w2.setCell ⟨D, 1, none⟩ (.slice (some ⟨g2, 0, none⟩) (np + 1) cap2) = w3 := ⟨_, rfl⟩
      have hRA3 := HRA1.out.grow_at (va' := .slice (some ⟨g2, 0, none⟩) (np + 1) cap2) A (by rw [HNP.out]; exact HRW2.out.1) HRW2.out.2.1
      have hc23 := Chg.setCell w2 ⟨D, 1, none⟩ (.slice (some ⟨g2, 0, none⟩) (np + 1) cap2)
      rw [hw3] at hRA3 hc23
      try rw [hw3]
      have hc13 : Chg (fun k => (Value.slice pa np ca).ownBlock = some k ∨ k = D) W1 w3 := ((Chg.grown HRW2.out.2.1).weaken (fun k _ e => .inl e.symm)).trans (hc23.weaken (fun k _ e => .inr e))
      have hgl2 : g2 ≠ gl := by
        rcases HRW2.out.2.2.1 with e | e
        · exact fun e2 => HRL.out.2.2.1 (by rw [e, e2])
        · have := HIN.out.1.2
          omega
      have hrl3 : w3.rangeAt gl 0 (sCells L) := hc13.range HIN.out.1.1 (by rintro (e | e); exact HRL.out.2.2.1 e; exact HGL.out.1 e)
      have hgl3 : gl < w3.heap.size := Nat.lt_of_lt_of_le HIN.out.1.2 hc13.size
      have hcl3 : w3.cell? ⟨gl, i, none⟩ = some (.string st) := by
        have := sCells_at hrl3 i hil
        have h5 := HX.out
        rwa [Nat.zero_add, h5, HST.out] at this
      have kd3 : w3.cell? ⟨D, 2, none⟩ = some (.slice pw nb cw) := by
        obtain ⟨gs, cs, hb, _⟩ := hRA3.box
        rw [cell_in hb]; rfl
      obtain ⟨W4, hW4⟩ : ∃ W4, (w3.alloc (.cells #[.string st] 9)).drew = W4 := ⟨_, rfl⟩
      have hb4 : Below w3.heap.size w3 W4 := by rw [← hW4]; exact bD (bA (Below.refl _ _) _)
      have hlit4 : W4.ownsRow w3.heap.size 9 1 (.slice (some ⟨w3.heap.size, 0, none⟩) 1 1) 1 [.string st] := by
        rw [← hW4]
        have h := World.ownsRow_lit (e := 9) (size := 1) w3 #[.string st] 1 (Nat.le_refl _) (by decide) rfl
        exact (Chg.drew (fun _ => False) _).own h (fun _ _ e => e)
      have hc4 := Chg.below hb4 (fun _ => False)
      have hRA4 := hRA3.on hb4
      have hwh4 : W4.ownsRow lo 9 1 (.slice pw nb cw) nb (sCells B') := by have := hRA4.what; rwa [HNB.out] at this
      have hcl4 : W4.cell? ⟨gl, i, none⟩ = some (.string st) := by
        have := hc4.range hrl3 (fun e => e)
        have h5 := sCells_at this i hil
        have h6 := HX.out
        rwa [Nat.zero_add, h6, HST.out] at h5
      have kd4 : W4.cell? ⟨D, 2, none⟩ = some (.slice pw nb cw) := by
        obtain ⟨gs, cs, hb, _⟩ := hRA4.box
        rw [cell_in hb]; rfl
      have HRA3 := Lib.hid hRA3
      have HRA4 := Lib.hid hRA4
      have HLIT4 := Lib.hid hlit4
      have HWH4 := Lib.hid hwh4
      have HW4 := Lib.hid hW4
      have HB4 := Lib.hid hb4
      have HC13 := Lib.hid hc13
      have HGL2 := Lib.hid hgl2
      have HRL3 := Lib.hid (show _ ∧ _ from ⟨hrl3, hgl3⟩)
      have HLO4 := Lib.hid hRA4.lolow
      have HCL4 := Lib.hid hcl4
      clear hw3 hRA3 hc23 hc13 hrl3 hgl3 hgl2 hW4 hb4 hlit4 hc4 hRA4 hwh4 hcl
      refine wp_region_noPanic ?_
      refine wp_region_held_drew (S := fun W => W.cell? ⟨gl, i, none⟩ = some (.string st)) (by kernel_rfl) ((by exact hcl3)) (fun hHeld => ?_)
      refine wpAnyH_take (i := 0) (v := ?_) rfl (by kernel_rfl) (by kernel_rfl) (by kernel_rfl) (fun _ _ _ h => h) (Or.inl ⟨by rfl, ?_⟩) (by assumption) ?_
      rotate_left
      · (intro w hSw; (try dsimp only at hSw); go_simp; try (with_reducible rfl))
      try simp only [Act.put, List.setIfInBounds_toArray, List.set_cons_zero, List.set_cons_succ, List.getElem_toArray, List.getElem_cons_zero]
      refine wpAnyH_take (i := 1) (v := ?_) rfl (by kernel_rfl) (by kernel_rfl) (by kernel_rfl) (fun _ _ _ h => h) (Or.inl ⟨by rfl, ?_⟩) (by assumption) ?_
      rotate_left
      · (intro w hSw; (try dsimp only at hSw); go_simp; try (with_reducible rfl))
      try simp only [Act.put, List.setIfInBounds_toArray, List.set_cons_zero, List.set_cons_succ, List.getElem_toArray, List.getElem_cons_zero, List.getElem_cons_succ]
      refine wpAnyH_take (i := 2) (v := ?_) rfl (by kernel_rfl) (by kernel_rfl) (by kernel_rfl) (fun _ _ _ h => h) (Or.inl ⟨by rfl, ?_⟩) (by assumption) ?_
      rotate_left
      · (intro w hSw; (try dsimp only at hSw); go_simp; try (with_reducible rfl))
      try simp only [Act.put, List.setIfInBounds_toArray, List.set_cons_zero, List.set_cons_succ, List.getElem_toArray, List.getElem_cons_zero, List.getElem_cons_succ]
      refine wpAnyH_take (i := 3) (v := ?_) rfl (by kernel_rfl) (by kernel_rfl) (by kernel_rfl) (fun _ _ _ h => h) (Or.inl ⟨by rfl, ?_⟩) (by assumption) ?_
      rotate_left
      · (intro w hSw; (try dsimp only at hSw); go_simp; try (with_reducible rfl))
      try simp only [Act.put, List.setIfInBounds_toArray, List.set_cons_zero, List.set_cons_succ, List.getElem_toArray, List.getElem_cons_zero, List.getElem_cons_succ]
      refine wpAnyH_take (i := 5) (v := ?_) rfl (by kernel_rfl) (by kernel_rfl) (by kernel_rfl) (fun _ _ _ h => h) (Or.inl ⟨by rfl, ?_⟩) (by assumption) ?_
      rotate_left
      · (intro w hSw; (try dsimp only at hSw); go_simp; try (with_reducible rfl))
      try simp only [Act.put, List.setIfInBounds_toArray, List.set_cons_zero, List.set_cons_succ, List.getElem_toArray, List.getElem_cons_zero, List.getElem_cons_succ]
      refine wpAnyH_take (i := 6) (v := ?_) rfl (by kernel_rfl) (by kernel_rfl) (by kernel_rfl) (fun _ _ _ h => h) (Or.inl ⟨by rfl, ?_⟩) (by assumption) ?_
      rotate_left
      · (intro w hSw; (try dsimp only at hSw); go_simp; try (with_reducible rfl))
      try simp only [Act.put, List.setIfInBounds_toArray, List.set_cons_zero, List.set_cons_succ, List.getElem_toArray, List.getElem_cons_zero, List.getElem_cons_succ]
      refine wpAnyH_take (i := 7) (v := ?_) rfl (by kernel_rfl) (by kernel_rfl) (by kernel_rfl) (fun _ _ _ h => h) (Or.inl ⟨by rfl, ?_⟩) (by assumption) ?_
      rotate_left
      · (intro w hSw; (try dsimp only at hSw); go_simp; try (with_reducible rfl))
      try simp only [Act.put, List.setIfInBounds_toArray, List.set_cons_zero, List.set_cons_succ, List.getElem_toArray, List.getElem_cons_zero, List.getElem_cons_succ]
      refine wpAnyH_take (i := 8) (v := ?_) rfl (by kernel_rfl) (by kernel_rfl) (by kernel_rfl) (fun _ _ _ h => h) (Or.inl ⟨by rfl, ?_⟩) (by assumption) ?_
      rotate_left
      · (intro w hSw; (try dsimp only at hSw); go_simp; try (with_reducible rfl))
      try simp only [Act.put, List.setIfInBounds_toArray, List.set_cons_zero, List.set_cons_succ, List.getElem_toArray, List.getElem_cons_zero, List.getElem_cons_succ]
      refine wpAnyH_ready (rs := [4, 9]) (by kernel_rfl) (by simp) ?_
      refine AllReadyH.cons rfl (fun K hK => ?_) (AllReadyH.cons rfl (fun K hK => ?_) AllReadyH.nil)
      · go_simp
        refine hK.out _ _ ((by exact hcl3)) (fun hHeld2 => ?_)
        clear hK K hHeld
        have hHeld := hHeld2
        clear hHeld2
        try simp only [Act.put, List.setIfInBounds_toArray, List.set_cons_zero, List.set_cons_succ, List.getElem_toArray, List.getElem_cons_zero, List.getElem_cons_succ]
        refine wpAnyH_ready (rs := [9]) (by kernel_rfl) (by simp) ?_
        refine AllReadyH.cons rfl (fun K hK => ?_) AllReadyH.nil
        go_simp
        first | rw [HW4.out] | skip
        refine hK.out _ _ ((by exact hcl4)) (fun hHeld2 => ?_)
        clear hK K hHeld
        have hHeld := hHeld2
        clear hHeld2
        try simp only [Act.put, List.setIfInBounds_toArray, List.set_cons_zero, List.set_cons_succ, List.getElem_toArray, List.getElem_cons_zero, List.getElem_cons_succ]
        refine wpAnyH_ready (rs := [10]) (by kernel_rfl) (by simp) ?_
        refine AllReadyH.cons rfl (fun K hK => ?_) AllReadyH.nil
        refine wp_append_lies _ (.tmp 42) (.tmp 47) 24 rfl lo 9 i1 (.string ⟨#[]⟩) 1 16 Try.underlying24 hj hy0 hy1 hy2 rfl (by decide) (.slice pw nb cw) nb _ rfl HWH4.out ⟨w3.heap.size, 0, none⟩ 1 1 [.string st] rfl rfl (HLIT4.out.cells rfl) (by simp; rfl) (by decide) (by unfold maxLen; omega) (by omega) HLO4.out _ rfl ?_
        intro g5 cap5 w5 hrow5 hg5 hgg5 hg5l
        have hc5 := Chg.grown hg5
        have hcl5 : w5.cell? ⟨gl, i, none⟩ = some (.string st) := by
          have h4 := hc5.range ((Chg.below HB4.out (fun _ => False)).range HRL3.out.1 (fun e => e)) (fun e => HRL.out.2.2.2 e.symm)
          have h5 := sCells_at h4 i hil
          have h6 := HX.out
          rwa [Nat.zero_add, h6, HST.out] at h5
        have HRW5 := Lib.hid (show _ ∧ W4.grownBy w5 (Value.slice pw nb cw).ownBlock ∧ ((Value.slice pw nb cw).ownBlock = some g5 ∨ g5 = W4.heap.size) ∧ _ from ⟨hrow5, hg5, hgg5, hg5l⟩)
        have kd5 : w5.cell? ⟨D, 2, none⟩ = some (.slice pw nb cw) := by
          obtain ⟨gs, cs, hb, _⟩ := HRA4.out.box
          rw [cell_in (hc5.box hb (fun e => by have := (HWH4.out.lt D e.symm).1; omega))]; rfl
        have fd5 : w5.frozen? ⟨D, 2, none⟩ = false := by
          obtain ⟨gs, cs, hb, _⟩ := HRA4.out.box
          exact frozen_in (hc5.box hb (fun e => by have := (HWH4.out.lt D e.symm).1; omega)) 2
        clear hrow5 hg5 hgg5 hg5l hc5
        refine hK.out _ _ ((by exact hcl5)) (fun hHeld2 => ?_)
        clear hK K hHeld
        have hHeld := hHeld2
        clear hHeld2
        try simp only [Act.put, List.setIfInBounds_toArray, List.set_cons_zero, List.set_cons_succ, List.getElem_toArray, List.getElem_cons_zero, List.getElem_cons_succ]
        refine wpAnyH_take (i := 11) (v := ?_) rfl (by kernel_rfl) (by kernel_rfl) (by kernel_rfl) (fun _ _ _ h => h) (Or.inl ⟨by rfl, ?_⟩) (by assumption) ?_
        rotate_left
        · (intro w hSw; (try dsimp only at hSw); go_simp; try (with_reducible rfl))
        try simp only [Act.put, List.setIfInBounds_toArray, List.set_cons_zero, List.set_cons_succ, List.getElem_toArray, List.getElem_cons_zero, List.getElem_cons_succ]
        refine wpAnyH_take (i := 12) (v := ?_) rfl (by kernel_rfl) (by kernel_rfl) (by kernel_rfl) (fun _ _ _ h => h) (Or.inl ⟨by rfl, ?_⟩) (by assumption) ?_
        rotate_left
        · (intro w hSw; (try dsimp only at hSw); go_simp; try (with_reducible rfl))
        try simp only [Act.put, List.setIfInBounds_toArray, List.set_cons_zero, List.set_cons_succ, List.getElem_toArray, List.getElem_cons_zero, List.getElem_cons_succ]
        refine wpAnyH_ready (rs := [13]) (by kernel_rfl) (by simp) ?_
        refine AllReadyH.cons rfl (fun K hK => ?_) AllReadyH.nil
        go_simp
        refine hK.out _ _ ((by exact ((Chg.setCell w5 ⟨D, 2, none⟩ _).range (vs := [.string st]) (o := i) (b := gl) (fun j u hj => by match j, hj with | 0, hj => (cases hj; exact hcl5) | j + 1, hj => (cases hj)) (fun e => HGL.out.1 e)) 0 _ rfl)) (fun hHeld2 => ?_)
        clear hK K hHeld
        have hHeld := hHeld2
        clear hHeld2
        try simp only [Act.put, List.setIfInBounds_toArray, List.set_cons_zero, List.set_cons_succ, List.getElem_toArray, List.getElem_cons_zero, List.getElem_cons_succ]
        refine wpAnyH_done (by kernel_rfl) ?_ _
        refine NoPanic.normal ?_
        clear hHeld
        have hRA6 := HRA4.out.grow_what (vw' := .slice (some ⟨g5, 0, none⟩) (nb + 1) cap5) x (by rw [HNB.out, HST.out]; exact HRW5.out.1) HRW5.out.2.1
        have hc56 := Chg.setCell w5 ⟨D, 2, none⟩ (.slice (some ⟨g5, 0, none⟩) (nb + 1) cap5)
        have hc36 : Chg (fun k => (Value.slice pw nb cw).ownBlock = some k ∨ k = D) w3 (w5.setCell ⟨D, 2, none⟩ (.slice (some ⟨g5, 0, none⟩) (nb + 1) cap5)) := ((Chg.below HB4.out _).trans ((Chg.grown HRW5.out.2.1).weaken (fun k _ e => .inl e.symm))).trans (hc56.weaken (fun k _ e => .inr e))
        have hgl5 : g5 ≠ gl := by
          rcases HRW5.out.2.2.1 with e | e
          · exact fun e2 => HRL.out.2.2.2 (by rw [e, e2])
          · have := HRL3.out.2
            have := HB4.out.size
            omega
        have hrl6 := hc36.range HRL3.out.1 (by rintro (e | e); exact HRL.out.2.2.2 e; exact HGL.out.1 e)
        have hgl6 := Nat.lt_of_lt_of_le HRL3.out.2 hc36.size
        have hC6 : Chg (fun k => k = D ∨ va0.ownBlock = some k ∨ vw0.ownBlock = some k) w (w5.setCell ⟨D, 2, none⟩ (.slice (some ⟨g5, 0, none⟩) (nb + 1) cap5)) := by
          have hw1 := (HC.out.trans (Chg.below HB1'.out _)).size
          refine (((HC.out.trans (Chg.below HB1'.out _)).trans2 HC13.out (fun k hk e => ?_))).trans2 hc36 (fun k hk e => ?_)
          · rcases e with e | e
            · rcases (HV.out k).1 e with h | h
              · exact .inr (.inl h)
              · omega
            · exact .inl e
          · rcases e with e | e
            · rcases (HV.out k).2 e with h | h
              · exact .inr (.inr h)
              · omega
            · exact .inl e
        have hV6 : ∀ k, ((Value.slice (some ⟨g2, 0, none⟩) (np + 1) cap2).ownBlock = some k → va0.ownBlock = some k ∨ w.heap.size ≤ k) ∧ ((Value.slice (some ⟨g5, 0, none⟩) (nb + 1) cap5).ownBlock = some k → vw0.ownBlock = some k ∨ w.heap.size ≤ k) := fun k => by
          have hs1 := HC.out.size
          have hs2 := HB1'.out.size
          have hs3 := HC13.out.size
          have hs4 := HB4.out.size
          refine ⟨fun e => ?_, fun e => ?_⟩
          · have e' : g2 = k := by simpa [Value.ownBlock] using e
            rcases HRW2.out.2.2.1 with h | h
            · exact (HV.out k).1 (by rw [h, e'])
            · right
              omega
          · have e' : g5 = k := by simpa [Value.ownBlock] using e
            rcases HRW5.out.2.2.1 with h | h
            · exact (HV.out k).2 (by rw [h, e'])
            · right
              omega
        have HRA6 := Lib.hid hRA6
        have HRL6 := Lib.hid (show _ ∧ _ ∧ _ ∧ _ from ⟨hrl6, hgl6, (fun e => HGL2.out (by simpa [Value.ownBlock] using e) : (Value.slice (some ⟨g2, 0, none⟩) (np + 1) cap2).ownBlock ≠ some gl), (fun e => hgl5 (by simpa [Value.ownBlock] using e) : (Value.slice (some ⟨g5, 0, none⟩) (nb + 1) cap5).ownBlock ≠ some gl)⟩)
        have HC6 := Lib.hid hC6
        have HV6 := Lib.hid hV6
        clear hRA6 hc56 hc36 hgl5 hrl6 hgl6 hC6 hV6 hcl3 hcl4 hcl5 kd1 kd2 kd3 kd4 kd5 fd2 fd5
        go_wp2
        go_roundw
        case rel => exact ⟨i + 1, _, _, by omega, by go_num, Lib.hid (by rw [HPN.out, HBN.out]; exact HRA6.out), HRL6, HC6, HV6⟩
        case measure => simp [intOf]; omega
      · go_simp
        first | rw [HW4.out] | skip
        refine hK.out _ _ ((by exact hcl4)) (fun hHeld2 => ?_)
        clear hK K hHeld
        have hHeld := hHeld2
        clear hHeld2
        try simp only [Act.put, List.setIfInBounds_toArray, List.set_cons_zero, List.set_cons_succ, List.getElem_toArray, List.getElem_cons_zero, List.getElem_cons_succ]
        refine wpAnyH_ready (rs := [4]) (by kernel_rfl) (by simp) ?_
        refine AllReadyH.cons rfl (fun K hK => ?_) AllReadyH.nil
        go_simp
        refine hK.out _ _ ((by exact hcl4)) (fun hHeld2 => ?_)
        clear hK K hHeld
        have hHeld := hHeld2
        clear hHeld2
        try simp only [Act.put, List.setIfInBounds_toArray, List.set_cons_zero, List.set_cons_succ, List.getElem_toArray, List.getElem_cons_zero, List.getElem_cons_succ]
        refine wpAnyH_ready (rs := [10]) (by kernel_rfl) (by simp) ?_
        refine AllReadyH.cons rfl (fun K hK => ?_) AllReadyH.nil
        refine wp_append_lies _ (.tmp 42) (.tmp 47) 24 rfl lo 9 i1 (.string ⟨#[]⟩) 1 16 Try.underlying24 hj hy0 hy1 hy2 rfl (by decide) (.slice pw nb cw) nb _ rfl HWH4.out ⟨w3.heap.size, 0, none⟩ 1 1 [.string st] rfl rfl (HLIT4.out.cells rfl) (by simp; rfl) (by decide) (by unfold maxLen; omega) (by omega) HLO4.out _ rfl ?_
        intro g5 cap5 w5 hrow5 hg5 hgg5 hg5l
        have hc5 := Chg.grown hg5
        have hcl5 : w5.cell? ⟨gl, i, none⟩ = some (.string st) := by
          have h4 := hc5.range ((Chg.below HB4.out (fun _ => False)).range HRL3.out.1 (fun e => e)) (fun e => HRL.out.2.2.2 e.symm)
          have h5 := sCells_at h4 i hil
          have h6 := HX.out
          rwa [Nat.zero_add, h6, HST.out] at h5
        have HRW5 := Lib.hid (show _ ∧ W4.grownBy w5 (Value.slice pw nb cw).ownBlock ∧ ((Value.slice pw nb cw).ownBlock = some g5 ∨ g5 = W4.heap.size) ∧ _ from ⟨hrow5, hg5, hgg5, hg5l⟩)
        have kd5 : w5.cell? ⟨D, 2, none⟩ = some (.slice pw nb cw) := by
          obtain ⟨gs, cs, hb, _⟩ := HRA4.out.box
          rw [cell_in (hc5.box hb (fun e => by have := (HWH4.out.lt D e.symm).1; omega))]; rfl
        have fd5 : w5.frozen? ⟨D, 2, none⟩ = false := by
          obtain ⟨gs, cs, hb, _⟩ := HRA4.out.box
          exact frozen_in (hc5.box hb (fun e => by have := (HWH4.out.lt D e.symm).1; omega)) 2
        clear hrow5 hg5 hgg5 hg5l hc5
        refine hK.out _ _ ((by exact hcl5)) (fun hHeld2 => ?_)
        clear hK K hHeld
        have hHeld := hHeld2
        clear hHeld2
        try simp only [Act.put, List.setIfInBounds_toArray, List.set_cons_zero, List.set_cons_succ, List.getElem_toArray, List.getElem_cons_zero, List.getElem_cons_succ]
        refine wpAnyH_take (i := 11) (v := ?_) rfl (by kernel_rfl) (by kernel_rfl) (by kernel_rfl) (fun _ _ _ h => h) (Or.inl ⟨by rfl, ?_⟩) (by assumption) ?_
        rotate_left
        · (intro w hSw; (try dsimp only at hSw); go_simp; try (with_reducible rfl))
        try simp only [Act.put, List.setIfInBounds_toArray, List.set_cons_zero, List.set_cons_succ, List.getElem_toArray, List.getElem_cons_zero, List.getElem_cons_succ]
        refine wpAnyH_take (i := 12) (v := ?_) rfl (by kernel_rfl) (by kernel_rfl) (by kernel_rfl) (fun _ _ _ h => h) (Or.inl ⟨by rfl, ?_⟩) (by assumption) ?_
        rotate_left
        · (intro w hSw; (try dsimp only at hSw); go_simp; try (with_reducible rfl))
        try simp only [Act.put, List.setIfInBounds_toArray, List.set_cons_zero, List.set_cons_succ, List.getElem_toArray, List.getElem_cons_zero, List.getElem_cons_succ]
        refine wpAnyH_ready (rs := [13]) (by kernel_rfl) (by simp) ?_
        refine AllReadyH.cons rfl (fun K hK => ?_) AllReadyH.nil
        go_simp
        refine hK.out _ _ ((by exact ((Chg.setCell w5 ⟨D, 2, none⟩ _).range (vs := [.string st]) (o := i) (b := gl) (fun j u hj => by match j, hj with | 0, hj => (cases hj; exact hcl5) | j + 1, hj => (cases hj)) (fun e => HGL.out.1 e)) 0 _ rfl)) (fun hHeld2 => ?_)
        clear hK K hHeld
        have hHeld := hHeld2
        clear hHeld2
        try simp only [Act.put, List.setIfInBounds_toArray, List.set_cons_zero, List.set_cons_succ, List.getElem_toArray, List.getElem_cons_zero, List.getElem_cons_succ]
        refine wpAnyH_done (by kernel_rfl) ?_ _
        refine NoPanic.normal ?_
        clear hHeld
        have hRA6 := HRA4.out.grow_what (vw' := .slice (some ⟨g5, 0, none⟩) (nb + 1) cap5) x (by rw [HNB.out, HST.out]; exact HRW5.out.1) HRW5.out.2.1
        have hc56 := Chg.setCell w5 ⟨D, 2, none⟩ (.slice (some ⟨g5, 0, none⟩) (nb + 1) cap5)
        have hc36 : Chg (fun k => (Value.slice pw nb cw).ownBlock = some k ∨ k = D) w3 (w5.setCell ⟨D, 2, none⟩ (.slice (some ⟨g5, 0, none⟩) (nb + 1) cap5)) := ((Chg.below HB4.out _).trans ((Chg.grown HRW5.out.2.1).weaken (fun k _ e => .inl e.symm))).trans (hc56.weaken (fun k _ e => .inr e))
        have hgl5 : g5 ≠ gl := by
          rcases HRW5.out.2.2.1 with e | e
          · exact fun e2 => HRL.out.2.2.2 (by rw [e, e2])
          · have := HRL3.out.2
            have := HB4.out.size
            omega
        have hrl6 := hc36.range HRL3.out.1 (by rintro (e | e); exact HRL.out.2.2.2 e; exact HGL.out.1 e)
        have hgl6 := Nat.lt_of_lt_of_le HRL3.out.2 hc36.size
        have hC6 : Chg (fun k => k = D ∨ va0.ownBlock = some k ∨ vw0.ownBlock = some k) w (w5.setCell ⟨D, 2, none⟩ (.slice (some ⟨g5, 0, none⟩) (nb + 1) cap5)) := by
          have hw1 := (HC.out.trans (Chg.below HB1'.out _)).size
          refine (((HC.out.trans (Chg.below HB1'.out _)).trans2 HC13.out (fun k hk e => ?_))).trans2 hc36 (fun k hk e => ?_)
          · rcases e with e | e
            · rcases (HV.out k).1 e with h | h
              · exact .inr (.inl h)
              · omega
            · exact .inl e
          · rcases e with e | e
            · rcases (HV.out k).2 e with h | h
              · exact .inr (.inr h)
              · omega
            · exact .inl e
        have hV6 : ∀ k, ((Value.slice (some ⟨g2, 0, none⟩) (np + 1) cap2).ownBlock = some k → va0.ownBlock = some k ∨ w.heap.size ≤ k) ∧ ((Value.slice (some ⟨g5, 0, none⟩) (nb + 1) cap5).ownBlock = some k → vw0.ownBlock = some k ∨ w.heap.size ≤ k) := fun k => by
          have hs1 := HC.out.size
          have hs2 := HB1'.out.size
          have hs3 := HC13.out.size
          have hs4 := HB4.out.size
          refine ⟨fun e => ?_, fun e => ?_⟩
          · have e' : g2 = k := by simpa [Value.ownBlock] using e
            rcases HRW2.out.2.2.1 with h | h
            · exact (HV.out k).1 (by rw [h, e'])
            · right
              omega
          · have e' : g5 = k := by simpa [Value.ownBlock] using e
            rcases HRW5.out.2.2.1 with h | h
            · exact (HV.out k).2 (by rw [h, e'])
            · right
              omega
        have HRA6 := Lib.hid hRA6
        have HRL6 := Lib.hid (show _ ∧ _ ∧ _ ∧ _ from ⟨hrl6, hgl6, (fun e => HGL2.out (by simpa [Value.ownBlock] using e) : (Value.slice (some ⟨g2, 0, none⟩) (np + 1) cap2).ownBlock ≠ some gl), (fun e => hgl5 (by simpa [Value.ownBlock] using e) : (Value.slice (some ⟨g5, 0, none⟩) (nb + 1) cap5).ownBlock ≠ some gl)⟩)
        have HC6 := Lib.hid hC6
        have HV6 := Lib.hid hV6
        clear hRA6 hc56 hc36 hgl5 hrl6 hgl6 hC6 hV6 hcl3 hcl4 hcl5 kd1 kd2 kd3 kd4 kd5 fd2 fd5
        go_wp2
        go_roundw
        case rel => exact ⟨i + 1, _, _, by omega, by go_num, Lib.hid (by rw [HPN.out, HBN.out]; exact HRA6.out), HRL6, HC6, HV6⟩
        case measure => simp [intOf]; omega
    · have e1 : decide ((i : Int) < (M : Int)) = false := decide_eq_false (by omega)
      have e1' : decide (i < M) = false := decide_eq_false hlt
      obtain rfl : i = M := by omega
      have HFIN := Lib.hid (show L.take i = L from List.take_of_length_le (by rw [← HM.out]; exact Nat.le_refl _))
      go_wp2
      go_ret
      exact ⟨rfl, va, vw, by have h := HRA.out; rw [HFIN.out] at h; exact h, HC.out⟩
end Go.Proofs.Ytgcifhhbhoafcaa
