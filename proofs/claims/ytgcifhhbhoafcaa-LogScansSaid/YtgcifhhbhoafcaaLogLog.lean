/-
  A log in memory: Last, free, Room, advance, Reset.
-/
import Derived.Test.YtgcifhhbhoafcaaLogRead
namespace Go.Proofs.Ytgcifhhbhoafcaa
open Go.RowKit Go.Shelf

/-- A log's record. -/
def logC (D f n u l : Nat) (off : Bool) : Array Value := #[.pointer (some ⟨D, 0, none⟩), .int .i64 f, .int .i64 n, .int .i64 u, .int .i64 l, .bool off]
def LogAt (w : World) (P D f n u l : Nat) (off : Bool) : Prop := w.heap[P]? = some (.cells (logC D f n u l off) 86 (0, 0))
theorem LogAt.cells {w : World} {P D f n u l : Nat} {off : Bool} (H : LogAt w P D f n u l off) : w.cell? ⟨P, 0, none⟩ = some (.pointer (some ⟨D, 0, none⟩)) ∧ w.cell? ⟨P, 1, none⟩ = some (.int .i64 f) ∧ w.cell? ⟨P, 2, none⟩ = some (.int .i64 n) ∧ w.cell? ⟨P, 3, none⟩ = some (.int .i64 u) ∧ w.cell? ⟨P, 4, none⟩ = some (.int .i64 l) ∧ w.cell? ⟨P, 5, none⟩ = some (.bool off) := by
  refine ⟨?_, ?_, ?_, ?_, ?_, ?_⟩ <;> (rw [cell_in H]; rfl)
theorem LogAt.lt {w : World} {P D f n u l : Nat} {off : Bool} (H : LogAt w P D f n u l off) : P < w.heap.size := (Array.getElem?_eq_some_iff.1 H).1
theorem LogAt.chg {w w' : World} {P D f n u l : Nat} {off : Bool} (H : LogAt w P D f n u l off) {ex : Nat → Prop} (hc : Chg ex w w') (hn : ¬ ex P) : LogAt w' P D f n u l off := hc.box H hn
theorem log_set3 {w : World} {P D f n u l : Nat} {off : Bool} (H : LogAt w P D f n u l off) (u' : Nat) : LogAt (w.setCell ⟨P, 3, none⟩ (.int .i64 u')) P D f n u' l off := by
  unfold LogAt at H ⊢
  rw [setCell_eq_setRow w P _ _ _ _ _ H, setRow_heap w P _ _ _ _ H]
  rfl
theorem log_set4 {w : World} {P D f n u l : Nat} {off : Bool} (H : LogAt w P D f n u l off) (l' : Nat) : LogAt (w.setCell ⟨P, 4, none⟩ (.int .i64 l')) P D f n u l' off := by
  unfold LogAt at H ⊢
  rw [setCell_eq_setRow w P _ _ _ _ _ H, setRow_heap w P _ _ _ _ H]
  rfl
theorem log_set5 {w : World} {P D f n u l : Nat} {off : Bool} (H : LogAt w P D f n u l off) (b : Bool) : LogAt (w.setCell ⟨P, 5, none⟩ (.bool b)) P D f n u l b := by
  unfold LogAt at H ⊢
  rw [setCell_eq_setRow w P _ _ _ _ _ H, setRow_heap w P _ _ _ _ H]
  rfl

theorem last_any (P D f n u l : Nat) (off : Bool) (w : World) (H : LogAt w P D f n u l off) :
    Calls Try.prog 16 #[.pointer (some ⟨P, 0, none⟩)] w fun e w' => e = .returned (.int .i64 l) ∧ w = w' := by
  obtain ⟨k0, k1, k2, k3, k4, k5⟩ := H.cells
  clear H
  go_enter Try.func16, Try.ntmps16
  go_wp2
  go_ret
  exact ⟨rfl, rfl⟩
set_option maxRecDepth 20000 in
theorem free_any (P D f n u l : Nat) (off : Bool) (hu : u ≤ n) (hn : n ≤ 65536) (w : World) (H : LogAt w P D f n u l off) :
    Calls Try.prog 40 #[.pointer (some ⟨P, 0, none⟩)] w fun e w' => e = .returned (.int .i64 ((n - u : Nat) : Int)) ∧ Below w.heap.size w w' := by
  obtain ⟨k0, k1, k2, k3, k4, k5⟩ := H.cells
  have q : IntKind.i64.wrap ((n : Int) - (u : Int)) = ((n - u : Nat) : Int) := by rw [IntKind.wrap_i64]; omega
  clear H
  go_enter Try.func40, Try.ntmps40
  go_wp2
  refine wp_region_noPanic ?_
  refine wp_region_held_drew (S := fun X => X.cell? ⟨P, 2, none⟩ = some (.int .i64 n) ∧ X.cell? ⟨P, 3, none⟩ = some (.int .i64 u)) (by kernel_rfl) (⟨k2, k3⟩) (fun hHeld => ?_)
  refine wpAnyH_take (i := 0) (v := ?_) rfl (by kernel_rfl) (by kernel_rfl) (by kernel_rfl) (fun _ _ _ h => h) (Or.inl ⟨by rfl, ?_⟩) (by assumption) ?_
  rotate_left
  · (intro w hSw; (try dsimp only at hSw); go_simp; try (with_reducible rfl))
  try simp only [Act.put, List.setIfInBounds_toArray, List.set_cons_zero, List.set_cons_succ, List.getElem_toArray, List.getElem_cons_zero]
  refine wpAnyH_take (i := 1) (v := ?_) rfl (by kernel_rfl) (by kernel_rfl) (by kernel_rfl) (fun _ _ _ h => h) (Or.inl ⟨by rfl, ?_⟩) (by assumption) ?_
  rotate_left
  · (intro w hSw; (try dsimp only at hSw); go_simp; try (with_reducible rfl))
  try simp only [Act.put, List.setIfInBounds_toArray, List.set_cons_zero, List.set_cons_succ, List.getElem_toArray, List.getElem_cons_zero, List.getElem_cons_succ]
  refine wpAnyH_take (i := 2) (v := ?_) rfl (by kernel_rfl) (by kernel_rfl) (by kernel_rfl) (fun _ _ _ h => h) (Or.inl ⟨by rfl, ?_⟩) (by assumption) ?_
  rotate_left
  · (intro w hSw; (try dsimp only at hSw); go_simp; try (with_reducible rfl))
  try simp only [Act.put, List.setIfInBounds_toArray, List.set_cons_zero, List.set_cons_succ, List.getElem_toArray, List.getElem_cons_zero, List.getElem_cons_succ]
  refine wpAnyH_take (i := 3) (v := ?_) rfl (by kernel_rfl) (by kernel_rfl) (by kernel_rfl) (fun _ _ _ h => h) (Or.inl ⟨by rfl, ?_⟩) (by assumption) ?_
  rotate_left
  · (intro w hSw; (try dsimp only at hSw); go_simp; try (with_reducible rfl))
  try simp only [Act.put, List.setIfInBounds_toArray, List.set_cons_zero, List.set_cons_succ, List.getElem_toArray, List.getElem_cons_zero, List.getElem_cons_succ]
  refine wpAnyH_take (i := 4) (v := ?_) rfl (by kernel_rfl) (by kernel_rfl) (by kernel_rfl) (fun _ _ _ h => h) (Or.inl ⟨by rfl, ?_⟩) (by assumption) ?_
  rotate_left
  · (intro w hSw; (try dsimp only at hSw); go_simp; try (with_reducible rfl))
  try simp only [Act.put, List.setIfInBounds_toArray, List.set_cons_zero, List.set_cons_succ, List.getElem_toArray, List.getElem_cons_zero, List.getElem_cons_succ]
  refine wpAnyH_take (i := 5) (v := ?_) rfl (by kernel_rfl) (by kernel_rfl) (by kernel_rfl) (fun _ _ _ h => h) (Or.inl ⟨by rfl, ?_⟩) (by assumption) ?_
  rotate_left
  · (intro w hSw; (try dsimp only at hSw); go_simp; try (with_reducible rfl))
  try simp only [Act.put, List.setIfInBounds_toArray, List.set_cons_zero, List.set_cons_succ, List.getElem_toArray, List.getElem_cons_zero, List.getElem_cons_succ]
  refine wpAnyH_take (i := 6) (v := ?_) rfl (by kernel_rfl) (by kernel_rfl) (by kernel_rfl) (fun _ _ _ h => h) (Or.inl ⟨by rfl, ?_⟩) (by assumption) ?_
  rotate_left
  · (intro w hSw; (try dsimp only at hSw); go_simp; try (with_reducible rfl))
  try simp only [Act.put, List.setIfInBounds_toArray, List.set_cons_zero, List.set_cons_succ, List.getElem_toArray, List.getElem_cons_zero, List.getElem_cons_succ]
  refine wpAnyH_take (i := 7) (v := ?_) rfl (by kernel_rfl) (by kernel_rfl) (by kernel_rfl) (fun _ _ _ h => h) (Or.inl ⟨by rfl, ?_⟩) (by assumption) ?_
  rotate_left
  · (intro w hSw; (try dsimp only at hSw); go_simp; try (with_reducible rfl))
  try simp only [Act.put, List.setIfInBounds_toArray, List.set_cons_zero, List.set_cons_succ, List.getElem_toArray, List.getElem_cons_zero, List.getElem_cons_succ]
  refine wpAnyH_take (i := 8) (v := ?_) rfl (by kernel_rfl) (by kernel_rfl) (by kernel_rfl) (fun _ _ _ h => h) (Or.inl ⟨by rfl, ?_⟩) (by assumption) ?_
  rotate_left
  · (intro w hSw; (try dsimp only at hSw); go_simp; try (with_reducible rfl))
  try simp only [Act.put, List.setIfInBounds_toArray, List.set_cons_zero, List.set_cons_succ, List.getElem_toArray, List.getElem_cons_zero, List.getElem_cons_succ]
  refine wpAnyH_take (i := 9) (v := ?_) rfl (by kernel_rfl) (by kernel_rfl) (by kernel_rfl) (fun _ _ _ h => h) (Or.inl ⟨by rfl, ?_⟩) (by assumption) ?_
  rotate_left
  · (intro w hSw; (try dsimp only at hSw); go_simp; try (with_reducible rfl))
  try simp only [Act.put, List.setIfInBounds_toArray, List.set_cons_zero, List.set_cons_succ, List.getElem_toArray, List.getElem_cons_zero, List.getElem_cons_succ]
  refine wpAnyH_done (by kernel_rfl) ?_ _
  refine NoPanic.normal ?_
  clear hHeld
  go_wp2
  go_ret
  exact ⟨rfl, bD (Below.refl _ _)⟩
theorem room_any (P D f n u l : Nat) (off : Bool) (hu : u ≤ n) (hn : n ≤ 65536) (w : World) (H : LogAt w P D f n u l off) :
    Calls Try.prog 17 #[.pointer (some ⟨P, 0, none⟩)] w fun e w' => e = .returned (.int .i64 (63 * (((n - u : Nat) : Int) - 1))) ∧ Below w.heap.size w w' := by
  have hf := free_any P D f n u l off hu hn w H
  obtain ⟨m, hm⟩ : ∃ m, m = n - u := ⟨_, rfl⟩
  rw [← hm] at hf ⊢
  have hmb : m ≤ 65536 := by omega
  clear H hm
  go_enter Try.func17, Try.ntmps17
  go_wp2_with fail
  refine hf.mono ?_
  rintro e w1 ⟨rfl, hb⟩
  have HB := Lib.hid hb
  clear hb
  go_wp2
  go_ret
  exact ⟨rfl, HB.out⟩
set_option maxRecDepth 20000 in
theorem advance_any (P D f n u l : Nat) (off : Bool) (m : Nat) (hm : m ≤ 2000000) (hu : u ≤ 1000000) (hl : l ≤ 1152921504606846975) (w : World) (H : LogAt w P D f n u l off) :
    Calls Try.prog 49 #[.pointer (some ⟨P, 0, none⟩), .int .i64 m] w fun e w' => e = .returned (.tuple #[]) ∧ LogAt w' P D f n (u + secs m) (l + 1) off ∧ Chg (fun k => k = P) w w' := by
  obtain ⟨k0, k1, k2, k3, k4, k5⟩ := H.cells
  obtain ⟨K, hK⟩ : ∃ K, K = secs m := ⟨_, rfl⟩
  have hsec := fun w => sectors_any m (by omega) w
  have hKb : K ≤ 1000000 := by rw [hK]; unfold secs; omega
  rw [← hK] at hsec ⊢
  have q : IntKind.i64.wrap ((u : Int) + (K : Int)) = ((u + K : Nat) : Int) := by rw [IntKind.wrap_i64]; omega
  have q2 : IntKind.i64.wrap ((l : Int) + 1) = ((l + 1 : Nat) : Int) := by rw [IntKind.wrap_i64]; omega
  have k3d : w.drew.cell? ⟨P, 3, none⟩ = some (.int .i64 u) := k3
  have fz3 : w.drew.frozen? ⟨P, 3, none⟩ = false := frozen_in (W := w) H 3
  obtain ⟨w2, hw2⟩ : ∃ w2, (w.setCell ⟨P, 3, none⟩ (.int .i64 ((u + K : Nat) : Int))).drew = w2 := ⟨_, rfl⟩
  have H2 : LogAt w2 P D f n (u + K) l off := by rw [← hw2]; exact log_set3 (w := w) H _
  have hc2 : Chg (fun k => k = P) w w2 := by rw [← hw2]; exact (Chg.setCell w ⟨P, 3, none⟩ _).trans (Chg.drew _ _)
  have l4 := H2.cells.2.2.2.2.1
  have fz4 := frozen_in H2 4
  have HW2 := Lib.hid hw2
  have HC2 := Lib.hid hc2
  have HH2 := Lib.hid H2
  clear H H2 hK hw2 hc2
  have hq : ((u : Int) + (K : Int)) = ((u + K : Nat) : Int) := by omega
  have HQ := Lib.hid hq
  have HQ1 := Lib.hid (show ((l : Int) + 1) = ((l + 1 : Nat) : Int) by omega)
  clear hq
  go_enter Try.func49, Try.ntmps49
  go_wp2
  refine wp_region_noPanic ?_
  refine wp_region_held_drew (S := fun _ => True) (by kernel_rfl) (trivial) (fun hHeld => ?_)
  refine wpAnyH_take (i := 0) (v := ?_) rfl (by kernel_rfl) (by kernel_rfl) (by kernel_rfl) (fun _ _ _ h => h) (Or.inl ⟨by rfl, ?_⟩) (by assumption) ?_
  rotate_left
  · (intro w hSw; (try dsimp only at hSw); go_simp; try (with_reducible rfl))
  try simp only [Act.put, List.setIfInBounds_toArray, List.set_cons_zero, List.set_cons_succ, List.getElem_toArray, List.getElem_cons_zero]
  refine wpAnyH_take (i := 1) (v := ?_) rfl (by kernel_rfl) (by kernel_rfl) (by kernel_rfl) (fun _ _ _ h => h) (Or.inl ⟨by rfl, ?_⟩) (by assumption) ?_
  rotate_left
  · (intro w hSw; (try dsimp only at hSw); go_simp; try (with_reducible rfl))
  try simp only [Act.put, List.setIfInBounds_toArray, List.set_cons_zero, List.set_cons_succ, List.getElem_toArray, List.getElem_cons_zero, List.getElem_cons_succ]
  refine wpAnyH_take (i := 2) (v := ?_) rfl (by kernel_rfl) (by kernel_rfl) (by kernel_rfl) (fun _ _ _ h => h) (Or.inl ⟨by rfl, ?_⟩) (by assumption) ?_
  rotate_left
  · (intro w hSw; (try dsimp only at hSw); go_simp; try (with_reducible rfl))
  try simp only [Act.put, List.setIfInBounds_toArray, List.set_cons_zero, List.set_cons_succ, List.getElem_toArray, List.getElem_cons_zero, List.getElem_cons_succ]
  refine wpAnyH_take (i := 4) (v := ?_) rfl (by kernel_rfl) (by kernel_rfl) (by kernel_rfl) (fun _ _ _ h => h) (Or.inl ⟨by rfl, ?_⟩) (by assumption) ?_
  rotate_left
  · (intro w hSw; (try dsimp only at hSw); go_simp; try (with_reducible rfl))
  try simp only [Act.put, List.setIfInBounds_toArray, List.set_cons_zero, List.set_cons_succ, List.getElem_toArray, List.getElem_cons_zero, List.getElem_cons_succ]
  refine wpAnyH_ready (rs := [3, 5]) (by kernel_rfl) (by simp) ?_
  refine AllReadyH.cons rfl (fun K' hK => ?_) (AllReadyH.cons rfl (fun K' hK => ?_) AllReadyH.nil)
  · go_simp
    refine hK.out _ _ (trivial) (fun hHeld2 => ?_)
    clear hK K' hHeld
    have hHeld := hHeld2
    clear hHeld2
    try simp only [Act.put, List.setIfInBounds_toArray, List.set_cons_zero, List.set_cons_succ, List.getElem_toArray, List.getElem_cons_zero, List.getElem_cons_succ]
    refine wpAnyH_ready (rs := [5]) (by kernel_rfl) (by simp) ?_
    refine AllReadyH.cons rfl (fun K' hK => ?_) AllReadyH.nil
    go_simp
    go_at_call 30
    refine (hsec _).mono ?_
    rintro e2 w3 ⟨rfl, rfl⟩
    refine hK.out _ _ (trivial) (fun hHeld2 => ?_)
    clear hK K' hHeld
    have hHeld := hHeld2
    clear hHeld2
    try simp only [Act.put, List.setIfInBounds_toArray, List.set_cons_zero, List.set_cons_succ, List.getElem_toArray, List.getElem_cons_zero, List.getElem_cons_succ]
    refine wpAnyH_take (i := 6) (v := ?_) rfl (by kernel_rfl) (by kernel_rfl) (by kernel_rfl) (fun _ _ _ h => h) (Or.inl ⟨by rfl, ?_⟩) (by assumption) ?_
    rotate_left
    · (intro w hSw; (try dsimp only at hSw); go_simp; try (with_reducible rfl))
    try simp only [Act.put, List.setIfInBounds_toArray, List.set_cons_zero, List.set_cons_succ, List.getElem_toArray, List.getElem_cons_zero, List.getElem_cons_succ]
    refine wpAnyH_take (i := 7) (v := ?_) rfl (by kernel_rfl) (by kernel_rfl) (by kernel_rfl) (fun _ _ _ h => h) (Or.inl ⟨by rfl, ?_⟩) (by assumption) ?_
    rotate_left
    · (intro w hSw; (try dsimp only at hSw); go_simp; try (with_reducible rfl))
    try simp only [Act.put, List.setIfInBounds_toArray, List.set_cons_zero, List.set_cons_succ, List.getElem_toArray, List.getElem_cons_zero, List.getElem_cons_succ]
    refine wpAnyH_take (i := 8) (v := ?_) rfl (by kernel_rfl) (by kernel_rfl) (by kernel_rfl) (fun _ _ _ h => h) (Or.inl ⟨by rfl, ?_⟩) (by assumption) ?_
    rotate_left
    · (intro w hSw; (try dsimp only at hSw); go_simp; try (with_reducible rfl))
    try simp only [Act.put, List.setIfInBounds_toArray, List.set_cons_zero, List.set_cons_succ, List.getElem_toArray, List.getElem_cons_zero, List.getElem_cons_succ]
    refine wpAnyH_ready (rs := [9]) (by kernel_rfl) (by simp) ?_
    refine AllReadyH.cons rfl (fun K' hK => ?_) AllReadyH.nil
    go_simp
    refine hK.out _ _ (trivial) (fun hHeld2 => ?_)
    clear hK K' hHeld
    have hHeld := hHeld2
    clear hHeld2
    try simp only [Act.put, List.setIfInBounds_toArray, List.set_cons_zero, List.set_cons_succ, List.getElem_toArray, List.getElem_cons_zero, List.getElem_cons_succ]
    refine wpAnyH_done (by kernel_rfl) ?_ _
    refine NoPanic.normal ?_
    clear hHeld
    try rw [HQ.out]
    rw [HW2.out]
    go_wp2
    go_end0
    rw [HQ1.out]
    exact ⟨rfl, log_set4 HH2.out _, HC2.out.trans (Chg.setCell w2 ⟨P, 4, none⟩ _)⟩
  · go_simp
    go_at_call 30
    refine (hsec _).mono ?_
    rintro e2 w3 ⟨rfl, rfl⟩
    refine hK.out _ _ (trivial) (fun hHeld2 => ?_)
    clear hK K' hHeld
    have hHeld := hHeld2
    clear hHeld2
    try simp only [Act.put, List.setIfInBounds_toArray, List.set_cons_zero, List.set_cons_succ, List.getElem_toArray, List.getElem_cons_zero, List.getElem_cons_succ]
    refine wpAnyH_ready (rs := [3]) (by kernel_rfl) (by simp) ?_
    refine AllReadyH.cons rfl (fun K' hK => ?_) AllReadyH.nil
    go_simp
    refine hK.out _ _ (trivial) (fun hHeld2 => ?_)
    clear hK K' hHeld
    have hHeld := hHeld2
    clear hHeld2
    try simp only [Act.put, List.setIfInBounds_toArray, List.set_cons_zero, List.set_cons_succ, List.getElem_toArray, List.getElem_cons_zero, List.getElem_cons_succ]
    refine wpAnyH_take (i := 6) (v := ?_) rfl (by kernel_rfl) (by kernel_rfl) (by kernel_rfl) (fun _ _ _ h => h) (Or.inl ⟨by rfl, ?_⟩) (by assumption) ?_
    rotate_left
    · (intro w hSw; (try dsimp only at hSw); go_simp; try (with_reducible rfl))
    try simp only [Act.put, List.setIfInBounds_toArray, List.set_cons_zero, List.set_cons_succ, List.getElem_toArray, List.getElem_cons_zero, List.getElem_cons_succ]
    refine wpAnyH_take (i := 7) (v := ?_) rfl (by kernel_rfl) (by kernel_rfl) (by kernel_rfl) (fun _ _ _ h => h) (Or.inl ⟨by rfl, ?_⟩) (by assumption) ?_
    rotate_left
    · (intro w hSw; (try dsimp only at hSw); go_simp; try (with_reducible rfl))
    try simp only [Act.put, List.setIfInBounds_toArray, List.set_cons_zero, List.set_cons_succ, List.getElem_toArray, List.getElem_cons_zero, List.getElem_cons_succ]
    refine wpAnyH_take (i := 8) (v := ?_) rfl (by kernel_rfl) (by kernel_rfl) (by kernel_rfl) (fun _ _ _ h => h) (Or.inl ⟨by rfl, ?_⟩) (by assumption) ?_
    rotate_left
    · (intro w hSw; (try dsimp only at hSw); go_simp; try (with_reducible rfl))
    try simp only [Act.put, List.setIfInBounds_toArray, List.set_cons_zero, List.set_cons_succ, List.getElem_toArray, List.getElem_cons_zero, List.getElem_cons_succ]
    refine wpAnyH_ready (rs := [9]) (by kernel_rfl) (by simp) ?_
    refine AllReadyH.cons rfl (fun K' hK => ?_) AllReadyH.nil
    go_simp
    refine hK.out _ _ (trivial) (fun hHeld2 => ?_)
    clear hK K' hHeld
    have hHeld := hHeld2
    clear hHeld2
    try simp only [Act.put, List.setIfInBounds_toArray, List.set_cons_zero, List.set_cons_succ, List.getElem_toArray, List.getElem_cons_zero, List.getElem_cons_succ]
    refine wpAnyH_done (by kernel_rfl) ?_ _
    refine NoPanic.normal ?_
    clear hHeld
    try rw [HQ.out]
    rw [HW2.out]
    go_wp2
    go_end0
    rw [HQ1.out]
    exact ⟨rfl, log_set4 HH2.out _, HC2.out.trans (Chg.setCell w2 ⟨P, 4, none⟩ _)⟩
end Go.Proofs.Ytgcifhhbhoafcaa
