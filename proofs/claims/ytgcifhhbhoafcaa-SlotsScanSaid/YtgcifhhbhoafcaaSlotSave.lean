/-
  Save.
-/
import Derived.Test.YtgcifhhbhoafcaaSlotWrite
namespace Go.Proofs.Ytgcifhhbhoafcaa
open Go.RowKit Go.Shelf
attribute [local go_sem] Oper.semAt_some

set_option maxHeartbeats 1000000 in
theorem ssave_off (P D f m gn : Nat) (z : Int) (v : Value) (w : World) (H : SlAt w P D f m gn true) :
    Calls Try.prog 25 #[.pointer (some ⟨P, 0, none⟩), .agg #[.int .i64 z, v]] w fun e w' => e = .returned (.int .i64 20) ∧ Below w.heap.size w w' := by
  have hb : Below w.heap.size w (w.alloc (.cells #[.int .i64 z, v] 48)) := bA (Below.refl _ _) _
  have k4 := (H.chg (Chg.below hb (fun _ => False)) (fun e => e)).cells.2.2.2.2
  have HB := Lib.hid hb
  clear H hb
  go_enter Try.func25, Try.ntmps25
  go_wp2
  go_ret
  exact ⟨rfl, HB.out⟩
set_option maxHeartbeats 1000000 in
theorem ssave_arg (P D f m gn : Nat) (z : Int) (hz : stampOk z = false) (v : Value) (w : World) (H : SlAt w P D f m gn false) :
    Calls Try.prog 25 #[.pointer (some ⟨P, 0, none⟩), .agg #[.int .i64 z, v]] w fun e w' => e = .returned (.int .i64 2) ∧ Below w.heap.size w w' := by
  obtain ⟨w1, hw1⟩ : ∃ w1, w.alloc (.cells #[.int .i64 z, v] 48) = w1 := ⟨_, rfl⟩
  have hb : Below w.heap.size w w1 := by rw [← hw1]; exact bA (Below.refl _ _) _
  have hE : w1.heap[w.heap.size]? = some (.cells #[.int .i64 z, v] 48 (0, 0)) := by rw [← hw1]; exact heap_new w _
  have k4 := (H.chg (Chg.below hb (fun _ => False)) (fun e => e)).cells.2.2.2.2
  have x0 : w1.cell? ⟨w.heap.size, 0, none⟩ = some (.int .i64 z) := by rw [cell_in hE]; rfl
  have x1 : w1.cell? ⟨w.heap.size, 1, none⟩ = some v := by rw [cell_in hE]; rfl
  have hst := stamped_any z v w1
  rw [hz] at hst
  have HB := Lib.hid hb
  clear H hb hE hz
  go_enter Try.func25, Try.ntmps25
  go_wp2_with fail
  refine hst.mono ?_
  rintro e w2 ⟨rfl, hb2⟩
  have HB2 := Lib.hid hb2
  clear hb2
  go_wp2
  go_ret
  exact ⟨rfl, bT HB.out HB2.out⟩
set_option maxRecDepth 20000 in
set_option maxHeartbeats 2000000 in
theorem ssave_full (P D f m gn : Nat) (hm1 : 1 ≤ m) (hmb : m ≤ 100000) (z : Int) (hz : stampOk z = true) (p : Option Addr) (L cc : Nat) (hfull : roomS m < L) (w : World) (H : SlAt w P D f m gn false) :
    Calls Try.prog 25 #[.pointer (some ⟨P, 0, none⟩), .agg #[.int .i64 z, .slice p L cc]] w fun e w' => e = .returned (.int .i64 22) ∧ Below w.heap.size w w' := by
  obtain ⟨w1, hw1⟩ : ∃ w1, w.alloc (.cells #[.int .i64 z, .slice p L cc] 48) = w1 := ⟨_, rfl⟩
  obtain ⟨K0, hK0⟩ : ∃ K0, w.heap.size = K0 := ⟨_, rfl⟩
  have hb : Below w.heap.size w w1 := by rw [← hw1]; exact bA (Below.refl _ _) _
  have hE : w1.heap[K0]? = some (.cells #[.int .i64 z, .slice p L cc] 48 (0, 0)) := by rw [← hw1, ← hK0]; exact heap_new w _
  have hP := H.chg (Chg.below hb (fun _ => False)) (fun e => e)
  have k4 := hP.cells.2.2.2.2
  have x0 : w1.cell? ⟨K0, 0, none⟩ = some (.int .i64 z) := by rw [cell_in hE]; rfl
  have x1 : w1.cell? ⟨K0, 1, none⟩ = some (.slice p L cc) := by rw [cell_in hE]; rfl
  have hst := stamped_any z (.slice p L cc) w1
  rw [hz] at hst
  obtain ⟨r, hr⟩ : ∃ r, r = roomS m := ⟨_, rfl⟩
  have hroom := fun W HW => sroomp_any P D f m gn false hm1 hmb W HW
  simp only [← hr] at hroom
  have d1 : decide ((r : Int) < (L : Int)) = true := decide_eq_true (by omega)
  have d1' : decide (r < L) = true := decide_eq_true (by omega)
  have HB := Lib.hid hb
  have HP := Lib.hid hP
  have HE := Lib.hid hE
  have HK0 := Lib.hid hK0
  clear H hb hE hz hP hr hfull
  go_enter Try.func25, Try.ntmps25
  go_wp2_with fail
  refine hst.mono ?_
  rintro e w2 ⟨rfl, hb2⟩
  have hx2 := (Chg.below hb2 (fun _ => False)).box HE.out (fun e => e)
  have y1 : w2.cell? ⟨K0, 1, none⟩ = some (.slice p L cc) := by rw [cell_in hx2]; rfl
  have hroom2 := hroom w2.drew ((HP.out.chg (Chg.below hb2 (fun _ => False)) (fun e => e)).chg (Chg.drew (fun _ => False) _) (fun e => e))
  have HB2 := Lib.hid hb2
  clear hb2 hroom hx2 hK0 hw1 x0 x1
  go_wp2_with fail
  first | rw [HK0.out] | skip
  refine wp_region_noPanic ?_
  refine wp_region_held_drew (S := fun W => W.cell? ⟨K0, 1, none⟩ = some (.slice p L cc)) (by kernel_rfl) ((by exact y1)) (fun hHeld => ?_)
  refine wpAnyH_take (i := 0) (v := ?_) rfl (by kernel_rfl) (by kernel_rfl) (by kernel_rfl) (fun _ _ _ h => h) (Or.inl ⟨by rfl, ?_⟩) (by assumption) ?_
  rotate_left
  · (intro w hSw; (try dsimp only at hSw); go_simp; try (with_reducible rfl))
  try simp only [Act.put, List.setIfInBounds_toArray, List.set_cons_zero, List.set_cons_succ, List.getElem_toArray, List.getElem_cons_zero]
  refine wpAnyH_take (i := 1) (v := ?_) rfl (by kernel_rfl) (by kernel_rfl) (by kernel_rfl) (fun _ _ _ h => h) (Or.inl ⟨by rfl, ?_⟩) (by assumption) ?_
  rotate_left
  · (intro w hSw; (try dsimp only at hSw); go_simp; try (with_reducible rfl))
  try simp only [Act.put, List.setIfInBounds_toArray, List.set_cons_zero, List.set_cons_succ, List.getElem_toArray, List.getElem_cons_zero, List.getElem_cons_succ]
  refine wpAnyH_take (i := 2) (v := ?_) rfl (by kernel_rfl) (by kernel_rfl) (by kernel_rfl) (fun _ _ _ h => h) (Or.inl ⟨by rfl, ?_⟩) (by assumption) ?_
  rotate_left
  · (intro w hSw; (try dsimp only at hSw); go_simp; try (with_reducible rfl))
  try simp only [Act.put, List.setIfInBounds_toArray, List.set_cons_zero, List.set_cons_succ, List.getElem_toArray, List.getElem_cons_zero, List.getElem_cons_succ]
  refine wpAnyH_take (i := 3) (v := ?_) rfl (by kernel_rfl) (by kernel_rfl) (by kernel_rfl) (fun _ _ _ h => h) (Or.inl ⟨by rfl, ?_⟩) (by assumption) ?_
  rotate_left
  · (intro w hSw; (try dsimp only at hSw); go_simp; try (with_reducible rfl))
  try simp only [Act.put, List.setIfInBounds_toArray, List.set_cons_zero, List.set_cons_succ, List.getElem_toArray, List.getElem_cons_zero, List.getElem_cons_succ]
  refine wpAnyH_ready (rs := [4]) (by kernel_rfl) (by simp) ?_
  refine AllReadyH.cons rfl (fun K hK => ?_) AllReadyH.nil
  go_simp
  go_at_call 23
  refine hroom2.mono ?_
  rintro e6 w6 ⟨rfl, hw6⟩
  obtain rfl := hw6
  refine hK.out _ _ (hHeld) (fun hHeld2 => ?_)
  clear hK K hHeld
  have hHeld := hHeld2
  clear hHeld2
  try simp only [Act.put, List.setIfInBounds_toArray, List.set_cons_zero, List.set_cons_succ, List.getElem_toArray, List.getElem_cons_zero, List.getElem_cons_succ]
  refine wpAnyH_take (i := 5) (v := ?_) rfl (by kernel_rfl) (by kernel_rfl) (by kernel_rfl) (fun _ _ _ h => h) (Or.inl ⟨by rfl, ?_⟩) (by assumption) ?_
  rotate_left
  · (intro w hSw; (try dsimp only at hSw); go_simp; try (with_reducible rfl))
  try simp only [Act.put, List.setIfInBounds_toArray, List.set_cons_zero, List.set_cons_succ, List.getElem_toArray, List.getElem_cons_zero, List.getElem_cons_succ]
  try simp only [d1]
  refine wpAnyH_take (i := 6) (v := ?_) rfl (by kernel_rfl) (by kernel_rfl) (by kernel_rfl) (fun _ _ _ h => h) (Or.inl ⟨by rfl, ?_⟩) (by assumption) ?_
  rotate_left
  · (intro w hSw; (try dsimp only at hSw); go_simp; try (with_reducible rfl))
  try simp only [Act.put, List.setIfInBounds_toArray, List.set_cons_zero, List.set_cons_succ, List.getElem_toArray, List.getElem_cons_zero, List.getElem_cons_succ]
  refine wpAnyH_done (by kernel_rfl) ?_ _
  refine NoPanic.normal ?_
  clear hHeld hroom2
  go_wp2
  go_ret
  exact ⟨rfl, bD (bT HB.out HB2.out)⟩

set_option maxRecDepth 20000 in
set_option maxHeartbeats 4000000 in
theorem ssave_fits (P D f m gn a : Nat) (g : Nat) (S : List Sec) (c : Int) (hl : -9223372036854775808 ≤ c ∧ c ≤ 9223372036854775807) (hm1 : 1 ≤ m) (hgn : gn < 9000000000000000000) (ha : a = f + (gn + 1) % 2 * m) (st : Nat) (hst0 : st ≤ 1152921504606846975) (p : Option Addr) (cc : Nat) (body : List UInt8) (hbl : body.length ≤ 600000) (hcb : body.length ≤ cc) (hcc : cc ≤ 9223372036854775807) (hfit : body.length ≤ roomS m) (hfm : f + 2 * m ≤ S.length) (w : World) (hin : InAt w p body) (hne : ∀ b o, p = some ⟨b, o, none⟩ → 0 < body.length → b ≠ D ∧ b ≠ g)
    (HL : SlAt w P D f m gn false) (H : DiskAt w D g S (.slice none 0 0) [] c) (hDg : D ≠ g) (hPD : P ≠ D) (hPg : P ≠ g) :
    Calls Try.prog 25 #[.pointer (some ⟨P, 0, none⟩), .agg #[.int .i64 st, .slice p body.length cc]] w fun e w' =>
      (e = .returned (.int .i64 0) ∧ (∃ c', DiskAt w' D g (putS S a (hdrS (gn + 1) st body :: padS body)) (.slice none 0 0) [] c' ∧ (c < 0 → c' = c) ∧ (-9223372036854775808 ≤ c' ∧ c' ≤ 9223372036854775807)) ∧ SlAt w' P D f m (gn + 1) false ∧ Chg (fun k => k = P ∨ k = D ∨ k = g) w w')
      ∨ (e = .returned (.int .i64 20) ∧ 0 ≤ c ∧ (∃ S' v' ws', DiskAt w' D g S' v' ws' 0 ∧ HalfS S a (gn + 1) st body S' ws' ∧ (∀ k, v'.ownBlock = some k → w.heap.size ≤ k)) ∧ SlAt w' P D f m gn true ∧ Chg (fun k => k = P ∨ k = D ∨ k = g) w w') := by
  have hNf := H.few
  have hDl : D < w.heap.size := (Array.getElem?_eq_some_iff.1 H.box).1
  have hgl : g < w.heap.size := (Array.getElem?_eq_some_iff.1 H.dur).1
  have hPl : P < w.heap.size := HL.lt
  have hpad : (padS body).length + 1 ≤ m := by rw [padS_len]; unfold roomS at hfit; omega
  have hmb : m ≤ 65536 := by omega
  obtain ⟨g1, hg1⟩ : ∃ g1, g1 = gn + 1 := ⟨_, rfl⟩
  rw [← hg1] at ha ⊢
  have hgi : (gn : Int) + 1 = (g1 : Int) := by omega
  have hgw : IntKind.i64.wrap (g1 : Int) = (g1 : Int) := by rw [IntKind.wrap_i64]; omega
  have hwr := fun (w : World) (hin : InAt w p body) (HL : SlAt w P D f m gn false) (H : DiskAt w D g S (.slice none 0 0) [] c) => swrite_any P D f m gn g1 a g S c hl st p cc body hbl hcb hcc (by omega) ha hpad hfm w hin hne HL H hDg hPD hPg
  obtain ⟨r, hr⟩ : ∃ r, r = roomS m := ⟨_, rfl⟩
  have hroom := fun W HW => sroomp_any P D f m gn false hm1 (by omega) W HW
  simp only [← hr] at hroom
  obtain ⟨L, hL⟩ : ∃ L, L = body.length := ⟨_, rfl⟩
  have HL0 := Lib.hid hL
  rw [← hr, ← hL] at hfit
  rw [← hL] at hbl hcb ⊢
  have hwr2 := Lib.hid hwr
  clear hwr
  have d1 : decide ((r : Int) < (L : Int)) = false := decide_eq_false (by omega)
  have d1' : decide (r < L) = false := decide_eq_false (by omega)
  obtain ⟨w1, hw1⟩ : ∃ w1, w.alloc (.cells #[.int .i64 (st : Int), .slice p L cc] 48) = w1 := ⟨_, rfl⟩
  obtain ⟨K0, hK0⟩ : ∃ K0, w.heap.size = K0 := ⟨_, rfl⟩
  have hb : Below w.heap.size w w1 := by rw [← hw1]; exact bA (Below.refl _ _) _
  have hE : w1.heap[K0]? = some (.cells #[.int .i64 (st : Int), .slice p L cc] 48 (0, 0)) := by rw [← hw1, ← hK0]; exact heap_new w _
  have hP := HL.chg (Chg.below hb (fun _ => False)) (fun e => e)
  have k4 := hP.cells.2.2.2.2
  have x0 : w1.cell? ⟨K0, 0, none⟩ = some (.int .i64 st) := by rw [cell_in hE]; rfl
  have x1 : w1.cell? ⟨K0, 1, none⟩ = some (.slice p L cc) := by rw [cell_in hE]; rfl
  have hst := stamped_any (st : Int) (.slice p L cc) w1
  rw [show stampOk (st : Int) = true by unfold stampOk; rw [decide_eq_true (show (0 : Int) ≤ (st : Int) by omega), decide_eq_true (show (st : Int) ≤ 1152921504606846975 by omega)]; rfl] at hst
  have HB := Lib.hid hb
  have HP := Lib.hid hP
  have HE := Lib.hid hE
  have HK0 := Lib.hid hK0
  have HIN1 := Lib.hid (hin.on hb)
  have HD1 := Lib.hid (H.on hb)
  clear HL H hb hE hP hr hin hL ha hne hfit hfm hNf hmb hpad hg1
  go_enter Try.func25, Try.ntmps25
  go_wp2_with fail
  refine hst.mono ?_
  rintro e w2 ⟨rfl, hb2⟩
  have hc2 := Chg.below hb2 (fun _ => False)
  have hx2 := hc2.box HE.out (fun e => e)
  have y1 : w2.cell? ⟨K0, 1, none⟩ = some (.slice p L cc) := by rw [cell_in hx2]; rfl
  obtain ⟨w3, hw3⟩ : ∃ w3, w2.drew = w3 := ⟨_, rfl⟩
  have hb3 : Below w1.heap.size w1 w3 := by rw [← hw3]; exact bD hb2
  have hc3 := Chg.below hb3 (fun _ => False)
  have HP3 := Lib.hid (HP.out.chg hc3 (fun e => e))
  have HE3 := Lib.hid (hc3.box HE.out (fun e => e))
  have hroom2 := hroom w3 HP3.out
  have HB3 := Lib.hid hb3
  have HW3 := Lib.hid hw3
  clear hb2 hroom hx2 hK0 hw1 x0 x1 hc2 hb3 hc3 hw3 k4
  go_wp2_with fail
  first | rw [HK0.out] | skip
  refine wp_region_noPanic ?_
  refine wp_region_held_drew (S := fun W => W.cell? ⟨K0, 1, none⟩ = some (.slice p L cc)) (by kernel_rfl) ((by exact y1)) (fun hHeld => ?_)
  refine wpAnyH_take (i := 0) (v := ?_) rfl (by kernel_rfl) (by kernel_rfl) (by kernel_rfl) (fun _ _ _ h => h) (Or.inl ⟨by rfl, ?_⟩) (by assumption) ?_
  rotate_left
  · (intro w hSw; (try dsimp only at hSw); go_simp; try (with_reducible rfl))
  try simp only [Act.put, List.setIfInBounds_toArray, List.set_cons_zero, List.set_cons_succ, List.getElem_toArray, List.getElem_cons_zero]
  refine wpAnyH_take (i := 1) (v := ?_) rfl (by kernel_rfl) (by kernel_rfl) (by kernel_rfl) (fun _ _ _ h => h) (Or.inl ⟨by rfl, ?_⟩) (by assumption) ?_
  rotate_left
  · (intro w hSw; (try dsimp only at hSw); go_simp; try (with_reducible rfl))
  try simp only [Act.put, List.setIfInBounds_toArray, List.set_cons_zero, List.set_cons_succ, List.getElem_toArray, List.getElem_cons_zero, List.getElem_cons_succ]
  refine wpAnyH_take (i := 2) (v := ?_) rfl (by kernel_rfl) (by kernel_rfl) (by kernel_rfl) (fun _ _ _ h => h) (Or.inl ⟨by rfl, ?_⟩) (by assumption) ?_
  rotate_left
  · (intro w hSw; (try dsimp only at hSw); go_simp; try (with_reducible rfl))
  try simp only [Act.put, List.setIfInBounds_toArray, List.set_cons_zero, List.set_cons_succ, List.getElem_toArray, List.getElem_cons_zero, List.getElem_cons_succ]
  refine wpAnyH_take (i := 3) (v := ?_) rfl (by kernel_rfl) (by kernel_rfl) (by kernel_rfl) (fun _ _ _ h => h) (Or.inl ⟨by rfl, ?_⟩) (by assumption) ?_
  rotate_left
  · (intro w hSw; (try dsimp only at hSw); go_simp; try (with_reducible rfl))
  try simp only [Act.put, List.setIfInBounds_toArray, List.set_cons_zero, List.set_cons_succ, List.getElem_toArray, List.getElem_cons_zero, List.getElem_cons_succ]
  refine wpAnyH_ready (rs := [4]) (by kernel_rfl) (by simp) ?_
  refine AllReadyH.cons rfl (fun K hK => ?_) AllReadyH.nil
  go_simp
  go_at_call 23
  rw [HW3.out]
  refine hroom2.mono ?_
  rintro e6 w6 ⟨rfl, hw6⟩
  obtain rfl := hw6
  refine hK.out _ _ ((by rw [cell_in HE3.out]; rfl)) (fun hHeld2 => ?_)
  clear hK K hHeld
  have hHeld := hHeld2
  clear hHeld2
  try simp only [Act.put, List.setIfInBounds_toArray, List.set_cons_zero, List.set_cons_succ, List.getElem_toArray, List.getElem_cons_zero, List.getElem_cons_succ]
  refine wpAnyH_take (i := 5) (v := ?_) rfl (by kernel_rfl) (by kernel_rfl) (by kernel_rfl) (fun _ _ _ h => h) (Or.inl ⟨by rfl, ?_⟩) (by assumption) ?_
  rotate_left
  · (intro w hSw; (try dsimp only at hSw); go_simp; try (with_reducible rfl))
  try simp only [Act.put, List.setIfInBounds_toArray, List.set_cons_zero, List.set_cons_succ, List.getElem_toArray, List.getElem_cons_zero, List.getElem_cons_succ]
  try simp only [d1]
  refine wpAnyH_take (i := 6) (v := ?_) rfl (by kernel_rfl) (by kernel_rfl) (by kernel_rfl) (fun _ _ _ h => h) (Or.inl ⟨by rfl, ?_⟩) (by assumption) ?_
  rotate_left
  · (intro w hSw; (try dsimp only at hSw); go_simp; try (with_reducible rfl))
  try simp only [Act.put, List.setIfInBounds_toArray, List.set_cons_zero, List.set_cons_succ, List.getElem_toArray, List.getElem_cons_zero, List.getElem_cons_succ]
  refine wpAnyH_done (by kernel_rfl) ?_ _
  refine NoPanic.normal ?_
  clear hHeld hroom2
  have z0 : w3.cell? ⟨K0, 0, none⟩ = some (.int .i64 st) := by rw [cell_in HE3.out]; rfl
  have z1 : w3.cell? ⟨K0, 1, none⟩ = some (.slice p L cc) := by rw [cell_in HE3.out]; rfl
  have z3 := HP3.out.cells.2.2.2.1
  go_wp2_with fail
  refine wp_region_noPanic ?_
  refine wp_region_held_drew (S := fun W => W.cell? ⟨P, 3, none⟩ = some (.int .i64 gn) ∧ W.cell? ⟨K0, 0, none⟩ = some (.int .i64 st) ∧ W.cell? ⟨K0, 1, none⟩ = some (.slice p L cc)) (by kernel_rfl) (⟨z3, z0, z1⟩) (fun hHeld => ?_)
  refine wpAnyH_take (i := 0) (v := ?_) rfl (by kernel_rfl) (by kernel_rfl) (by kernel_rfl) (fun _ _ _ h => h) (Or.inl ⟨by rfl, ?_⟩) (by assumption) ?_
  rotate_left
  · (intro w hSw; (try dsimp only at hSw); go_simp; try (with_reducible rfl))
  try simp only [Act.put, List.setIfInBounds_toArray, List.set_cons_zero, List.set_cons_succ, List.getElem_toArray, List.getElem_cons_zero]
  refine wpAnyH_take (i := 1) (v := ?_) rfl (by kernel_rfl) (by kernel_rfl) (by kernel_rfl) (fun _ _ _ h => h) (Or.inl ⟨by rfl, ?_⟩) (by assumption) ?_
  rotate_left
  · (intro w hSw; (try dsimp only at hSw); go_simp; try (with_reducible rfl))
  try simp only [Act.put, List.setIfInBounds_toArray, List.set_cons_zero, List.set_cons_succ, List.getElem_toArray, List.getElem_cons_zero, List.getElem_cons_succ]
  refine wpAnyH_take (i := 2) (v := ?_) rfl (by kernel_rfl) (by kernel_rfl) (by kernel_rfl) (fun _ _ _ h => h) (Or.inl ⟨by rfl, ?_⟩) (by assumption) ?_
  rotate_left
  · (intro w hSw; (try dsimp only at hSw); go_simp; try (with_reducible rfl))
  try simp only [Act.put, List.setIfInBounds_toArray, List.set_cons_zero, List.set_cons_succ, List.getElem_toArray, List.getElem_cons_zero, List.getElem_cons_succ]
  refine wpAnyH_take (i := 3) (v := ?_) rfl (by kernel_rfl) (by kernel_rfl) (by kernel_rfl) (fun _ _ _ h => h) (Or.inl ⟨by rfl, ?_⟩) (by assumption) ?_
  rotate_left
  · (intro w hSw; (try dsimp only at hSw); go_simp; try (with_reducible rfl))
  try simp only [Act.put, List.setIfInBounds_toArray, List.set_cons_zero, List.set_cons_succ, List.getElem_toArray, List.getElem_cons_zero, List.getElem_cons_succ]
  refine wpAnyH_take (i := 4) (v := ?_) rfl (by kernel_rfl) (by kernel_rfl) (by kernel_rfl) (fun _ _ _ h => h) (Or.inl ⟨by rfl, ?_⟩) (by assumption) ?_
  rotate_left
  · (intro w hSw; (try dsimp only at hSw); go_simp; try (with_reducible rfl))
  try simp only [Act.put, List.setIfInBounds_toArray, List.set_cons_zero, List.set_cons_succ, List.getElem_toArray, List.getElem_cons_zero, List.getElem_cons_succ]
  refine wpAnyH_take (i := 5) (v := ?_) rfl (by kernel_rfl) (by kernel_rfl) (by kernel_rfl) (fun _ _ _ h => h) (Or.inl ⟨by rfl, ?_⟩) (by assumption) ?_
  rotate_left
  · (intro w hSw; (try dsimp only at hSw); go_simp; try (with_reducible rfl))
  try simp only [Act.put, List.setIfInBounds_toArray, List.set_cons_zero, List.set_cons_succ, List.getElem_toArray, List.getElem_cons_zero, List.getElem_cons_succ]
  refine wpAnyH_take (i := 6) (v := ?_) rfl (by kernel_rfl) (by kernel_rfl) (by kernel_rfl) (fun _ _ _ h => h) (Or.inl ⟨by rfl, ?_⟩) (by assumption) ?_
  rotate_left
  · (intro w hSw; (try dsimp only at hSw); go_simp; try (with_reducible rfl))
  try simp only [Act.put, List.setIfInBounds_toArray, List.set_cons_zero, List.set_cons_succ, List.getElem_toArray, List.getElem_cons_zero, List.getElem_cons_succ]
  obtain ⟨wA, hwA⟩ : ∃ wA, (w3.alloc (.cells #[.int .i64 0, .int .i64 0, .slice none 0 0] 93)).drew = wA := ⟨_, rfl⟩
  have hbA : Below w3.heap.size w3 wA := by rw [← hwA]; exact bD (bA (Below.refl _ _) _)
  have hA0 : wA.heap[w3.heap.size]? = some (.cells #[.int .i64 0, .int .i64 0, .slice none 0 0] 93 (0, 0)) := by rw [← hwA]; exact heap_new w3 _
  have hcA := Chg.below hbA (fun _ => False)
  have ha3 := (HP3.out.chg hcA (fun e => e)).cells.2.2.2.1
  have hae := hcA.box HE3.out (fun e => e)
  have HA0 := Lib.hid hA0
  have HBA := Lib.hid hbA
  have HWA := Lib.hid hwA
  clear hwA hbA hcA
  refine wpAnyH_ready (rs := [7]) (by kernel_rfl) (by simp) ?_
  refine AllReadyH.cons rfl (fun K hK => ?_) AllReadyH.nil
  go_simp
  rw [HWA.out]
  refine hK.out _ _ ((by exact ⟨ha3, by rw [cell_in hae]; rfl, by rw [cell_in hae]; rfl⟩)) (fun hHeld2 => ?_)
  clear hK K hHeld
  have hHeld := hHeld2
  clear hHeld2
  try simp only [Act.put, List.setIfInBounds_toArray, List.set_cons_zero, List.set_cons_succ, List.getElem_toArray, List.getElem_cons_zero, List.getElem_cons_succ]
  obtain ⟨C, hC⟩ : ∃ C, w3.heap.size = C := ⟨_, rfl⟩
  rw [hC] at hA0 HA0 ⊢
  have HC := Lib.hid hC
  have q0 : wA.cell? ⟨C, 0, none⟩ = some (.int .i64 0) := by rw [cell_in hA0]; rfl
  have q1 : wA.cell? ⟨C, 1, none⟩ = some (.int .i64 0) := by rw [cell_in hA0]; rfl
  have q2 : wA.cell? ⟨C, 2, none⟩ = some (.slice none 0 0) := by rw [cell_in hA0]; rfl
  have g0 := frozen_in hA0 0
  have g1' := frozen_in hA0 1
  have g2 := frozen_in hA0 2
  have hc5 := set3_chg wA C (.int .i64 (g1 : Int)) (.int .i64 (st : Int)) (.slice p L cc)
  have hh5 := set3_heap hA0 (.int .i64 (g1 : Int)) (.int .i64 (st : Int)) (.slice p L cc)
  have HC5 := Lib.hid hc5
  have HH5 := Lib.hid hh5
  clear hA0 hC hc5 hh5
  refine wpAnyH_ready (rs := [8]) (by kernel_rfl) (by simp) ?_
  refine AllReadyH.cons rfl (fun K hK => ?_) AllReadyH.nil
  go_simp
  show K _ (set3 wA C (.int .i64 (g1 : Int)) (.int .i64 (st : Int)) (.slice p L cc))
  generalize hw5 : set3 wA C (.int .i64 (g1 : Int)) (.int .i64 (st : Int)) (.slice p L cc) = w5 at *
  have hPC : ¬ (P = C) := by have := HP3.out.lt; have := HC.out; omega
  have hKC : ¬ (K0 = C) := by have := (Array.getElem?_eq_some_iff.1 HE3.out).1; have := HC.out; omega
  have hA5 := HC5.out.box hae hKC
  refine hK.out _ _ ((by exact ⟨((HP3.out.chg (Chg.below HBA.out (fun _ => False)) (fun e => e)).chg HC5.out hPC).cells.2.2.2.1, by rw [cell_in hA5]; rfl, by rw [cell_in hA5]; rfl⟩)) (fun hHeld2 => ?_)
  clear hK K hHeld
  have hHeld := hHeld2
  clear hHeld2
  try simp only [Act.put, List.setIfInBounds_toArray, List.set_cons_zero, List.set_cons_succ, List.getElem_toArray, List.getElem_cons_zero, List.getElem_cons_succ]
  refine wpAnyH_done (by kernel_rfl) ?_ _
  refine NoPanic.normal ?_
  clear hHeld ha3 hae q0 q1 q2 g0 g1' g2 hw5 hA5 z0 z1 z3 y1
  have hbb : Below w.heap.size w w3 := bT HB.out HB3.out
  have hcb5 : Below w3.heap.size w3 w5 := HC5.out.on HBA.out HBA.out.size (fun k e => by rw [e, HC.out]; exact Nat.le_refl _)
  have HB5 := Lib.hid (show Below w.heap.size w w5 from hbb.trans (hcb5.mono hbb.size))
  have hc35 := Chg.below hcb5 (fun _ => False)
  have HP5 := Lib.hid (HP3.out.chg hc35 (fun e => e))
  have hD5 := (HD1.out.on HB3.out).on hcb5
  have hI5 := (HIN1.out.on HB3.out).on hcb5
  have hwr := hwr2.out w5 hI5 HP5.out hD5
  rw [← HL0.out] at hwr
  have v0 : w5.cell? ⟨C, 0, none⟩ = some (.int .i64 g1) := by rw [cell_in HH5.out]; rfl
  have v1 : w5.cell? ⟨C, 1, none⟩ = some (.int .i64 st) := by rw [cell_in HH5.out]; rfl
  have v2 : w5.cell? ⟨C, 2, none⟩ = some (.slice p L cc) := by rw [cell_in HH5.out]; rfl
  clear hbb hcb5 hc35 hD5 hI5 hPC hKC
  go_wp2_with fail
  refine hwr.mono ?_
  clear hwr
  rintro e3 w6 h3
  have HCC := Lib.hid (show C ≠ D ∧ C ≠ g ∧ C ≠ P from by have h1 := HC.out; have h2 := HB3.out.size; have h3 := HB.out.size; have h4 := HP3.out.lt; omega)
  rcases h3 with ⟨rfl, hd6, hc6⟩ | ⟨rfl, hz, S', v', ws', hd6, hh6, hc6, hv6⟩
  · have hL6 := HP5.out.chg hc6 (by rintro (e | e); exact hPD e; exact hPg e)
    have hC6 := hc6.box HH5.out (by rintro (e | e); exact HCC.out.1 e; exact HCC.out.2.1 e)
    have u0 : w6.cell? ⟨C, 0, none⟩ = some (.int .i64 g1) := by rw [cell_in hC6]; rfl
    have fz3 := frozen_in hL6 3
    have kk3 := hL6.cells.2.2.2.1
    have HX := Lib.hid (show _ ∧ _ from ⟨hd6, hc6⟩)
    have HL6 := Lib.hid hL6
    clear hd6 hc6 hL6 hC6
    go_wp2
    go_ret
    have hc7 := Chg.setCell w6 ⟨P, 3, none⟩ (.int .i64 (g1 : Int))
    obtain ⟨c', hd, h1, h2⟩ := HX.out.1
    refine .inl ⟨rfl, ⟨c', hd.chg hc7 (fun e => hPD e.symm) (fun e => hPg e.symm) (fun k hk => by cases hk), h1, h2⟩, sl_set3 HL6.out g1, ?_⟩
    exact ((Chg.below HB5.out _).trans (HX.out.2.weaken (fun k _ e => .inr e))).trans (hc7.weaken (fun k _ e => .inl e))
  · have hL6 := HP5.out.chg hc6 (by rintro (e | e); exact hPD e; exact hPg e)
    have fz4 := frozen_in hL6 4
    have kk4 := hL6.cells.2.2.2.2
    have HX := Lib.hid (show _ ∧ _ ∧ _ ∧ _ from ⟨hd6, hh6, hc6, hv6⟩)
    have HL6 := Lib.hid hL6
    clear hd6 hh6 hc6 hv6 hL6
    go_wp2
    go_ret
    have hc7 := Chg.setCell w6 ⟨P, 4, none⟩ (.bool true)
    refine .inr ⟨rfl, hz, ⟨S', v', ws', HX.out.1.chg hc7 (fun e => hPD e.symm) (fun e => hPg e.symm) (fun k hk e => ?_), HX.out.2.1, fun k hk => ?_⟩, sl_set4 HL6.out true, ((Chg.below HB5.out _).trans (HX.out.2.2.1.weaken (fun k _ e => .inr e))).trans (hc7.weaken (fun k _ e => .inl e))⟩
    · have h1 := HX.out.2.2.2 k hk
      have h3 := HB5.out.size
      have e' : k = P := e
      omega
    · have h1 := HX.out.2.2.2 k hk
      have h3 := HB5.out.size
      omega
end Go.Proofs.Ytgcifhhbhoafcaa
