/-
  A checkpoint written.
-/
import Derived.Test.YtgcifhhbhoafcaaSlotFlush
namespace Go.Proofs.Ytgcifhhbhoafcaa
open Go.RowKit Go.Shelf
attribute [local go_sem] Oper.semAt_some

set_option maxRecDepth 20000 in
set_option maxHeartbeats 4000000 in
theorem swrite_any (P D f m gn gn' a : Nat) (g : Nat) (S : List Sec) (c : Int) (hl : -9223372036854775808 ≤ c ∧ c ≤ 9223372036854775807) (st : Nat) (p : Option Addr) (cc : Nat) (body : List UInt8) (hbl : body.length ≤ 600000) (hcb : body.length ≤ cc) (hcc : cc ≤ 9223372036854775807) (hgn : gn' < 9223372036854775808) (ha : a = f + gn' % 2 * m) (hfit : (padS body).length + 1 ≤ m) (hfm : f + 2 * m ≤ S.length) (w : World) (hin : InAt w p body) (hne : ∀ b o, p = some ⟨b, o, none⟩ → 0 < body.length → b ≠ D ∧ b ≠ g)
    (HL : SlAt w P D f m gn false) (H : DiskAt w D g S (.slice none 0 0) [] c) (hDg : D ≠ g) (hPD : P ≠ D) (hPg : P ≠ g) :
    Calls Try.prog 45 #[.pointer (some ⟨P, 0, none⟩), .agg #[.int .i64 gn', .int .i64 st, .slice p body.length cc]] w fun e w' =>
      (e = .returned (.int .i64 0) ∧ (∃ c', DiskAt w' D g (putS S a (hdrS gn' st body :: padS body)) (.slice none 0 0) [] c' ∧ (c < 0 → c' = c) ∧ (-9223372036854775808 ≤ c' ∧ c' ≤ 9223372036854775807)) ∧ Chg (fun k => k = D ∨ k = g) w w')
      ∨ (e = .returned (.int .i64 20) ∧ 0 ≤ c ∧ ∃ S' v' ws', DiskAt w' D g S' v' ws' 0 ∧ HalfS S a gn' st body S' ws' ∧ Chg (fun k => k = D ∨ k = g) w w' ∧ (∀ k, v'.ownBlock = some k → w.heap.size ≤ k)) := by
  obtain ⟨k0, k1, k2, k3, k4⟩ := HL.cells
  have hNf := H.few
  have hDl : D < w.heap.size := (Array.getElem?_eq_some_iff.1 H.box).1
  have hgl : g < w.heap.size := (Array.getElem?_eq_some_iff.1 H.dur).1
  have hPl : P < w.heap.size := HL.lt
  have hpl := padS_len body
  obtain ⟨pp, hpp⟩ : ∃ pp, pp = gn' % 2 := ⟨_, rfl⟩
  have hpb : pp ≤ 1 := by omega
  have hslot := fun W => slot_any gn' hgn (.int .i64 st) (.slice p body.length cc) W
  simp only [← hpp] at hslot ha
  obtain ⟨km, hkm⟩ : ∃ km, km = pp * m := ⟨_, rfl⟩
  have hkmb : km ≤ m := by
    match pp, hpb with
    | 0, _ => omega
    | 1, _ => omega
  rw [← hkm] at ha
  have hki : (pp : Int) * (m : Int) = (km : Int) := by rw [hkm]; simp
  have hq0 : IntKind.i64.wrap (km : Int) = (km : Int) := by rw [IntKind.wrap_i64]; omega
  have hq1 : (f : Int) + (km : Int) = (a : Int) := by omega
  have hq : IntKind.i64.wrap (a : Int) = (a : Int) := by rw [IntKind.wrap_i64]; omega
  have HLL := Lib.hid HL
  have HH := Lib.hid H
  have HIN := Lib.hid hin
  have hal : a + 1 + (padS body).length ≤ S.length := by omega
  have hab : a ≤ 65536 := by omega
  have HAI := Lib.hid (show ((a : Int) + 1) = ((a + 1 : Nat) : Int) by omega)
  have HPL := Lib.hid hpl
  obtain ⟨Z, hZ⟩ : ∃ Z, Z = (List.replicate 64 (Value.int .u8 0)).toArray := ⟨_, rfl⟩
  have hz := zero_sc
  rw [← hZ] at hz
  have HZS := Lib.hid (show Z.size = 64 by rw [hZ]; rfl)
  have HHL := Lib.hid (show (bCells (hdrS gn' st body)).length = 64 by rw [bCells_len]; exact hdrS_len gn' st body)
  clear hZ
  clear HL H hin ha hpl hpp hkm
  obtain ⟨bl, hbl0⟩ : ∃ bl, bl = body.length := ⟨_, rfl⟩
  have HBL := Lib.hid hbl0
  rw [← hbl0] at hbl hcb hslot ⊢
  clear hbl0
  obtain ⟨K0, hK0⟩ : ∃ K0, w.heap.size = K0 := ⟨_, rfl⟩
  obtain ⟨w1, hw1⟩ : ∃ w1, w.alloc (.cells #[.int .i64 (gn' : Int), .int .i64 (st : Int), .slice p bl cc] 93) = w1 := ⟨_, rfl⟩
  have hK1 : w1.heap[K0]? = some (.cells #[.int .i64 (gn' : Int), .int .i64 (st : Int), .slice p bl cc] 93 (0, 0)) := by rw [← hw1, ← hK0]; exact heap_new w _
  have hb1 : Below w.heap.size w w1 := by rw [← hw1]; exact bA (Below.refl _ _) _
  have HSOF := Lib.hid (show ∀ W, Below w1.heap.size w1 W → W.cell? ⟨P, 1, none⟩ = some (.int .i64 f) ∧ W.cell? ⟨P, 2, none⟩ = some (.int .i64 m) ∧ W.cell? ⟨K0, 0, none⟩ = some (.int .i64 gn') ∧ W.cell? ⟨K0, 1, none⟩ = some (.int .i64 st) ∧ W.cell? ⟨K0, 2, none⟩ = some (.slice p bl cc) from fun W hW => by
    have hcW := Chg.below hW (fun _ => False)
    have h1 := ((HLL.out.chg (Chg.below hb1 (fun _ => False)) (fun e => e)).chg hcW (fun e => e)).cells
    have h2 := hcW.box hK1 (fun e => e)
    exact ⟨h1.2.1, h1.2.2.1, by rw [cell_in h2]; rfl, by rw [cell_in h2]; rfl, by rw [cell_in h2]; rfl⟩)
  have HK1 := Lib.hid hK1
  have HB1 := Lib.hid hb1
  have HK0 := Lib.hid hK0
  clear hK1 hb1
  go_enter Try.func45, Try.ntmps45
  go_wp2_with fail
  first | rw [hw1] | skip
  clear hw1
  first | rw [hK0] | skip
  clear hK0
  refine wp_region_noPanic ?_
  refine wp_region_held_drew (S := fun W => W.cell? ⟨P, 1, none⟩ = some (.int .i64 f) ∧ W.cell? ⟨P, 2, none⟩ = some (.int .i64 m) ∧ W.cell? ⟨K0, 0, none⟩ = some (.int .i64 gn') ∧ W.cell? ⟨K0, 1, none⟩ = some (.int .i64 st) ∧ W.cell? ⟨K0, 2, none⟩ = some (.slice p bl cc)) (by kernel_rfl) ((by exact HSOF.out _ (bD (Below.refl _ _)))) (fun hHeld => ?_)
  refine wpAnyH_take (i := 0) (v := ?_) rfl (by kernel_rfl) (by kernel_rfl) (by kernel_rfl) (fun _ _ _ h => h) (Or.inl ⟨by rfl, ?_⟩) (by assumption) ?_
  rotate_left
  · (intro w hSw; (try dsimp only at hSw); go_simp; try (with_reducible rfl))
  try simp only [Act.put, List.setIfInBounds_toArray, List.set_cons_zero, List.set_cons_succ, List.getElem_toArray, List.getElem_cons_zero]
  refine wpAnyH_take (i := 1) (v := ?_) rfl (by kernel_rfl) (by kernel_rfl) (by kernel_rfl) (fun _ _ _ h => h) (Or.inl ⟨by rfl, ?_⟩) (by assumption) ?_
  rotate_left
  · (intro w hSw; (try dsimp only at hSw); go_simp; try (with_reducible rfl))
  try simp only [Act.put, List.setIfInBounds_toArray, List.set_cons_zero, List.set_cons_succ, List.getElem_toArray, List.getElem_cons_zero, List.getElem_cons_succ]
  refine wpAnyH_take (i := 2) (v := ?_) rfl (by kernel_rfl) (by kernel_rfl) (by kernel_rfl) (fun _ _ _ h => h) (Or.inl ⟨by rfl, ?_⟩) (by assumption) ?_
  rotate_left
  · (intro w hSw; (try dsimp only at hSw); go_simp; try (with_reducible rfl))
  try simp only [Act.put, List.setIfInBounds_toArray, List.set_cons_zero, List.set_cons_succ, List.getElem_toArray, List.getElem_cons_zero, List.getElem_cons_succ]
  refine wpAnyH_take (i := 3) (v := ?_) rfl (by kernel_rfl) (by kernel_rfl) (by kernel_rfl) (fun _ _ _ h => h) (Or.inl ⟨by rfl, ?_⟩) (by assumption) ?_
  rotate_left
  · (intro w hSw; (try dsimp only at hSw); go_simp; try (with_reducible rfl))
  try simp only [Act.put, List.setIfInBounds_toArray, List.set_cons_zero, List.set_cons_succ, List.getElem_toArray, List.getElem_cons_zero, List.getElem_cons_succ]
  refine wpAnyH_take (i := 4) (v := ?_) rfl (by kernel_rfl) (by kernel_rfl) (by kernel_rfl) (fun _ _ _ h => h) (Or.inl ⟨by rfl, ?_⟩) (by assumption) ?_
  rotate_left
  · (intro w hSw; (try dsimp only at hSw); go_simp; try (with_reducible rfl))
  try simp only [Act.put, List.setIfInBounds_toArray, List.set_cons_zero, List.set_cons_succ, List.getElem_toArray, List.getElem_cons_zero, List.getElem_cons_succ]
  refine wpAnyH_take (i := 6) (v := ?_) rfl (by kernel_rfl) (by kernel_rfl) (by kernel_rfl) (fun _ _ _ h => h) (Or.inl ⟨by rfl, ?_⟩) (by assumption) ?_
  rotate_left
  · (intro w hSw; (try dsimp only at hSw); go_simp; try (with_reducible rfl))
  try simp only [Act.put, List.setIfInBounds_toArray, List.set_cons_zero, List.set_cons_succ, List.getElem_toArray, List.getElem_cons_zero, List.getElem_cons_succ]
  refine wpAnyH_take (i := 7) (v := ?_) rfl (by kernel_rfl) (by kernel_rfl) (by kernel_rfl) (fun _ _ _ h => h) (Or.inl ⟨by rfl, ?_⟩) (by assumption) ?_
  rotate_left
  · (intro w hSw; (try dsimp only at hSw); go_simp; try (with_reducible rfl))
  try simp only [Act.put, List.setIfInBounds_toArray, List.set_cons_zero, List.set_cons_succ, List.getElem_toArray, List.getElem_cons_zero, List.getElem_cons_succ]
  refine wpAnyH_take (i := 8) (v := ?_) rfl (by kernel_rfl) (by kernel_rfl) (by kernel_rfl) (fun _ _ _ h => h) (Or.inl ⟨by rfl, ?_⟩) (by assumption) ?_
  rotate_left
  · (intro w hSw; (try dsimp only at hSw); go_simp; try (with_reducible rfl))
  try simp only [Act.put, List.setIfInBounds_toArray, List.set_cons_zero, List.set_cons_succ, List.getElem_toArray, List.getElem_cons_zero, List.getElem_cons_succ]
  refine wpAnyH_take (i := 9) (v := ?_) rfl (by kernel_rfl) (by kernel_rfl) (by kernel_rfl) (fun _ _ _ h => h) (Or.inl ⟨by rfl, ?_⟩) (by assumption) ?_
  rotate_left
  · (intro w hSw; (try dsimp only at hSw); go_simp; try (with_reducible rfl))
  try simp only [Act.put, List.setIfInBounds_toArray, List.set_cons_zero, List.set_cons_succ, List.getElem_toArray, List.getElem_cons_zero, List.getElem_cons_succ]
  refine wpAnyH_ready (rs := [5]) (by kernel_rfl) (by simp) ?_
  refine AllReadyH.cons rfl (fun K hK => ?_) AllReadyH.nil
  go_simp
  go_at_call 58
  refine (hslot _).mono ?_
  rintro e6 w2 ⟨rfl, hb2⟩
  have hbE : Below w1.heap.size w1 w2 := (bD (Below.refl w1.heap.size w1)).trans hb2
  refine hK.out _ _ ((by exact HSOF.out _ hbE)) (fun hHeld2 => ?_)
  clear hK K hHeld
  have hHeld := hHeld2
  clear hHeld2
  try simp only [Act.put, List.setIfInBounds_toArray, List.set_cons_zero, List.set_cons_succ, List.getElem_toArray, List.getElem_cons_zero, List.getElem_cons_succ]
  refine wpAnyH_take (i := 10) (v := ?_) rfl (by kernel_rfl) (by kernel_rfl) (by kernel_rfl) (fun _ _ _ h => h) (Or.inl ⟨by rfl, ?_⟩) (by assumption) ?_
  rotate_left
  · (intro w hSw; (try dsimp only at hSw); go_simp; try (with_reducible rfl))
  try simp only [Act.put, List.setIfInBounds_toArray, List.set_cons_zero, List.set_cons_succ, List.getElem_toArray, List.getElem_cons_zero, List.getElem_cons_succ]
  refine wpAnyH_take (i := 11) (v := ?_) rfl (by kernel_rfl) (by kernel_rfl) (by kernel_rfl) (fun _ _ _ h => h) (Or.inl ⟨by rfl, ?_⟩) (by assumption) ?_
  rotate_left
  · (intro w hSw; (try dsimp only at hSw); go_simp; try (with_reducible rfl))
  try simp only [Act.put, List.setIfInBounds_toArray, List.set_cons_zero, List.set_cons_succ, List.getElem_toArray, List.getElem_cons_zero, List.getElem_cons_succ]
  refine wpAnyH_take (i := 12) (v := ?_) rfl (by kernel_rfl) (by kernel_rfl) (by kernel_rfl) (fun _ _ _ h => h) (Or.inl ⟨by rfl, ?_⟩) (by assumption) ?_
  rotate_left
  · (intro w hSw; (try dsimp only at hSw); go_simp; try (with_reducible rfl))
  try simp only [Act.put, List.setIfInBounds_toArray, List.set_cons_zero, List.set_cons_succ, List.getElem_toArray, List.getElem_cons_zero, List.getElem_cons_succ]
  refine wpAnyH_done (by kernel_rfl) ?_ _
  refine NoPanic.normal ?_
  clear hHeld hb2 hslot
  have hcd := (Chg.below HB1.out (fun k => k = D ∨ k = g)).trans (Chg.below hbE _)
  have HCD := Lib.hid hcd
  have hsz : w.heap.size ≤ w2.heap.size := hcd.size
  have HLw2 := Lib.hid (HLL.out.chg ((Chg.below HB1.out (fun _ => False)).trans (Chg.below hbE _)) (fun e => e))
  have HDw2 := Lib.hid ((HH.out.on HB1.out).on hbE)
  have HINw2 := Lib.hid ((HIN.out.on HB1.out).on hbE)
  have HS2 := Lib.hid (show ∀ W, Below w2.heap.size w2 W → W.cell? ⟨K0, 0, none⟩ = some (.int .i64 gn') ∧ W.cell? ⟨K0, 1, none⟩ = some (.int .i64 st) ∧ W.cell? ⟨K0, 2, none⟩ = some (.slice p bl cc) from fun W hW => (HSOF.out W (hbE.trans (hW.mono hbE.size))).2.2)
  have HKW := Lib.hid (show w2.heap[K0]? = some (.cells #[.int .i64 (gn' : Int), .int .i64 (st : Int), .slice p bl cc] 93 (0, 0)) from (Chg.below hbE (fun _ => False)).box HK1.out (fun e => e))
  clear hbE hcd k0 k1 k2 k3 k4
  obtain ⟨j0, j1, j2⟩ := HS2.out w2 (Below.refl _ _)
  by_cases h0 : bl = 0
  · subst h0
    have hnil : body = [] := List.eq_nil_of_length_eq_zero (by have := HBL.out; omega)
    have hpn : padS body = [] := by rw [hnil]; rfl
    have hhd := sheader_any gn' st p cc body (by have := HBL.out; omega) w2 HINw2.out
    rw [← HBL.out] at hhd
    have HPN := Lib.hid hpn
    clear hpn hnil
    go_wp2_with fail
    refine hhd.mono ?_
    rintro e1 w3 ⟨rfl, hb3⟩
    obtain ⟨w4, hw4⟩ : ∃ w4, w3.alloc (.cells (bCells (hdrS gn' st body)).toArray 115) = w4 := ⟨_, rfl⟩
    have hB4 := heap_new w3 (.cells (bCells (hdrS gn' st body)).toArray 115)
    have hb4 : Below w3.heap.size w3 w4 := by rw [← hw4]; exact bA (Below.refl _ _) _
    rw [hw4] at hB4
    have hb34 : Below w2.heap.size w2 w4 := hb3.trans (hb4.mono hb3.size)
    have hc34 := Chg.below hb34 (fun _ => False)
    have hsz3 := hb3.size
    have hDw : D < w2.heap.size := (Array.getElem?_eq_some_iff.1 HDw2.out.box).1
    have hfl := shead_flush P D f m gn false g S c hl a (hdrS gn' st body) (hdrS_len gn' st body) (by omega) w3.heap.size w4 (HLw2.out.chg hc34 (fun e => e)) (HDw2.out.on hb34) hDg hPD (in_blockT hB4) (by omega)
    have HB34 := Lib.hid hb34
    have HW4 := Lib.hid hw4
    clear hb3 hb4 hB4 hb34 hc34 hhd hw4
    go_wp2_with (refine wpList_plain rfl (fun _ hK => ?_); refine wp_store_new 115 (.tmp 7) (.tmp 36) rfl Z (bCells (hdrS gn' st body)).toArray rfl rfl (by rw [List.size_toArray, HHL.out]; exact size_sc) (by rw [HZS.out, List.size_toArray, HHL.out]) (all_oneCell_toArray (bCells_one _)) (hK _ _ ?_); clear hK)
    rw [HW4.out]
    refine hfl.mono ?_
    rintro e2 w5 h2
    rcases h2 with ⟨rfl, hz1, hz2, hd2, hc2⟩ | ⟨rfl, hz1, v2, ws2, hd2, hw2, hc2, hv2⟩
    · have HX := Lib.hid (show _ ∧ _ from ⟨hd2, hc2⟩)
      clear hd2 hc2 hfl
      go_wp2
      go_ret
      refine .inl ⟨rfl, ⟨_, by rw [HPN.out]; exact HX.out.1, fun h => by rw [less_neg h, less_neg h], less_low (less_low hl)⟩, ?_⟩
      exact (HCD.out.trans (Chg.below HB34.out _)).trans HX.out.2
    · have HX := Lib.hid (show _ ∧ _ ∧ _ ∧ _ from ⟨hd2, hw2, hc2, hv2⟩)
      clear hd2 hw2 hc2 hv2 hfl
      go_wp2
      go_ret
      refine .inr ⟨rfl, hz1, S, v2, ws2, HX.out.1, .inr ⟨by rw [HPN.out]; simp [putS], HX.out.2.1⟩, (HCD.out.trans (Chg.below HB34.out _)).trans (HX.out.2.2.1.weaken (fun k _ e => .inl e)), fun k hk => ?_⟩
      have := HX.out.2.2.2 k hk
      have := HB34.out.size
      omega
  · have d0 : decide ((0 : Int) < (bl : Int)) = true := decide_eq_true (by omega)
    have d0' : decide (0 < bl) = true := decide_eq_true (by omega)
    obtain ⟨pb, po, hpp, hpr⟩ := HINw2.out (by have := HBL.out; omega)
    subst hpp
    have hnpD := (hne pb po rfl (by have := HBL.out; omega)).1
    have hnpg := (hne pb po rfl (by have := HBL.out; omega)).2
    have hfl1 := sbody_flush P D f m gn false g S c hl (a + 1) body (by have := HBL.out; omega) (by have := HBL.out; omega) hal pb po cc (by have := HBL.out; omega) hcc w2 HLw2.out HDw2.out hDg hPD hpr hnpD
    rw [← HBL.out] at hfl1
    clear hpr hne
    go_wp2_with fail
    first | rw [HAI.out] | skip
    refine hfl1.mono ?_
    rintro e2 w6 h2
    rcases h2 with ⟨rfl, hz1, hz2, hd2, hc2⟩ | ⟨rfl, hz1, v2, ws2, hd2, hw2, hc2, hv2⟩
    · have HDw6 := Lib.hid hd2
      have HC6 := Lib.hid hc2
      have hKP : w2.heap[K0]? = some _ := HKW.out
      have hK0D : ¬ (K0 = D ∨ K0 = g) := by rintro (e | e) <;> (have := HK0.out; omega)
      have HK6 := Lib.hid (hc2.box HKW.out hK0D)
      have HLw6 := Lib.hid (HLw2.out.chg hc2 (by rintro (e | e); exact hPD e; exact hPg e))
      have HIN6 := Lib.hid (HINw2.out.chg hc2 (fun b o e => by cases e; rintro (e | e); exact hnpD e; exact hnpg e))
      have j60 : w6.cell? ⟨K0, 0, none⟩ = some (.int .i64 gn') := by rw [cell_in HK6.out]; rfl
      have j61 : w6.cell? ⟨K0, 1, none⟩ = some (.int .i64 st) := by rw [cell_in HK6.out]; rfl
      have j62 : w6.cell? ⟨K0, 2, none⟩ = some (.slice (some ⟨pb, po, none⟩) bl cc) := by rw [cell_in HK6.out]; rfl
      have hhd := sheader_any gn' st (some ⟨pb, po, none⟩) cc body (by have := HBL.out; omega) w6 HIN6.out
      rw [← HBL.out] at hhd
      clear hd2 hc2 hfl1 hKP
      go_wp2_with fail
      refine hhd.mono ?_
      rintro e1 w3 ⟨rfl, hb3⟩
      obtain ⟨w4, hw4⟩ : ∃ w4, w3.alloc (.cells (bCells (hdrS gn' st body)).toArray 115) = w4 := ⟨_, rfl⟩
      have hB4 := heap_new w3 (.cells (bCells (hdrS gn' st body)).toArray 115)
      have hb4 : Below w3.heap.size w3 w4 := by rw [← hw4]; exact bA (Below.refl _ _) _
      rw [hw4] at hB4
      have hb34 : Below w6.heap.size w6 w4 := hb3.trans (hb4.mono hb3.size)
      have hc34 := Chg.below hb34 (fun _ => False)
      have hsz3 := hb3.size
      have hDw : D < w6.heap.size := (Array.getElem?_eq_some_iff.1 HDw6.out.box).1
      have hfl := shead_flush P D f m gn false g (putS S (a + 1) (padS body)) (less (less c)) (less_low (less_low hl)) a (hdrS gn' st body) (hdrS_len gn' st body) (by rw [putS_len hal]; omega) w3.heap.size w4 (HLw6.out.chg hc34 (fun e => e)) (HDw6.out.on hb34) hDg hPD (in_blockT hB4) (by omega)
      have HB34 := Lib.hid hb34
      have HW4 := Lib.hid hw4
      clear hb3 hb4 hB4 hb34 hc34 hhd hw4
      go_wp2_with (refine wpList_plain rfl (fun _ hK => ?_); refine wp_store_new 115 (.tmp 7) (.tmp 36) rfl Z (bCells (hdrS gn' st body)).toArray rfl rfl (by rw [List.size_toArray, HHL.out]; exact size_sc) (by rw [HZS.out, List.size_toArray, HHL.out]) (all_oneCell_toArray (bCells_one _)) (hK _ _ ?_); clear hK)
      rw [HW4.out]
      refine hfl.mono ?_
      rintro e2 w5 h2
      rcases h2 with ⟨rfl, hz1, hz2, hd2, hc2⟩ | ⟨rfl, hz1, v2, ws2, hd2, hw2, hc2, hv2⟩
      · have HX := Lib.hid (show _ ∧ _ from ⟨hd2, hc2⟩)
        clear hd2 hc2 hfl
        go_wp2
        go_ret
        have hsp := sput_put S (padS body) a (hdrS gn' st body) hal
        refine .inl ⟨rfl, ⟨_, by rw [← hsp]; exact HX.out.1, fun h => by rw [less_neg h, less_neg h, less_neg h, less_neg h], less_low (less_low (less_low (less_low hl)))⟩, ?_⟩
        exact ((HCD.out.trans HC6.out).trans (Chg.below HB34.out _)).trans HX.out.2
      · have HX := Lib.hid (show _ ∧ _ ∧ _ ∧ _ from ⟨hd2, hw2, hc2, hv2⟩)
        clear hd2 hw2 hc2 hv2 hfl
        go_wp2
        go_ret
        have hpos : 0 ≤ c := by
          refine Int.not_lt.1 (fun h => ?_)
          rw [less_neg h, less_neg h] at hz1
          omega
        refine .inr ⟨rfl, hpos, _, v2, ws2, HX.out.1, .inr ⟨rfl, HX.out.2.1⟩, ((HCD.out.trans HC6.out).trans (Chg.below HB34.out _)).trans (HX.out.2.2.1.weaken (fun k _ e => .inl e)), fun k hk => ?_⟩
        have := HX.out.2.2.2 k hk
        have := HB34.out.size
        have := HC6.out.size
        omega
    · have HX := Lib.hid (show _ ∧ _ ∧ _ ∧ _ from ⟨hd2, hw2, hc2, hv2⟩)
      clear hd2 hw2 hc2 hv2 hfl1
      go_wp2
      go_ret
      refine .inr ⟨rfl, hz1, S, v2, ws2, HX.out.1, .inl ⟨rfl, HX.out.2.1⟩, HCD.out.trans (HX.out.2.2.1.weaken (fun k _ e => .inl e)), fun k hk => ?_⟩
      have := HX.out.2.2.2 k hk
      omega
end Go.Proofs.Ytgcifhhbhoafcaa
