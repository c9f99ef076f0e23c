/-
  A record written.
-/
import Derived.Test.YtgcifhhbhoafcaaLogFlush
namespace Go.Proofs.Ytgcifhhbhoafcaa
open Go.RowKit Go.Shelf

theorem put_put (S X : List Sec) (a : Nat) (h : Sec) (hl : a + 1 + X.length ≤ S.length) : putS (putS S (a + 1) X) a [h] = putS S a (h :: X) := by
  unfold putS
  rw [List.take_append_of_le_length (by rw [List.length_append, List.length_take]; omega), List.take_append_of_le_length (by rw [List.length_take]; omega), List.take_take, Nat.min_eq_left (by omega), List.length_cons, List.length_nil, Nat.zero_add, List.append_assoc (S.take (a + 1)), List.drop_append, List.drop_eq_nil_of_le (by rw [List.length_take]; omega), List.nil_append, List.length_take, Nat.min_eq_left (by omega), Nat.sub_self, List.drop_zero, List.length_cons, show a + 1 + X.length = a + (X.length + 1) by omega]
  simp
/-- What may lie on the disk when the power fails on the way. -/
def Half (S : List Sec) (a stamp : Nat) (body : List UInt8) (S' : List Sec) (ws' : List Wq) : Prop :=
  (S' = S ∧ (ws' = [] ∨ ws' = (packed body).mapIdx fun i s => (a + 1 + i, s))) ∨ (S' = putS S (a + 1) (packed body) ∧ (ws' = [] ∨ ws' = [(a, hdr stamp body)]))
theorem packed_flat_len (body : List UInt8) : (packed body).flatten.length = (packed body).length * 64 := flat_64 _ (packed_64 body)

set_option maxRecDepth 20000 in
set_option maxHeartbeats 1000000 in
theorem head_flush (P D f n u l : Nat) (off : Bool) (g : Nat) (S : List Sec) (c : Int) (hl : -9223372036854775808 ≤ c ∧ c ≤ 9223372036854775807) (a stamp : Nat) (body : List UInt8) (ha : a < S.length) (B : Nat) (w : World) (HL : LogAt w P D f n u l off) (H : DiskAt w D g S (.slice none 0 0) [] c) (hDg : D ≠ g) (hPD : P ≠ D) (hb : w.heap[B]? = some (.cells (bCells (hdr stamp body)).toArray 5 (0, 0))) (hBD : B ≠ D) :
    Calls Try.prog 62 #[.pointer (some ⟨P, 0, none⟩), .int .i64 a, .slice (some ⟨B, 0, none⟩) 64 64] w fun e w' =>
      (e = .returned (.int .i64 0) ∧ c ≠ 0 ∧ less c ≠ 0 ∧ DiskAt w' D g (putS S a [hdr stamp body]) (.slice none 0 0) [] (less (less c)) ∧ Chg (fun k => k = D ∨ k = g) w w')
      ∨ (e = .returned (.int .i64 20) ∧ 0 ≤ c ∧ ∃ v' ws', DiskAt w' D g S v' ws' 0 ∧ (ws' = [] ∨ ws' = [(a, hdr stamp body)]) ∧ Chg (fun k => k = D) w w' ∧ (∀ k, v'.ownBlock = some k → w.heap.size ≤ k)) := by
  have hlen := hdr_len stamp body
  have h := flush_any P D f n u l off g S c hl a B 0 64 (hdr stamp body) (by rw [hlen]; decide) (by rw [hlen]; decide) (by decide) (by rw [hlen]; omega) (by rw [hlen]; decide) w HL H hDg hPD (in_block hb) hBD
  rw [hlen, pieces_one a _ hlen] at h
  have e : doneS S [(a, hdr stamp body)] = putS S a [hdr stamp body] := by
    have := done_put [hdr stamp body] S a (by simp; omega)
    simpa using this
  rw [e] at h
  exact h
theorem body_flush (P D f n u l : Nat) (off : Bool) (g : Nat) (S : List Sec) (c : Int) (hl : -9223372036854775808 ≤ c ∧ c ≤ 9223372036854775807) (a : Nat) (body : List UInt8) (hb0 : 0 < body.length) (hbl : body.length ≤ 100000) (ha : a + (packed body).length ≤ S.length) (B : Nat) (w : World) (HL : LogAt w P D f n u l off) (H : DiskAt w D g S (.slice none 0 0) [] c) (hDg : D ≠ g) (hPD : P ≠ D) (hb : w.heap[B]? = some (.cells (dCells (packed body)).toArray 5 (0, 0))) (hBD : B ≠ D) :
    Calls Try.prog 62 #[.pointer (some ⟨P, 0, none⟩), .int .i64 a, .slice (some ⟨B, 0, none⟩) ((packed body).length * 64) ((packed body).length * 64)] w fun e w' =>
      (e = .returned (.int .i64 0) ∧ c ≠ 0 ∧ less c ≠ 0 ∧ DiskAt w' D g (putS S a (packed body)) (.slice none 0 0) [] (less (less c)) ∧ Chg (fun k => k = D ∨ k = g) w w')
      ∨ (e = .returned (.int .i64 20) ∧ 0 ≤ c ∧ ∃ v' ws', DiskAt w' D g S v' ws' 0 ∧ (ws' = [] ∨ ws' = (packed body).mapIdx fun i s => (a + i, s)) ∧ Chg (fun k => k = D) w w' ∧ (∀ k, v'.ownBlock = some k → w.heap.size ≤ k)) := by
  have hlen := packed_flat_len body
  have hpl := packed_len body
  have h := flush_any P D f n u l off g S c hl a B 0 ((packed body).length * 64) (packed body).flatten (by rw [hlen]; omega) (by rw [hlen]; exact Nat.le_refl _) (by omega) (by rw [hlen]; omega) (by rw [hlen]; omega) w HL H hDg hPD (in_block (by rw [← dCells_flat]; exact hb)) hBD
  rw [hlen, pieces_flat a _ (packed_64 body), done_put _ _ _ ha] at h
  exact h

set_option maxRecDepth 20000 in
set_option maxHeartbeats 2000000 in
theorem rec_any (P D f n u l : Nat) (g : Nat) (S : List Sec) (c : Int) (hl : -9223372036854775808 ≤ c ∧ c ≤ 9223372036854775807) (stamp : Nat) (p : Option Addr) (cc : Nat) (body : List UInt8) (hbl : body.length ≤ 100000) (hcb : body.length ≤ cc) (hcc : cc ≤ 9223372036854775807) (hfit : u + secs body.length ≤ n) (hfn : f + n ≤ S.length) (w : World) (hin : InAt w p body) (hne : ∀ b o, p = some ⟨b, o, none⟩ → 0 < body.length → b ≠ D ∧ b ≠ g)
    (HL : LogAt w P D f n u l false) (H : DiskAt w D g S (.slice none 0 0) [] c) (hDg : D ≠ g) (hPD : P ≠ D) (hPg : P ≠ g) :
    Calls Try.prog 48 #[.pointer (some ⟨P, 0, none⟩), .int .i64 stamp, .slice p body.length cc] w fun e w' =>
      (e = .returned (.int .i64 0) ∧ (∃ c', DiskAt w' D g (putS S (f + u) (hdr stamp body :: packed body)) (.slice none 0 0) [] c' ∧ (c < 0 → c' = c) ∧ (-9223372036854775808 ≤ c' ∧ c' ≤ 9223372036854775807)) ∧ Chg (fun k => k = D ∨ k = g) w w')
      ∨ (e = .returned (.int .i64 20) ∧ 0 ≤ c ∧ ∃ S' v' ws', DiskAt w' D g S' v' ws' 0 ∧ Half S (f + u) stamp body S' ws' ∧ Chg (fun k => k = D ∨ k = g) w w' ∧ (∀ k, v'.ownBlock = some k → w.heap.size ≤ k)) := by
  obtain ⟨k0, k1, k2, k3, k4, k5⟩ := HL.cells
  have hNf := H.few
  have hDl : D < w.heap.size := (Array.getElem?_eq_some_iff.1 H.box).1
  have hgl : g < w.heap.size := (Array.getElem?_eq_some_iff.1 H.dur).1
  have hPl : P < w.heap.size := HL.lt
  have hpl := packed_len body
  have hsb : secs body.length = 1 + (packed body).length := by rw [hpl]; rfl
  rw [hsb] at hfit
  have hq : IntKind.i64.wrap ((f : Int) + (u : Int)) = ((f + u : Nat) : Int) := by rw [IntKind.wrap_i64]; omega
  have HLL := Lib.hid HL
  have HH := Lib.hid H
  have HIN := Lib.hid hin
  obtain ⟨a, ha⟩ : ∃ a, a = f + u := ⟨_, rfl⟩
  rw [← ha] at hq ⊢
  have hal : a + 1 + (packed body).length ≤ S.length := by omega
  have hab : a ≤ 65536 := by omega
  have hq2 : IntKind.i64.wrap ((a : Int) + 1) = ((a + 1 : Nat) : Int) := by rw [IntKind.wrap_i64]; omega
  have HAI := Lib.hid (show ((a : Int) + 1) = ((a + 1 : Nat) : Int) by omega)
  have HPL := Lib.hid hpl
  have hbd : Below w.heap.size w w.drew := bD (Below.refl _ _)
  clear HL H hin ha hpl hsb
  obtain ⟨bl, hbl0⟩ : ∃ bl, bl = body.length := ⟨_, rfl⟩
  have HBL := Lib.hid hbl0
  rw [← hbl0] at hbl hcb ⊢
  clear hbl0
  go_enter Try.func48, Try.ntmps48
  go_wp2
  refine wp_region_noPanic ?_
  refine wp_region_held_drew (S := fun X => X.cell? ⟨P, 1, none⟩ = some (.int .i64 f) ∧ X.cell? ⟨P, 3, none⟩ = some (.int .i64 u)) (by kernel_rfl) (⟨k1, k3⟩) (fun hHeld => ?_)
  refine wpAnyH_take (i := 0) (v := ?_) rfl (by kernel_rfl) (by kernel_rfl) (by kernel_rfl) (fun _ _ _ h => h) (Or.inl ⟨by rfl, ?_⟩) (by assumption) ?_
  rotate_left
  · (intro w hSw; (try dsimp only at hSw); go_simp; try (with_reducible rfl))
  try simp only [Act.put, List.setIfInBounds_toArray, List.set_cons_zero, List.set_cons_succ, List.getElem_toArray, List.getElem_cons_zero]
  refine wpAnyH_take (i := 1) (v := ?_) rfl (by kernel_rfl) (by kernel_rfl) (by kernel_rfl) (fun _ _ _ h => h) (Or.inl ⟨by rfl, ?_⟩) (by assumption) ?_
  rotate_left
  · (intro w hSw; (try dsimp only at hSw); go_simp; try (with_reducible rfl))
  try simp only [Act.put, List.setIfInBounds_toArray, List.set_cons_zero, List.set_cons_succ, List.getElem_toArray, List.getElem_cons_zero, List.getElem_cons_succ]
  refine wpAnyH_take (i := 2) (v := ?_) rfl (by kernel_rfl) (by kernel_rfl) (by kernel_rfl) (fun _ _ _ h => h) (Or.inl ⟨by rfl, ?_⟩) (by assumption) ?_
  rotate_left
  · (intro w hSw; (try dsimp only at hSw); go_simp; try (with_reducible rfl))
  try simp only [Act.put, List.setIfInBounds_toArray, List.set_cons_zero, List.set_cons_succ, List.getElem_toArray, List.getElem_cons_zero, List.getElem_cons_succ]
  refine wpAnyH_take (i := 3) (v := ?_) rfl (by kernel_rfl) (by kernel_rfl) (by kernel_rfl) (fun _ _ _ h => h) (Or.inl ⟨by rfl, ?_⟩) (by assumption) ?_
  rotate_left
  · (intro w hSw; (try dsimp only at hSw); go_simp; try (with_reducible rfl))
  try simp only [Act.put, List.setIfInBounds_toArray, List.set_cons_zero, List.set_cons_succ, List.getElem_toArray, List.getElem_cons_zero, List.getElem_cons_succ]
  refine wpAnyH_take (i := 4) (v := ?_) rfl (by kernel_rfl) (by kernel_rfl) (by kernel_rfl) (fun _ _ _ h => h) (Or.inl ⟨by rfl, ?_⟩) (by assumption) ?_
  rotate_left
  · (intro w hSw; (try dsimp only at hSw); go_simp; try (with_reducible rfl))
  try simp only [Act.put, List.setIfInBounds_toArray, List.set_cons_zero, List.set_cons_succ, List.getElem_toArray, List.getElem_cons_zero, List.getElem_cons_succ]
  refine wpAnyH_take (i := 5) (v := ?_) rfl (by kernel_rfl) (by kernel_rfl) (by kernel_rfl) (fun _ _ _ h => h) (Or.inl ⟨by rfl, ?_⟩) (by assumption) ?_
  rotate_left
  · (intro w hSw; (try dsimp only at hSw); go_simp; try (with_reducible rfl))
  try simp only [Act.put, List.setIfInBounds_toArray, List.set_cons_zero, List.set_cons_succ, List.getElem_toArray, List.getElem_cons_zero, List.getElem_cons_succ]
  refine wpAnyH_take (i := 6) (v := ?_) rfl (by kernel_rfl) (by kernel_rfl) (by kernel_rfl) (fun _ _ _ h => h) (Or.inl ⟨by rfl, ?_⟩) (by assumption) ?_
  rotate_left
  · (intro w hSw; (try dsimp only at hSw); go_simp; try (with_reducible rfl))
  try simp only [Act.put, List.setIfInBounds_toArray, List.set_cons_zero, List.set_cons_succ, List.getElem_toArray, List.getElem_cons_zero, List.getElem_cons_succ]
  refine wpAnyH_take (i := 7) (v := ?_) rfl (by kernel_rfl) (by kernel_rfl) (by kernel_rfl) (fun _ _ _ h => h) (Or.inl ⟨by rfl, ?_⟩) (by assumption) ?_
  rotate_left
  · (intro w hSw; (try dsimp only at hSw); go_simp; try (with_reducible rfl))
  try simp only [Act.put, List.setIfInBounds_toArray, List.set_cons_zero, List.set_cons_succ, List.getElem_toArray, List.getElem_cons_zero, List.getElem_cons_succ]
  refine wpAnyH_take (i := 8) (v := ?_) rfl (by kernel_rfl) (by kernel_rfl) (by kernel_rfl) (fun _ _ _ h => h) (Or.inl ⟨by rfl, ?_⟩) (by assumption) ?_
  rotate_left
  · (intro w hSw; (try dsimp only at hSw); go_simp; try (with_reducible rfl))
  try simp only [Act.put, List.setIfInBounds_toArray, List.set_cons_zero, List.set_cons_succ, List.getElem_toArray, List.getElem_cons_zero, List.getElem_cons_succ]
  refine wpAnyH_take (i := 9) (v := ?_) rfl (by kernel_rfl) (by kernel_rfl) (by kernel_rfl) (fun _ _ _ h => h) (Or.inl ⟨by rfl, ?_⟩) (by assumption) ?_
  rotate_left
  · (intro w hSw; (try dsimp only at hSw); go_simp; try (with_reducible rfl))
  try simp only [Act.put, List.setIfInBounds_toArray, List.set_cons_zero, List.set_cons_succ, List.getElem_toArray, List.getElem_cons_zero, List.getElem_cons_succ]
  refine wpAnyH_done (by kernel_rfl) ?_ _
  refine NoPanic.normal ?_
  clear hHeld
  obtain ⟨wd, hwd⟩ : ∃ wd, w.drew = wd := ⟨_, rfl⟩
  rw [hwd] at hbd ⊢
  clear hwd
  have hcd := Chg.below hbd (fun k => k = D ∨ k = g)
  have HCD := Lib.hid hcd
  have hsz : w.heap.size ≤ wd.heap.size := hbd.size
  have HLD := Lib.hid ((HLL.out.chg (Chg.below hbd (fun _ => False)) (fun e => e)))
  have HHD := Lib.hid (HH.out.on hbd)
  have HIND := Lib.hid (HIN.out.on hbd)
  clear hbd hcd
  by_cases h0 : bl = 0
  · subst h0
    have hnil : body = [] := List.eq_nil_of_length_eq_zero (by have := HBL.out; omega)
    have hpn : packed body = [] := by rw [hnil]; rfl
    have hhd := header_any stamp p cc body (by have := HBL.out; omega) wd HIND.out
    rw [← HBL.out] at hhd
    go_wp2_with fail
    refine hhd.mono ?_
    rintro e1 w1 ⟨rfl, hg1, hb1⟩
    have hc1 := Chg.below hb1 (fun _ => False)
    have hfl := head_flush P D f n u l false g S c hl a stamp body (by omega) wd.heap.size w1 (HLD.out.chg hc1 (fun e => e)) (HHD.out.on hb1) hDg hPD hg1 (by omega)
    have HB1 := Lib.hid hb1
    clear hg1 hb1 hc1 hhd
    go_wp2_with fail
    refine hfl.mono ?_
    rintro e2 w2 h2
    rcases h2 with ⟨rfl, hz1, hz2, hd2, hc2⟩ | ⟨rfl, hz1, v2, ws2, hd2, hw2, hc2, hv2⟩
    · have HX := Lib.hid (show _ ∧ _ from ⟨hd2, hc2⟩)
      clear hd2 hc2 hfl
      go_wp2
      go_ret
      refine .inl ⟨rfl, ⟨_, by rw [hpn]; exact HX.out.1, fun h => by rw [less_neg h, less_neg h], less_low (less_low hl)⟩, ?_⟩
      exact (HCD.out.trans (Chg.below HB1.out _)).trans HX.out.2
    · have HX := Lib.hid (show _ ∧ _ ∧ _ ∧ _ from ⟨hd2, hw2, hc2, hv2⟩)
      clear hd2 hw2 hc2 hv2 hfl
      go_wp2
      go_ret
      refine .inr ⟨rfl, hz1, S, v2, ws2, HX.out.1, .inr ⟨by rw [hpn]; simp [putS], HX.out.2.1⟩, (HCD.out.trans (Chg.below HB1.out _)).trans (HX.out.2.2.1.weaken (fun k _ e => .inl e)), fun k hk => ?_⟩
      have := HX.out.2.2.2 k hk
      have := HB1.out.size
      omega
  · have d0 : decide ((0 : Int) < (bl : Int)) = true := decide_eq_true (by omega)
    have d0' : decide (0 < bl) = true := decide_eq_true (by omega)
    obtain ⟨pb, po, hpp, hpr⟩ := HIND.out (by have := HBL.out; omega)
    subst hpp
    have hpbl : pb < wd.heap.size := InAt.lt HIND.out (by have := HBL.out; omega)
    have hpk := pack_any pb po cc body (by have := HBL.out; omega) (by have := HBL.out; omega) hcc wd hpbl hpr
    rw [← HBL.out] at hpk
    have HPR := Lib.hid hpr
    have hnpD := (hne pb po rfl (by have := HBL.out; omega)).1
    have hnpg := (hne pb po rfl (by have := HBL.out; omega)).2
    clear hpr hne
    go_wp2_with fail
    refine hpk.mono ?_
    rintro e1 w1 ⟨rfl, hg1, hb1⟩
    have hc1 := Chg.below hb1 (fun _ => False)
    have hfl := body_flush P D f n u l false g S c hl (a + 1) body (by have := HBL.out; omega) (by have := HBL.out; omega) hal wd.heap.size w1 (HLD.out.chg hc1 (fun e => e)) (HHD.out.on hb1) hDg hPD hg1 (by omega)
    have HL1 := Lib.hid (HLD.out.chg hc1 (fun e => e))
    have HIN1 := Lib.hid (HIND.out.on hb1)
    have HB1 := Lib.hid hb1
    clear hg1 hb1 hc1 hpk
    go_wp2_with fail
    first | rw [HAI.out] | skip
    refine hfl.mono ?_
    rintro e2 w2 h2
    rcases h2 with ⟨rfl, hz1, hz2, hd2, hc2⟩ | ⟨rfl, hz1, v2, ws2, hd2, hw2, hc2, hv2⟩
    · have HX := Lib.hid (show _ ∧ _ from ⟨hd2, hc2⟩)
      have HL2 := Lib.hid (HL1.out.chg hc2 (by rintro (e | e); exact hPD e; exact hPg e))
      have HIN2 := Lib.hid (HIN1.out.chg hc2 (fun b o e => by cases e; rintro (e | e); exact hnpD e; exact hnpg e))
      have hhd := header_any stamp (some ⟨pb, po, none⟩) cc body (by have := HBL.out; omega) w2 HIN2.out
      rw [← HBL.out] at hhd
      clear hd2 hc2 hfl
      go_wp2_with fail
      refine hhd.mono ?_
      rintro e3 w3 ⟨rfl, hg3, hb3⟩
      have hc3 := Chg.below hb3 (fun _ => False)
      have hs2 := HX.out.2.size
      have hs1 := HB1.out.size
      have hfl := head_flush P D f n u l false g (putS S (a + 1) (packed body)) (less (less c)) (less_low (less_low hl)) a stamp body (by rw [putS_len hal]; omega) w2.heap.size w3 (HL2.out.chg hc3 (fun e => e)) (HX.out.1.on hb3) hDg hPD hg3 (by omega)
      rw [put_put S (packed body) a _ hal] at hfl
      have HB3 := Lib.hid hb3
      have HS1 := Lib.hid hs1
      have HS2 := Lib.hid hs2
      clear hg3 hb3 hc3 hhd hs1 hs2
      go_wp2_with fail
      refine hfl.mono ?_
      rintro e4 w4 h4
      rcases h4 with ⟨rfl, hy1, hy2, hd4, hc4⟩ | ⟨rfl, hy1, v4, ws4, hd4, hw4, hc4, hv4⟩
      · have HY := Lib.hid (show _ ∧ _ from ⟨hd4, hc4⟩)
        clear hd4 hc4 hfl
        go_wp2
        go_ret
        refine .inl ⟨rfl, ⟨_, HY.out.1, fun h => by rw [less_neg h, less_neg h, less_neg h, less_neg h], less_low (less_low (less_low (less_low hl)))⟩, ?_⟩
        exact (((HCD.out.trans (Chg.below HB1.out _)).trans HX.out.2).trans (Chg.below HB3.out _)).trans HY.out.2
      · have HY := Lib.hid (show _ ∧ _ ∧ _ ∧ _ from ⟨hd4, hw4, hc4, hv4⟩)
        have hpos : 0 ≤ c := by
          refine Int.not_lt.1 (fun h => ?_)
          rw [less_neg h, less_neg h] at hy1
          omega
        clear hd4 hw4 hc4 hv4 hfl
        go_wp2
        go_ret
        refine .inr ⟨rfl, hpos, _, v4, ws4, HY.out.1, .inr ⟨rfl, HY.out.2.1⟩, (((HCD.out.trans (Chg.below HB1.out _)).trans HX.out.2).trans (Chg.below HB3.out _)).trans (HY.out.2.2.1.weaken (fun k _ e => .inl e)), fun k hk => ?_⟩
        have := HY.out.2.2.2 k hk
        have := HB3.out.size
        have := HS1.out
        have := HS2.out
        omega
    · have HX := Lib.hid (show _ ∧ _ ∧ _ ∧ _ from ⟨hd2, hw2, hc2, hv2⟩)
      clear hd2 hw2 hc2 hv2 hfl
      go_wp2
      go_ret
      refine .inr ⟨rfl, hz1, S, v2, ws2, HX.out.1, .inl ⟨rfl, HX.out.2.1⟩, (HCD.out.trans (Chg.below HB1.out _)).trans (HX.out.2.2.1.weaken (fun k _ e => .inl e)), fun k hk => ?_⟩
      have := HX.out.2.2.2 k hk
      have := HB1.out.size
      omega
end Go.Proofs.Ytgcifhhbhoafcaa
