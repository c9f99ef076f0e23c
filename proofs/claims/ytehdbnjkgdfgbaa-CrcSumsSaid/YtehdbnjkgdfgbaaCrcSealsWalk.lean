/-
  What CrcSeals answers: true.
-/
import Derived.Test.YtehdbnjkgdfgbaaCrcApartWalk
namespace Go.Proofs.Ytehdbnjkgdfgbaa
open Go.RowKit

set_option maxHeartbeats 1000000 in
theorem seals_off (p q : Option Addr) (n m c d : Nat) (hn : 2000 < n ∨ 2000 < m) (w : World) :
    Calls Try.prog 4 #[.slice p n c, .slice q m d] w fun e w' => e = .returned (.bool true) ∧ Below w.heap.size w w' := by
  rcases Nat.lt_or_ge 2000 n with h | h
  · have hd' : decide ((2000 : Int) < n) = true := decide_eq_true (by omega)
    go_enter Try.func4, Try.ntmps4
    go_wp2_with fail
    refine (awake_true _).mono ?_
    rintro e w1 ⟨rfl, hb1⟩
    go_wp2_with fail
    refine (awake_true _).mono ?_
    rintro e w2 ⟨rfl, hb2⟩
    go_wp2
    go_ret
    exact ⟨rfl, bT hb1 hb2⟩
  · have hd' : decide ((2000 : Int) < n) = false := decide_eq_false (by omega)
    have hd2 : decide ((2000 : Int) < m) = true := decide_eq_true (by omega)
    go_enter Try.func4, Try.ntmps4
    go_wp2_with fail
    refine (awake_true _).mono ?_
    rintro e w1 ⟨rfl, hb1⟩
    go_wp2_with fail
    refine (awake_true _).mono ?_
    rintro e w2 ⟨rfl, hb2⟩
    go_wp2
    go_ret
    exact ⟨rfl, bT hb1 hb2⟩

theorem bN {a w : World} (h : Below a.heap.size a w) (n : Nat) : Below a.heap.size a (w.drewN n) := h.trans ⟨rfl, rfl, rfl, Nat.le_refl _, fun _ _ => rfl⟩

theorem slice_head (b o m c : Nat) (hc : m + 4 ≤ c) (w : World) : (Instr.sliceAt 24 (.slice (some ⟨b, o, none⟩) (m + 4) c) none (some (.int .i64 (m : Int))) none).run Try.prog w = .ok (.slice (some ⟨b, o, none⟩) m c) w := by
  have hmi : (m : Int) ≤ (c : Int) := by omega
  have hmc : m ≤ c := by omega
  have hm0 : (0 : Int) ≤ (m : Int) := by omega
  have u := Try.underlying24
  have u5 := Try.underlying5
  go_simp

theorem held_swap {P : Program} {md : Region.Mode} {ops : Array Oper} {Q : Exit → Act → World → Prop} {S S' : World → Prop} (h : ∀ w, S' w → S w) : ∀ (fuel : Nat) (listed : Array Bool) (a : Act) (w : World),
    wpAnyH P md ops Q S' fuel listed a w → wpAnyH P md ops Q S fuel listed a w
  | 0, _, _, _, hh => hh
  | fuel + 1, _, _, _, hh => ⟨hh.1, fun i hi => wpOp_mono (fun _ _ hk => ⟨h _ hk.1, held_swap h fuel _ _ _ hk.2⟩) (hh.2 i hi)⟩

/-- A row of the call's own, nil or not, is a slice of bytes. -/
theorem owned_any {w : World} {B : Nat} {v : Value} {l : List Nat} {n : Nat} (hn : n = l.length) (h : w.ownsRow B 5 1 v n (bcells l)) : ∃ p c, v = .slice p n c ∧ BytesIn w p c l := by
  subst hn
  by_cases hv : v = .slice none 0 0
  · subst hv
    rcases h.2 with ⟨_, h0⟩ | ⟨g, cap, cur, h0, _⟩
    · have := List.eq_nil_of_length_eq_zero h0
      subst this
      exact ⟨none, 0, rfl, ⟨fun _ => ⟨rfl, rfl⟩, fun h => absurd h (by simp)⟩⟩
    · cases h0
  · obtain ⟨g, cap, rfl, _, _, _⟩ := owned_form h hv
    exact ⟨_, _, rfl, owned_in h⟩

/-- The reference's sealed text, as a string. -/
theorem refseal_str (l : List Nat) (ho : Crc.Octets l) (hl : l.length ≤ 1000000000) (p : Option Addr) (c : Nat) (w : World) (h : BytesIn w p c l) :
    Calls Try.prog 12 #[.slice p l.length c] w fun e w' => (∃ g cap, e = .returned (.slice (some ⟨g, 0, none⟩) (l.length + 4) cap) ∧ ∀ w'', Below w'.heap.size w' w'' → (convert 24 9 (.slice (some ⟨g, 0, none⟩) (l.length + 4) cap)).run Try.prog w'' = .ok (.string (strN (l ++ Crc.le4 (Crc.crc l)))) w'') ∧ Below w.heap.size w w' := by
  refine (refseal_any l ho hl p c w h).mono ?_
  rintro e w' ⟨v, rfl, hown, hb⟩
  obtain ⟨g, cap, rfl, _, _, _⟩ := owned_pos hown (by omega)
  have hin : BytesIn w' (some ⟨g, 0, none⟩) cap (l ++ Crc.le4 (Crc.crc l)) := owned_in (by rw [List.length_append]; exact hown)
  refine ⟨⟨g, cap, rfl, fun w'' hb2 => ?_⟩, hb⟩
  have := convert_in (hin.below hb2) (Crc.octets_append ho (Crc.le4_octets _))
  rw [List.length_append] at this
  exact this

set_option linter.unusedSimpArgs false in
set_option maxHeartbeats 2000000 in
theorem seals_short (a : List Nat) (hoa : Crc.Octets a) (n : Nat) (hn : n = a.length) (la : a.length ≤ 2000) (pa : Option Addr) (ca : Nat) (b : List Nat) (m : Nat) (hm : m = b.length) (hm4 : m < 4) (pb : Option Addr) (cb : Nat) (w : World) (ha : BytesIn w pa ca a) (hb : BytesIn w pb cb b) :
    Calls Try.prog 4 #[.slice pa a.length ca, .slice pb m cb] w fun e w' => e = .returned (.bool true) ∧ Below w.heap.size w w' := by
  have HN := Lib.hid hn
  rw [← hn] at la ⊢
  clear hn
  have hd' : decide ((2000 : Int) < n) = false := decide_eq_false (by omega)
  have HM := Lib.hid hm
  clear hm
  have hdm : decide ((2000 : Int) < m) = false := decide_eq_false (by omega)
  have hd4 : decide ((m : Int) < 4) = true := decide_eq_true (by omega)
  go_enter Try.func4, Try.ntmps4
  go_wp2_with fail
  refine (awake_true _).mono ?_
  rintro e w1 ⟨rfl, HB1⟩
  have ha1 := ha.below HB1
  go_wp2_with (at_builtin; refine append_bytes rfl (.tmp 23) (.tmp 24) rfl w1.heap.size _ _ _ rfl (World.ownsRow_made w1 #[] 0 (Nat.le_refl _) (Nat.zero_le _) rfl) pa n ca a rfl HN.out.symm (ha1.below ((Below.refl _ w1).alloc (Nat.le_refl _) _)) (by omega) (by simp) ?_)
  intro v2 w2 hown2 hgrow hnil
  clear hnil
  have HB2 : Below w.heap.size w w2 := bT HB1 (((Below.refl _ w1).alloc (Nat.le_refl _) _).grown hgrow (by simp) (by intro k hk; cases hk; exact Nat.le_refl _))
  clear hgrow ha1
  obtain ⟨p2, c2, rfl, hin2⟩ := owned_any HN.out hown2
  have hseal := seal_any a hoa (by rw [← HN.out]; omega) p2 c2 w2 hin2
  have hT : Crc.Octets (Crc.le4 (Crc.crc a)) := Crc.le4_octets _
  have hTl : (Crc.le4 (Crc.crc a)).length = 4 := rfl
  have HTT := Lib.hid (show Crc.le4 (Crc.crc a) = Crc.le4 (Crc.crc a) from rfl)
  rw [← HN.out] at hseal
  go_wp2_with fail
  refine hseal.mono ?_
  rintro e w3 ⟨v3, rfl, hown3, hb3⟩
  clear hseal hown2 hin2
  have HB3 : Below w.heap.size w w3 := bT HB2 hb3
  obtain ⟨g3, cap3, rfl, hg3b, hg3l, hg3c⟩ := owned_pos hown3 (by omega)
  have hin3 : BytesIn w3 (some ⟨g3, 0, none⟩) cap3 (a ++ Crc.le4 (Crc.crc a)) := owned_in (by rw [List.length_append, hTl, ← HN.out]; exact hown3)
  have hopen := open_long a (Crc.le4 (Crc.crc a)) hoa hT hTl (by rw [← HN.out]; omega) g3 0 cap3 (by rw [← HN.out]; exact hg3c) w3 hin3
  rw [← HN.out] at hopen
  clear hown3
  go_wp2_with fail
  refine hopen.mono ?_
  rintro e w4 ⟨hb4, ⟨_, v4, rfl, hown4⟩ | ⟨hno, _⟩⟩
  case inr => exact absurd rfl hno
  clear hopen
  have HB4 : Below w.heap.size w w4 := bT HB3 hb4
  obtain ⟨p4, c4, rfl, hin4⟩ := owned_any HN.out hown4
  have hin34 := hin3.below hb4
  have hb1 := hb.below HB4
  clear hown4
  go_wp2_with (at_builtin; refine append_bytes rfl (.tmp 33) (.tmp 34) rfl w4.heap.size _ _ _ rfl (World.ownsRow_made w4 #[] 0 (Nat.le_refl _) (Nat.zero_le _) rfl) pb m cb b rfl HM.out.symm (hb1.below ((Below.refl _ w4).alloc (Nat.le_refl _) _)) (by omega) (by simp) ?_)
  intro v5 w5 hown5 hgrow hnil
  clear hnil
  have hb5 : Below w4.heap.size w4 w5 := ((Below.refl _ w4).alloc (Nat.le_refl _) _).grown hgrow (by simp) (by intro k hk; cases hk; exact Nat.le_refl _)
  have HB5 : Below w.heap.size w w5 := bT HB4 hb5
  clear hgrow hb1
  obtain ⟨p5, c5, rfl, hin5⟩ := owned_any HM.out hown5
  clear hown5 hin5
  go_wp2_with fail
  refine (open_short p5 m c5 hm4 w5).mono ?_
  rintro e w6 ⟨rfl, hw6⟩
  have hb6 : Below w5.heap.size w5 w6 := hw6 ▸ Below.refl _ _
  have HB6 : Below w.heap.size w w6 := bT HB5 hb6
  have hb46 : Below w4.heap.size w4 w6 := bT hb5 hb6
  have iS := hin34.below hb46
  have iX := hin4.below hb46
  have iA := ha.below HB6
  have iB := hb.below HB6
  clear hin34 hin4 hin3 hb3 hb4
  have cS : ∀ w', Below w6.heap.size w6 w' → (convert 24 9 (.slice (some ⟨g3, 0, none⟩) (n + 4) cap3)).run Try.prog w' = .ok (.string (strN (a ++ Crc.le4 (Crc.crc a)))) w' := fun w' hb => by
    have := convert_in (iS.below hb) (Crc.octets_append hoa hT)
    rw [List.length_append, hTl, ← HN.out] at this
    exact this
  have cX : ∀ w', Below w6.heap.size w6 w' → (convert 24 9 (.slice p4 n c4)).run Try.prog w' = .ok (.string (strN a)) w' := fun w' hb => by
    have := convert_in (iX.below hb) hoa
    rw [← HN.out] at this
    exact this
  have cA : ∀ w', Below w6.heap.size w6 w' → (convert 24 9 (.slice pa n ca)).run Try.prog w' = .ok (.string (strN a)) w' := fun w' hb => by
    have := convert_in (iA.below hb) hoa
    rw [← HN.out] at this
    exact this
  have rA : ∀ w', Below w6.heap.size w6 w' → Calls Try.prog 12 #[.slice pa n ca] w' fun e w'' => (∃ g cap, e = .returned (.slice (some ⟨g, 0, none⟩) (n + 4) cap) ∧ ∀ w3, Below w''.heap.size w'' w3 → (convert 24 9 (.slice (some ⟨g, 0, none⟩) (n + 4) cap)).run Try.prog w3 = .ok (.string (strN (a ++ Crc.le4 (Crc.crc a)))) w3) ∧ Below w'.heap.size w' w'' := fun w' hb => by
    have := refseal_str a hoa (by rw [← HN.out]; omega) pa ca w' (iA.below hb)
    rw [← HN.out] at this
    exact this

  clear iS iX iA iB HTT hT hTl
  generalize strN (a ++ Crc.le4 (Crc.crc a)) = SS at *
  generalize strN a = SA at *
  go_wp2_with fail
  refine wp_region_held_drew (S := fun w' => Below w6.heap.size w6 w') (by kernel_rfl) (bD (Below.refl _ _)) (fun hHeld => ?_)
  refine wpAnyH_take (i := 0) (v := ?_) rfl (by kernel_rfl) (by kernel_rfl) (by kernel_rfl) (fun _ _ _ h => h) (Or.inl ⟨by rfl, ?_⟩) (by assumption) ?_
  rotate_left
  · (intro w hSw; (try dsimp only at hSw); go_simp; try (with_reducible rfl))
  try simp only [Act.put, List.setIfInBounds_toArray, List.set_cons_zero, List.set_cons_succ, List.getElem_toArray, List.getElem_cons_zero, List.getElem_cons_succ]
  refine wpAnyH_take (i := 1) (v := ?_) rfl (by kernel_rfl) (by kernel_rfl) (by kernel_rfl) (fun _ _ _ h => h) (Or.inl ⟨by rfl, ?_⟩) (by assumption) ?_
  rotate_left
  · (intro w hSw; (try dsimp only at hSw); go_simp; try (with_reducible rfl))
  try simp only [Act.put, List.setIfInBounds_toArray, List.set_cons_zero, List.set_cons_succ, List.getElem_toArray, List.getElem_cons_zero, List.getElem_cons_succ]
  refine wpAnyH_take (i := 2) (v := ?_) rfl (by kernel_rfl) (by kernel_rfl) (by kernel_rfl) (fun _ _ _ h => h) (Or.inl ⟨by rfl, ?_⟩) (by assumption) ?_
  rotate_left
  · (intro w hSw; (try dsimp only at hSw); go_simp; try (with_reducible rfl))
  try simp only [Act.put, List.setIfInBounds_toArray, List.set_cons_zero, List.set_cons_succ, List.getElem_toArray, List.getElem_cons_zero, List.getElem_cons_succ]
  refine wpAnyH_ready (rs := [3]) (by kernel_rfl) (by simp) ?_
  refine AllReadyH.cons rfl (fun K hK => ?_) AllReadyH.nil
  go_simp
  go_at_call 12
  refine (rA _ (bD (Below.refl _ _))).mono ?_
  rintro e w7 ⟨⟨g7, cap7, rfl, cv7⟩, hb7⟩
  have hS7 : Below w6.heap.size w6 w7 := bT (bD (Below.refl _ _)) hb7
  have cX7 := fun w' (h : Below w7.heap.size w7 w') => cX w' (bT hS7 h)
  have cA7 := fun w' (h : Below w7.heap.size w7 w') => cA w' (bT hS7 h)
  refine hK.out _ _ hS7 (fun _ => ?_)
  refine held_swap (S' := fun w' => Below w7.heap.size w7 w') (fun w h => bT hS7 h) _ _ _ _ ?_
  clear hK K hHeld
  have hHeld : Below w7.heap.size w7 w7 := Below.refl _ _
  try simp only [Act.put, List.setIfInBounds_toArray, List.set_cons_zero, List.set_cons_succ, List.getElem_toArray, List.getElem_cons_zero, List.getElem_cons_succ]
  refine wpAnyH_take (i := 4) (v := ?_) rfl (by kernel_rfl) (by kernel_rfl) (by kernel_rfl) (fun _ _ _ h => h) (Or.inl ⟨by rfl, ?_⟩) (by assumption) ?_
  rotate_left
  · (intro w hSw; (try dsimp only at hSw); go_simp; try (with_reducible rfl))
  try simp only [Act.put, List.setIfInBounds_toArray, List.set_cons_zero, List.set_cons_succ, List.getElem_toArray, List.getElem_cons_zero, List.getElem_cons_succ]
  refine wpAnyH_take (i := 5) (v := ?_) rfl (by kernel_rfl) (by kernel_rfl) (by kernel_rfl) (fun _ _ _ h => h) (Or.inl ⟨by rfl, ?_⟩) (by assumption) ?_
  rotate_left
  · (intro w hSw; (try dsimp only at hSw); go_simp; try (with_reducible rfl))
  try simp only [Act.put, List.setIfInBounds_toArray, List.set_cons_zero, List.set_cons_succ, List.getElem_toArray, List.getElem_cons_zero, List.getElem_cons_succ]
  refine wpAnyH_take (i := 6) (v := ?_) rfl (by kernel_rfl) (by kernel_rfl) (by kernel_rfl) (fun _ _ _ h => h) (Or.inl ⟨by rfl, ?_⟩) (by assumption) ?_
  rotate_left
  · (intro w hSw; (try dsimp only at hSw); go_simp; try (with_reducible rfl))
  try simp only [Act.put, List.setIfInBounds_toArray, List.set_cons_zero, List.set_cons_succ, List.getElem_toArray, List.getElem_cons_zero, List.getElem_cons_succ]
  refine wpAnyH_take (i := 7) (v := ?_) rfl (by kernel_rfl) (by kernel_rfl) (by kernel_rfl) (fun _ _ _ h => h) (Or.inl ⟨by rfl, ?_⟩) (by assumption) ?_
  rotate_left
  · (intro w hSw; (try dsimp only at hSw); go_simp; try (with_reducible rfl))
  try simp only [Act.put, List.setIfInBounds_toArray, List.set_cons_zero, List.set_cons_succ, List.getElem_toArray, List.getElem_cons_zero, List.getElem_cons_succ]
  refine wpAnyH_take (i := 8) (v := ?_) rfl (by kernel_rfl) (by kernel_rfl) (by kernel_rfl) (fun _ _ _ h => h) (Or.inl ⟨by rfl, ?_⟩) (by assumption) ?_
  rotate_left
  · (intro w hSw; (try dsimp only at hSw); go_simp; try (with_reducible rfl))
  try simp only [Act.put, List.setIfInBounds_toArray, List.set_cons_zero, List.set_cons_succ, List.getElem_toArray, List.getElem_cons_zero, List.getElem_cons_succ]
  refine wpAnyH_take (i := 9) (v := ?_) rfl (by kernel_rfl) (by kernel_rfl) (by kernel_rfl) (fun _ _ _ h => h) (Or.inl ⟨by rfl, ?_⟩) (by assumption) ?_
  rotate_left
  · (intro w hSw; (try dsimp only at hSw); go_simp; try (with_reducible rfl))
  try simp only [Act.put, List.setIfInBounds_toArray, List.set_cons_zero, List.set_cons_succ, List.getElem_toArray, List.getElem_cons_zero, List.getElem_cons_succ]
  refine wpAnyH_take (i := 10) (v := ?_) rfl (by kernel_rfl) (by kernel_rfl) (by kernel_rfl) (fun _ _ _ h => h) (Or.inl ⟨by rfl, ?_⟩) (by assumption) ?_
  rotate_left
  · (intro w hSw; (try dsimp only at hSw); go_simp; try (with_reducible rfl))
  try simp only [Act.put, List.setIfInBounds_toArray, List.set_cons_zero, List.set_cons_succ, List.getElem_toArray, List.getElem_cons_zero, List.getElem_cons_succ]
  refine wpAnyH_take (i := 11) (v := ?_) rfl (by kernel_rfl) (by kernel_rfl) (by kernel_rfl) (fun _ _ _ h => h) (Or.inl ⟨by rfl, ?_⟩) (by assumption) ?_
  rotate_left
  · (intro w hSw; (try dsimp only at hSw); go_simp; try (with_reducible rfl))
  try simp only [Act.put, List.setIfInBounds_toArray, List.set_cons_zero, List.set_cons_succ, List.getElem_toArray, List.getElem_cons_zero, List.getElem_cons_succ]
  refine wpAnyH_take (i := 12) (v := ?_) rfl (by kernel_rfl) (by kernel_rfl) (by kernel_rfl) (fun _ _ _ h => h) (Or.inl ⟨by rfl, ?_⟩) (by assumption) ?_
  rotate_left
  · (intro w hSw; (try dsimp only at hSw); go_simp; try (with_reducible rfl))
  try simp only [Act.put, List.setIfInBounds_toArray, List.set_cons_zero, List.set_cons_succ, List.getElem_toArray, List.getElem_cons_zero, List.getElem_cons_succ]
  refine wpAnyH_take (i := 13) (v := ?_) rfl (by kernel_rfl) (by kernel_rfl) (by kernel_rfl) (fun _ _ _ h => h) (Or.inl ⟨by rfl, ?_⟩) (by assumption) ?_
  rotate_left
  · (intro w hSw; (try dsimp only at hSw); go_simp; try (with_reducible rfl))
  try simp only [Act.put, List.setIfInBounds_toArray, List.set_cons_zero, List.set_cons_succ, List.getElem_toArray, List.getElem_cons_zero, List.getElem_cons_succ]
  refine wpAnyH_take (i := 14) (v := ?_) rfl (by kernel_rfl) (by kernel_rfl) (by kernel_rfl) (fun _ _ _ h => h) (Or.inl ⟨by rfl, ?_⟩) (by assumption) ?_
  rotate_left
  · (intro w hSw; (try dsimp only at hSw); go_simp; try (with_reducible rfl))
  try simp only [Act.put, List.setIfInBounds_toArray, List.set_cons_zero, List.set_cons_succ, List.getElem_toArray, List.getElem_cons_zero, List.getElem_cons_succ]
  refine wpAnyH_take (i := 15) (v := ?_) rfl (by kernel_rfl) (by kernel_rfl) (by kernel_rfl) (fun _ _ _ h => h) (Or.inl ⟨by rfl, ?_⟩) (by assumption) ?_
  rotate_left
  · (intro w hSw; (try dsimp only at hSw); go_simp; try (with_reducible rfl))
  try simp only [Act.put, List.setIfInBounds_toArray, List.set_cons_zero, List.set_cons_succ, List.getElem_toArray, List.getElem_cons_zero, List.getElem_cons_succ]
  refine wpAnyH_take (i := 16) (v := ?_) rfl (by kernel_rfl) (by kernel_rfl) (by kernel_rfl) (fun _ _ _ h => h) (Or.inl ⟨by rfl, ?_⟩) (by assumption) ?_
  rotate_left
  · (intro w hSw; (try dsimp only at hSw); go_simp; try (with_reducible rfl))
  try simp only [Act.put, List.setIfInBounds_toArray, List.set_cons_zero, List.set_cons_succ, List.getElem_toArray, List.getElem_cons_zero, List.getElem_cons_succ]
  refine wpAnyH_done (by kernel_rfl) ?_ _
  go_wp2_with fail
  go_quiet (fail)
  go_wp2_with fail
  go_ret
  exact ⟨rfl, bT HB6 (bN hS7 _)⟩

set_option linter.unusedSimpArgs false in
set_option maxHeartbeats 2000000 in
theorem seals_other (a : List Nat) (hoa : Crc.Octets a) (n : Nat) (hn : n = a.length) (la : a.length ≤ 2000) (pa : Option Addr) (ca : Nat) (bd t : List Nat) (hob : Crc.Octets bd) (hot : Crc.Octets t) (ht : t.length = 4) (m : Nat) (hm : m = bd.length) (lb : m + 4 ≤ 2000) (hne : t ≠ Crc.le4 (Crc.crc bd)) (bb oo : Nat) (cb : Nat) (hcb : m + 4 ≤ cb) (w : World) (ha : BytesIn w pa ca a) (hb : BytesIn w (some ⟨bb, oo, none⟩) cb (bd ++ t)) :
    Calls Try.prog 4 #[.slice pa a.length ca, .slice (some ⟨bb, oo, none⟩) (m + 4) cb] w fun e w' => e = .returned (.bool true) ∧ Below w.heap.size w w' := by
  have HN := Lib.hid hn
  rw [← hn] at la ⊢
  clear hn
  have hd' : decide ((2000 : Int) < n) = false := decide_eq_false (by omega)
  have HM := Lib.hid hm
  clear hm
  have hbt : (bd ++ t).length = m + 4 := by rw [List.length_append, ht, ← HM.out]
  have HBT := Lib.hid hbt
  clear hbt
  have hdm : decide ((2000 : Int) < (m : Int) + 4) = false := decide_eq_false (by omega)
  have hd4 : decide ((m : Int) + 4 < 4) = false := decide_eq_false (by omega)
  have hmc : m ≤ cb := by omega
  have hc0 : ¬ cb = 0 := by omega
  have hmi : (m : Int) ≤ (cb : Int) := by omega
  have hm0 : (0 : Int) ≤ (m : Int) := by omega
  have hmm : (m : Int) ≤ (m : Int) + 4 := by omega
  go_enter Try.func4, Try.ntmps4
  go_wp2_with fail
  refine (awake_true _).mono ?_
  rintro e w1 ⟨rfl, HB1⟩
  have ha1 := ha.below HB1
  go_wp2_with (at_builtin; refine append_bytes rfl (.tmp 23) (.tmp 24) rfl w1.heap.size _ _ _ rfl (World.ownsRow_made w1 #[] 0 (Nat.le_refl _) (Nat.zero_le _) rfl) pa n ca a rfl HN.out.symm (ha1.below ((Below.refl _ w1).alloc (Nat.le_refl _) _)) (by omega) (by simp) ?_)
  intro v2 w2 hown2 hgrow hnil
  clear hnil
  have HB2 : Below w.heap.size w w2 := bT HB1 (((Below.refl _ w1).alloc (Nat.le_refl _) _).grown hgrow (by simp) (by intro k hk; cases hk; exact Nat.le_refl _))
  clear hgrow ha1
  obtain ⟨p2, c2, rfl, hin2⟩ := owned_any HN.out hown2
  have hseal := seal_any a hoa (by rw [← HN.out]; omega) p2 c2 w2 hin2
  have hT : Crc.Octets (Crc.le4 (Crc.crc a)) := Crc.le4_octets _
  have hTl : (Crc.le4 (Crc.crc a)).length = 4 := rfl
  have HTT := Lib.hid (show Crc.le4 (Crc.crc a) = Crc.le4 (Crc.crc a) from rfl)
  rw [← HN.out] at hseal
  go_wp2_with fail
  refine hseal.mono ?_
  rintro e w3 ⟨v3, rfl, hown3, hb3⟩
  clear hseal hown2 hin2
  have HB3 : Below w.heap.size w w3 := bT HB2 hb3
  obtain ⟨g3, cap3, rfl, hg3b, hg3l, hg3c⟩ := owned_pos hown3 (by omega)
  have hin3 : BytesIn w3 (some ⟨g3, 0, none⟩) cap3 (a ++ Crc.le4 (Crc.crc a)) := owned_in (by rw [List.length_append, hTl, ← HN.out]; exact hown3)
  have hopen := open_long a (Crc.le4 (Crc.crc a)) hoa hT hTl (by rw [← HN.out]; omega) g3 0 cap3 (by rw [← HN.out]; exact hg3c) w3 hin3
  rw [← HN.out] at hopen
  clear hown3
  go_wp2_with fail
  refine hopen.mono ?_
  rintro e w4 ⟨hb4, ⟨_, v4, rfl, hown4⟩ | ⟨hno, _⟩⟩
  case inr => exact absurd rfl hno
  clear hopen
  have HB4 : Below w.heap.size w w4 := bT HB3 hb4
  obtain ⟨p4, c4, rfl, hin4⟩ := owned_any HN.out hown4
  have hin34 := hin3.below hb4
  have hb1 := hb.below HB4
  clear hown4
  go_wp2_with (at_builtin; refine append_bytes rfl (.tmp 33) (.tmp 34) rfl w4.heap.size _ _ _ rfl (World.ownsRow_made w4 #[] 0 (Nat.le_refl _) (Nat.zero_le _) rfl) (some ⟨bb, oo, none⟩) (m + 4) cb (bd ++ t) rfl HBT.out (hb1.below ((Below.refl _ w4).alloc (Nat.le_refl _) _)) (by omega) (by simp) ?_)
  intro v5 w5 hown5 hgrow hnil
  clear hnil
  have hb5 : Below w4.heap.size w4 w5 := ((Below.refl _ w4).alloc (Nat.le_refl _) _).grown hgrow (by simp) (by intro k hk; cases hk; exact Nat.le_refl _)
  have HB5 : Below w.heap.size w w5 := bT HB4 hb5
  clear hgrow hb1
  obtain ⟨g5, cap5, rfl, hg5b, hg5l, hg5c⟩ := owned_pos hown5 (by omega)
  have hin5 : BytesIn w5 (some ⟨g5, 0, none⟩) cap5 (bd ++ t) := owned_in (by rw [HBT.out]; simpa using hown5)
  have hopen5 := open_long bd t hob hot ht (by rw [← HM.out]; omega) g5 0 cap5 (by rw [← HM.out]; omega) w5 hin5
  rw [← HM.out] at hopen5
  clear hown5 hin5
  go_wp2_with fail
  refine hopen5.mono ?_
  clear hopen5
  rintro e w6 ⟨hb6, ⟨hyes, _⟩ | ⟨_, rfl⟩⟩
  case inl => exact absurd hyes hne
  have HB6 : Below w.heap.size w w6 := bT HB5 hb6
  have hb46 : Below w4.heap.size w4 w6 := bT hb5 hb6
  have iS := hin34.below hb46
  have iX := hin4.below hb46
  have iA := ha.below HB6
  have iB := hb.below HB6
  clear hin34 hin4 hin3 hb3 hb4
  have cS : ∀ w', Below w6.heap.size w6 w' → (convert 24 9 (.slice (some ⟨g3, 0, none⟩) (n + 4) cap3)).run Try.prog w' = .ok (.string (strN (a ++ Crc.le4 (Crc.crc a)))) w' := fun w' hb => by
    have := convert_in (iS.below hb) (Crc.octets_append hoa hT)
    rw [List.length_append, hTl, ← HN.out] at this
    exact this
  have cX : ∀ w', Below w6.heap.size w6 w' → (convert 24 9 (.slice p4 n c4)).run Try.prog w' = .ok (.string (strN a)) w' := fun w' hb => by
    have := convert_in (iX.below hb) hoa
    rw [← HN.out] at this
    exact this
  have cA : ∀ w', Below w6.heap.size w6 w' → (convert 24 9 (.slice pa n ca)).run Try.prog w' = .ok (.string (strN a)) w' := fun w' hb => by
    have := convert_in (iA.below hb) hoa
    rw [← HN.out] at this
    exact this
  have rA : ∀ w', Below w6.heap.size w6 w' → Calls Try.prog 12 #[.slice pa n ca] w' fun e w'' => (∃ g cap, e = .returned (.slice (some ⟨g, 0, none⟩) (n + 4) cap) ∧ ∀ w3, Below w''.heap.size w'' w3 → (convert 24 9 (.slice (some ⟨g, 0, none⟩) (n + 4) cap)).run Try.prog w3 = .ok (.string (strN (a ++ Crc.le4 (Crc.crc a)))) w3) ∧ Below w'.heap.size w' w'' := fun w' hb => by
    have := refseal_str a hoa (by rw [← HN.out]; omega) pa ca w' (iA.below hb)
    rw [← HN.out] at this
    exact this
  have hbody : BytesIn w6 (some ⟨bb, oo, none⟩) cb bd := ⟨fun h => (by cases h), fun h0 => ⟨bb, oo, rfl, fun i hi => by
    obtain ⟨b', o', hp', hcs⟩ := iB.at_ (by simp; omega)
    cases hp'
    have := hcs i (by simp; omega)
    rwa [List.getD_eq_getElem?_getD, List.getElem?_append_left hi, ← List.getD_eq_getElem?_getD] at this⟩⟩
  have cB : ∀ w', Below w6.heap.size w6 w' → (convert 24 9 (.slice (some ⟨bb, oo, none⟩) (m + 4) cb)).run Try.prog w' = .ok (.string (strN (bd ++ t))) w' := fun w' hb => by
    have := convert_in (iB.below hb) (Crc.octets_append hob hot)
    rw [HBT.out] at this
    exact this
  have cC : ∀ w', Below w6.heap.size w6 w' → (convert 24 9 (.slice (some ⟨bb, oo, none⟩) m cb)).run Try.prog w' = .ok (.string (strN bd)) w' := fun w' hb => by
    have := convert_in (hbody.below hb) hob
    rw [← HM.out] at this
    exact this
  have rB : ∀ w', Below w6.heap.size w6 w' → Calls Try.prog 12 #[.slice (some ⟨bb, oo, none⟩) m cb] w' fun e w'' => (∃ g cap, e = .returned (.slice (some ⟨g, 0, none⟩) (m + 4) cap) ∧ ∀ w3, Below w''.heap.size w'' w3 → (convert 24 9 (.slice (some ⟨g, 0, none⟩) (m + 4) cap)).run Try.prog w3 = .ok (.string (strN (bd ++ Crc.le4 (Crc.crc bd)))) w3) ∧ Below w'.heap.size w' w'' := fun w' hb => by
    have := refseal_str bd hob (by rw [← HM.out]; omega) (some ⟨bb, oo, none⟩) cb w' (hbody.below hb)
    rw [← HM.out] at this
    exact this
  clear hbody
  have hneq : ((strN (bd ++ Crc.le4 (Crc.crc bd))).toList == (strN (bd ++ t)).toList) = false := by
    rw [strN_eq _ _ (Crc.octets_append hob (Crc.le4_octets _)) (Crc.octets_append hob hot)]
    exact decide_eq_false (fun e => hne (List.append_cancel_left e).symm)
  generalize strN (bd ++ Crc.le4 (Crc.crc bd)) = SQ at *
  generalize strN (bd ++ t) = SB at *
  generalize strN bd = SC at *
  clear iS iX iA iB HTT hT hTl
  generalize strN (a ++ Crc.le4 (Crc.crc a)) = SS at *
  generalize strN a = SA at *
  go_wp2_with fail
  refine wp_region_held_drew (S := fun w' => Below w6.heap.size w6 w') (by kernel_rfl) (bD (Below.refl _ _)) (fun hHeld => ?_)
  refine wpAnyH_take (i := 0) (v := ?_) rfl (by kernel_rfl) (by kernel_rfl) (by kernel_rfl) (fun _ _ _ h => h) (Or.inl ⟨by rfl, ?_⟩) (by assumption) ?_
  rotate_left
  · (intro w hSw; (try dsimp only at hSw); go_simp; try (with_reducible rfl))
  try simp only [Act.put, List.setIfInBounds_toArray, List.set_cons_zero, List.set_cons_succ, List.getElem_toArray, List.getElem_cons_zero, List.getElem_cons_succ]
  refine wpAnyH_take (i := 1) (v := ?_) rfl (by kernel_rfl) (by kernel_rfl) (by kernel_rfl) (fun _ _ _ h => h) (Or.inl ⟨by rfl, ?_⟩) (by assumption) ?_
  rotate_left
  · (intro w hSw; (try dsimp only at hSw); go_simp; try (with_reducible rfl))
  try simp only [Act.put, List.setIfInBounds_toArray, List.set_cons_zero, List.set_cons_succ, List.getElem_toArray, List.getElem_cons_zero, List.getElem_cons_succ]
  refine wpAnyH_take (i := 2) (v := ?_) rfl (by kernel_rfl) (by kernel_rfl) (by kernel_rfl) (fun _ _ _ h => h) (Or.inl ⟨by rfl, ?_⟩) (by assumption) ?_
  rotate_left
  · (intro w hSw; (try dsimp only at hSw); go_simp; try (with_reducible rfl))
  try simp only [Act.put, List.setIfInBounds_toArray, List.set_cons_zero, List.set_cons_succ, List.getElem_toArray, List.getElem_cons_zero, List.getElem_cons_succ]
  refine wpAnyH_ready (rs := [3]) (by kernel_rfl) (by simp) ?_
  refine AllReadyH.cons rfl (fun K hK => ?_) AllReadyH.nil
  go_simp
  go_at_call 12
  refine (rA _ (bD (Below.refl _ _))).mono ?_
  rintro e w7 ⟨⟨g7, cap7, rfl, cv7⟩, hb7⟩
  have hS7 : Below w6.heap.size w6 w7 := bT (bD (Below.refl _ _)) hb7
  have cX7 := fun w' (h : Below w7.heap.size w7 w') => cX w' (bT hS7 h)
  have cA7 := fun w' (h : Below w7.heap.size w7 w') => cA w' (bT hS7 h)
  refine hK.out _ _ hS7 (fun _ => ?_)
  refine held_swap (S' := fun w' => Below w7.heap.size w7 w') (fun w h => bT hS7 h) _ _ _ _ ?_
  clear hK K hHeld
  have hHeld : Below w7.heap.size w7 w7 := Below.refl _ _
  try simp only [Act.put, List.setIfInBounds_toArray, List.set_cons_zero, List.set_cons_succ, List.getElem_toArray, List.getElem_cons_zero, List.getElem_cons_succ]
  refine wpAnyH_take (i := 4) (v := ?_) rfl (by kernel_rfl) (by kernel_rfl) (by kernel_rfl) (fun _ _ _ h => h) (Or.inl ⟨by rfl, ?_⟩) (by assumption) ?_
  rotate_left
  · (intro w hSw; (try dsimp only at hSw); go_simp; try (with_reducible rfl))
  try simp only [Act.put, List.setIfInBounds_toArray, List.set_cons_zero, List.set_cons_succ, List.getElem_toArray, List.getElem_cons_zero, List.getElem_cons_succ]
  refine wpAnyH_take (i := 5) (v := ?_) rfl (by kernel_rfl) (by kernel_rfl) (by kernel_rfl) (fun _ _ _ h => h) (Or.inl ⟨by rfl, ?_⟩) (by assumption) ?_
  rotate_left
  · (intro w hSw; (try dsimp only at hSw); go_simp; try (with_reducible rfl))
  try simp only [Act.put, List.setIfInBounds_toArray, List.set_cons_zero, List.set_cons_succ, List.getElem_toArray, List.getElem_cons_zero, List.getElem_cons_succ]
  refine wpAnyH_take (i := 6) (v := ?_) rfl (by kernel_rfl) (by kernel_rfl) (by kernel_rfl) (fun _ _ _ h => h) (Or.inl ⟨by rfl, ?_⟩) (by assumption) ?_
  rotate_left
  · (intro w hSw; (try dsimp only at hSw); go_simp; try (with_reducible rfl))
  try simp only [Act.put, List.setIfInBounds_toArray, List.set_cons_zero, List.set_cons_succ, List.getElem_toArray, List.getElem_cons_zero, List.getElem_cons_succ]
  refine wpAnyH_take (i := 7) (v := ?_) rfl (by kernel_rfl) (by kernel_rfl) (by kernel_rfl) (fun _ _ _ h => h) (Or.inl ⟨by rfl, ?_⟩) (by assumption) ?_
  rotate_left
  · (intro w hSw; (try dsimp only at hSw); go_simp; try (with_reducible rfl))
  try simp only [Act.put, List.setIfInBounds_toArray, List.set_cons_zero, List.set_cons_succ, List.getElem_toArray, List.getElem_cons_zero, List.getElem_cons_succ]
  refine wpAnyH_take (i := 8) (v := ?_) rfl (by kernel_rfl) (by kernel_rfl) (by kernel_rfl) (fun _ _ _ h => h) (Or.inl ⟨by rfl, ?_⟩) (by assumption) ?_
  rotate_left
  · (intro w hSw; (try dsimp only at hSw); go_simp; try (with_reducible rfl))
  try simp only [Act.put, List.setIfInBounds_toArray, List.set_cons_zero, List.set_cons_succ, List.getElem_toArray, List.getElem_cons_zero, List.getElem_cons_succ]
  refine wpAnyH_take (i := 9) (v := ?_) rfl (by kernel_rfl) (by kernel_rfl) (by kernel_rfl) (fun _ _ _ h => h) (Or.inl ⟨by rfl, ?_⟩) (by assumption) ?_
  rotate_left
  · (intro w hSw; (try dsimp only at hSw); go_simp; try (with_reducible rfl))
  try simp only [Act.put, List.setIfInBounds_toArray, List.set_cons_zero, List.set_cons_succ, List.getElem_toArray, List.getElem_cons_zero, List.getElem_cons_succ]
  refine wpAnyH_take (i := 10) (v := ?_) rfl (by kernel_rfl) (by kernel_rfl) (by kernel_rfl) (fun _ _ _ h => h) (Or.inl ⟨by rfl, ?_⟩) (by assumption) ?_
  rotate_left
  · (intro w hSw; (try dsimp only at hSw); go_simp; try (with_reducible rfl))
  try simp only [Act.put, List.setIfInBounds_toArray, List.set_cons_zero, List.set_cons_succ, List.getElem_toArray, List.getElem_cons_zero, List.getElem_cons_succ]
  refine wpAnyH_take (i := 11) (v := ?_) rfl (by kernel_rfl) (by kernel_rfl) (by kernel_rfl) (fun _ _ _ h => h) (Or.inl ⟨by rfl, ?_⟩) (by assumption) ?_
  rotate_left
  · (intro w hSw; (try dsimp only at hSw); go_simp; try (with_reducible rfl))
  try simp only [Act.put, List.setIfInBounds_toArray, List.set_cons_zero, List.set_cons_succ, List.getElem_toArray, List.getElem_cons_zero, List.getElem_cons_succ]
  refine wpAnyH_take (i := 12) (v := ?_) rfl (by kernel_rfl) (by kernel_rfl) (by kernel_rfl) (fun _ _ _ h => h) (Or.inl ⟨by rfl, ?_⟩) (by assumption) ?_
  rotate_left
  · (intro w hSw; (try dsimp only at hSw); go_simp; try (with_reducible rfl))
  try simp only [Act.put, List.setIfInBounds_toArray, List.set_cons_zero, List.set_cons_succ, List.getElem_toArray, List.getElem_cons_zero, List.getElem_cons_succ]
  refine wpAnyH_take (i := 13) (v := ?_) rfl (by kernel_rfl) (by kernel_rfl) (by kernel_rfl) (fun _ _ _ h => h) (Or.inl ⟨by rfl, ?_⟩) (by assumption) ?_
  rotate_left
  · (intro w hSw; (try dsimp only at hSw); go_simp; try (with_reducible rfl))
  try simp only [Act.put, List.setIfInBounds_toArray, List.set_cons_zero, List.set_cons_succ, List.getElem_toArray, List.getElem_cons_zero, List.getElem_cons_succ]
  refine wpAnyH_take (i := 14) (v := ?_) rfl (by kernel_rfl) (by kernel_rfl) (by kernel_rfl) (fun _ _ _ h => h) (Or.inl ⟨by rfl, ?_⟩) (by assumption) ?_
  rotate_left
  · (intro w hSw; (try dsimp only at hSw); go_simp; try (with_reducible rfl))
  try simp only [Act.put, List.setIfInBounds_toArray, List.set_cons_zero, List.set_cons_succ, List.getElem_toArray, List.getElem_cons_zero, List.getElem_cons_succ]
  refine wpAnyH_take (i := 15) (v := ?_) rfl (by kernel_rfl) (by kernel_rfl) (by kernel_rfl) (fun _ _ _ h => h) (Or.inl ⟨by rfl, ?_⟩) (by assumption) ?_
  rotate_left
  · (intro w hSw; (try dsimp only at hSw); go_simp; try (with_reducible rfl))
  try simp only [Act.put, List.setIfInBounds_toArray, List.set_cons_zero, List.set_cons_succ, List.getElem_toArray, List.getElem_cons_zero, List.getElem_cons_succ]
  refine wpAnyH_take (i := 16) (v := ?_) rfl (by kernel_rfl) (by kernel_rfl) (by kernel_rfl) (fun _ _ _ h => h) (Or.inl ⟨by rfl, ?_⟩) (by assumption) ?_
  rotate_left
  · (intro w hSw; (try dsimp only at hSw); go_simp; try (with_reducible rfl))
  try simp only [Act.put, List.setIfInBounds_toArray, List.set_cons_zero, List.set_cons_succ, List.getElem_toArray, List.getElem_cons_zero, List.getElem_cons_succ]
  refine wpAnyH_done (by kernel_rfl) ?_ _
  have hsl := slice_head bb oo m cb hcb
  have hw1 : IntKind.i64.wrap (m : Int) = (m : Int) := by rw [IntKind.wrap_i64]; omega
  have hw2 : IntKind.i64.wrap ((m : Int) + 4 - 4) = (m : Int) := by rw [IntKind.wrap_i64]; omega
  go_wp2_with fail
  refine wp_region_noPanic ?_
  refine wp_region_held_drew (S := fun w' => Below w6.heap.size w6 w') (by kernel_rfl) (bD hS7) (fun hHeld => ?_)
  refine wpAnyH_take (i := 0) (v := ?_) rfl (by kernel_rfl) (by kernel_rfl) (by kernel_rfl) (fun _ _ _ h => h) (Or.inl ⟨by rfl, ?_⟩) (by assumption) ?_
  rotate_left
  · (intro w hSw; (try dsimp only at hSw); go_simp; try (with_reducible rfl))
  try simp only [Act.put, List.setIfInBounds_toArray, List.set_cons_zero, List.set_cons_succ, List.getElem_toArray, List.getElem_cons_zero, List.getElem_cons_succ]
  refine wpAnyH_take (i := 1) (v := ?_) rfl (by kernel_rfl) (by kernel_rfl) (by kernel_rfl) (fun _ _ _ h => h) (Or.inl ⟨by rfl, ?_⟩) (by assumption) ?_
  rotate_left
  · (intro w hSw; (try dsimp only at hSw); go_simp; try (with_reducible rfl))
  try simp only [Act.put, List.setIfInBounds_toArray, List.set_cons_zero, List.set_cons_succ, List.getElem_toArray, List.getElem_cons_zero, List.getElem_cons_succ]
  refine wpAnyH_take (i := 2) (v := ?_) rfl (by kernel_rfl) (by kernel_rfl) (by kernel_rfl) (fun _ _ _ h => h) (Or.inl ⟨by rfl, ?_⟩) (by assumption) ?_
  rotate_left
  · (intro w hSw; (try dsimp only at hSw); go_simp; try (with_reducible rfl))
  try simp only [Act.put, List.setIfInBounds_toArray, List.set_cons_zero, List.set_cons_succ, List.getElem_toArray, List.getElem_cons_zero, List.getElem_cons_succ]
  refine wpAnyH_take (i := 3) (v := ?_) rfl (by kernel_rfl) (by kernel_rfl) (by kernel_rfl) (fun _ _ _ h => h) (Or.inl ⟨by rfl, ?_⟩) (by assumption) ?_
  rotate_left
  · (intro w hSw; (try dsimp only at hSw); go_simp; try (with_reducible rfl))
  try simp only [Act.put, List.setIfInBounds_toArray, List.set_cons_zero, List.set_cons_succ, List.getElem_toArray, List.getElem_cons_zero, List.getElem_cons_succ]
  refine wpAnyH_take (i := 4) (v := ?_) rfl (by kernel_rfl) (by kernel_rfl) (by kernel_rfl) (fun _ _ _ h => h) (Or.inl ⟨by rfl, ?_⟩) (by assumption) ?_
  rotate_left
  · (intro w hSw; (try dsimp only at hSw); go_simp; try (with_reducible rfl))
  try simp only [Act.put, List.setIfInBounds_toArray, List.set_cons_zero, List.set_cons_succ, List.getElem_toArray, List.getElem_cons_zero, List.getElem_cons_succ]
  refine wpAnyH_take (i := 5) (v := ?_) rfl (by kernel_rfl) (by kernel_rfl) (by kernel_rfl) (fun _ _ _ h => h) (Or.inl ⟨by rfl, ?_⟩) (by assumption) ?_
  rotate_left
  · (intro w hSw; (try dsimp only at hSw); go_simp; try (with_reducible rfl))
  try simp only [Act.put, List.setIfInBounds_toArray, List.set_cons_zero, List.set_cons_succ, List.getElem_toArray, List.getElem_cons_zero, List.getElem_cons_succ]
  refine wpAnyH_take (i := 6) (v := ?_) rfl (by kernel_rfl) (by kernel_rfl) (by kernel_rfl) (fun _ _ _ h => h) (Or.inl ⟨by rfl, ?_⟩) (by assumption) ?_
  rotate_left
  · (intro w hSw; (try dsimp only at hSw); go_simp; try (with_reducible rfl))
  try simp only [Act.put, List.setIfInBounds_toArray, List.set_cons_zero, List.set_cons_succ, List.getElem_toArray, List.getElem_cons_zero, List.getElem_cons_succ]
  refine wpAnyH_take (i := 7) (v := ?_) rfl (by kernel_rfl) (by kernel_rfl) (by kernel_rfl) (fun _ _ _ h => h) (Or.inl ⟨by rfl, ?_⟩) (by assumption) ?_
  rotate_left
  · (intro w hSw; (try dsimp only at hSw); go_simp; try (with_reducible rfl))
  try simp only [Act.put, List.setIfInBounds_toArray, List.set_cons_zero, List.set_cons_succ, List.getElem_toArray, List.getElem_cons_zero, List.getElem_cons_succ]
  refine wpAnyH_take (i := 8) (v := ?_) rfl (by kernel_rfl) (by kernel_rfl) (by kernel_rfl) (fun _ _ _ h => h) (Or.inl ⟨by rfl, ?_⟩) (by assumption) ?_
  rotate_left
  · (intro w hSw; (try dsimp only at hSw); go_simp; try (with_reducible rfl))
  try simp only [Act.put, List.setIfInBounds_toArray, List.set_cons_zero, List.set_cons_succ, List.getElem_toArray, List.getElem_cons_zero, List.getElem_cons_succ]
  refine wpAnyH_take (i := 11) (v := ?_) rfl (by kernel_rfl) (by kernel_rfl) (by kernel_rfl) (fun _ _ _ h => h) (Or.inl ⟨by rfl, ?_⟩) (by assumption) ?_
  rotate_left
  · (intro w hSw; (try dsimp only at hSw); go_simp; try (with_reducible rfl))
  try simp only [Act.put, List.setIfInBounds_toArray, List.set_cons_zero, List.set_cons_succ, List.getElem_toArray, List.getElem_cons_zero, List.getElem_cons_succ]
  refine wpAnyH_take (i := 12) (v := ?_) rfl (by kernel_rfl) (by kernel_rfl) (by kernel_rfl) (fun _ _ _ h => h) (Or.inl ⟨by rfl, ?_⟩) (by assumption) ?_
  rotate_left
  · (intro w hSw; (try dsimp only at hSw); go_simp; try (with_reducible rfl))
  try simp only [Act.put, List.setIfInBounds_toArray, List.set_cons_zero, List.set_cons_succ, List.getElem_toArray, List.getElem_cons_zero, List.getElem_cons_succ]
  refine wpAnyH_ready (rs := [9]) (by kernel_rfl) (by simp) ?_
  refine AllReadyH.cons rfl (fun K hK => ?_) AllReadyH.nil
  go_simp
  go_at_call 12
  refine (rB _ (bD hS7)).mono ?_
  rintro e w8 ⟨⟨g8, cap8, rfl, cv8⟩, hb8⟩
  have hS8 : Below w6.heap.size w6 w8 := bT (bD hS7) hb8
  have cB8 := fun w' (h : Below w8.heap.size w8 w') => cB w' (bT hS8 h)
  refine hK.out _ _ hS8 (fun _ => ?_)
  refine held_swap (S' := fun w' => Below w8.heap.size w8 w') (fun w h => bT hS8 h) _ _ _ _ ?_
  clear hK K hHeld
  have hHeld : Below w8.heap.size w8 w8 := Below.refl _ _
  try simp only [Act.put, List.setIfInBounds_toArray, List.set_cons_zero, List.set_cons_succ, List.getElem_toArray, List.getElem_cons_zero, List.getElem_cons_succ]
  refine wpAnyH_take (i := 10) (v := ?_) rfl (by kernel_rfl) (by kernel_rfl) (by kernel_rfl) (fun _ _ _ h => h) (Or.inl ⟨by rfl, ?_⟩) (by assumption) ?_
  rotate_left
  · (intro w hSw; (try dsimp only at hSw); go_simp; try (with_reducible rfl))
  try simp only [Act.put, List.setIfInBounds_toArray, List.set_cons_zero, List.set_cons_succ, List.getElem_toArray, List.getElem_cons_zero, List.getElem_cons_succ]
  refine wpAnyH_take (i := 13) (v := ?_) rfl (by kernel_rfl) (by kernel_rfl) (by kernel_rfl) (fun _ _ _ h => h) (Or.inl ⟨by rfl, ?_⟩) (by assumption) ?_
  rotate_left
  · (intro w hSw; (try dsimp only at hSw); go_simp; try (with_reducible rfl))
  try simp only [Act.put, List.setIfInBounds_toArray, List.set_cons_zero, List.set_cons_succ, List.getElem_toArray, List.getElem_cons_zero, List.getElem_cons_succ]
  refine wpAnyH_take (i := 14) (v := ?_) rfl (by kernel_rfl) (by kernel_rfl) (by kernel_rfl) (fun _ _ _ h => h) (Or.inl ⟨by rfl, ?_⟩) (by assumption) ?_
  rotate_left
  · (intro w hSw; (try dsimp only at hSw); go_simp; try (with_reducible rfl))
  try simp only [Act.put, List.setIfInBounds_toArray, List.set_cons_zero, List.set_cons_succ, List.getElem_toArray, List.getElem_cons_zero, List.getElem_cons_succ]
  refine wpAnyH_done (by kernel_rfl) ?_ _
  refine NoPanic.normal ?_
  go_wp2_with fail
  go_ret
  exact ⟨rfl, bT HB6 hS8⟩

set_option linter.unusedSimpArgs false in
set_option maxHeartbeats 2000000 in
theorem seals_same (a : List Nat) (hoa : Crc.Octets a) (n : Nat) (hn : n = a.length) (la : a.length ≤ 2000) (pa : Option Addr) (ca : Nat) (bd t : List Nat) (hob : Crc.Octets bd) (hot : Crc.Octets t) (ht : t.length = 4) (m : Nat) (hm : m = bd.length) (lb : m + 4 ≤ 2000) (hyes : t = Crc.le4 (Crc.crc bd)) (bb oo : Nat) (cb : Nat) (hcb : m + 4 ≤ cb) (w : World) (ha : BytesIn w pa ca a) (hb : BytesIn w (some ⟨bb, oo, none⟩) cb (bd ++ t)) :
    Calls Try.prog 4 #[.slice pa a.length ca, .slice (some ⟨bb, oo, none⟩) (m + 4) cb] w fun e w' => e = .returned (.bool true) ∧ Below w.heap.size w w' := by
  have HN := Lib.hid hn
  rw [← hn] at la ⊢
  clear hn
  have hd' : decide ((2000 : Int) < n) = false := decide_eq_false (by omega)
  have HM := Lib.hid hm
  clear hm
  have hbt : (bd ++ t).length = m + 4 := by rw [List.length_append, ht, ← HM.out]
  have HBT := Lib.hid hbt
  clear hbt
  have hdm : decide ((2000 : Int) < (m : Int) + 4) = false := decide_eq_false (by omega)
  have hd4 : decide ((m : Int) + 4 < 4) = false := decide_eq_false (by omega)
  have hmc : m ≤ cb := by omega
  have hc0 : ¬ cb = 0 := by omega
  have hmi : (m : Int) ≤ (cb : Int) := by omega
  have hm0 : (0 : Int) ≤ (m : Int) := by omega
  have hmm : (m : Int) ≤ (m : Int) + 4 := by omega
  have HY := Lib.hid hyes
  clear hyes
  go_enter Try.func4, Try.ntmps4
  go_wp2_with fail
  refine (awake_true _).mono ?_
  rintro e w1 ⟨rfl, HB1⟩
  have ha1 := ha.below HB1
  go_wp2_with (at_builtin; refine append_bytes rfl (.tmp 23) (.tmp 24) rfl w1.heap.size _ _ _ rfl (World.ownsRow_made w1 #[] 0 (Nat.le_refl _) (Nat.zero_le _) rfl) pa n ca a rfl HN.out.symm (ha1.below ((Below.refl _ w1).alloc (Nat.le_refl _) _)) (by omega) (by simp) ?_)
  intro v2 w2 hown2 hgrow hnil
  clear hnil
  have HB2 : Below w.heap.size w w2 := bT HB1 (((Below.refl _ w1).alloc (Nat.le_refl _) _).grown hgrow (by simp) (by intro k hk; cases hk; exact Nat.le_refl _))
  clear hgrow ha1
  obtain ⟨p2, c2, rfl, hin2⟩ := owned_any HN.out hown2
  have hseal := seal_any a hoa (by rw [← HN.out]; omega) p2 c2 w2 hin2
  have hT : Crc.Octets (Crc.le4 (Crc.crc a)) := Crc.le4_octets _
  have hTl : (Crc.le4 (Crc.crc a)).length = 4 := rfl
  have HTT := Lib.hid (show Crc.le4 (Crc.crc a) = Crc.le4 (Crc.crc a) from rfl)
  rw [← HN.out] at hseal
  go_wp2_with fail
  refine hseal.mono ?_
  rintro e w3 ⟨v3, rfl, hown3, hb3⟩
  clear hseal hown2 hin2
  have HB3 : Below w.heap.size w w3 := bT HB2 hb3
  obtain ⟨g3, cap3, rfl, hg3b, hg3l, hg3c⟩ := owned_pos hown3 (by omega)
  have hin3 : BytesIn w3 (some ⟨g3, 0, none⟩) cap3 (a ++ Crc.le4 (Crc.crc a)) := owned_in (by rw [List.length_append, hTl, ← HN.out]; exact hown3)
  have hopen := open_long a (Crc.le4 (Crc.crc a)) hoa hT hTl (by rw [← HN.out]; omega) g3 0 cap3 (by rw [← HN.out]; exact hg3c) w3 hin3
  rw [← HN.out] at hopen
  clear hown3
  go_wp2_with fail
  refine hopen.mono ?_
  rintro e w4 ⟨hb4, ⟨_, v4, rfl, hown4⟩ | ⟨hno, _⟩⟩
  case inr => exact absurd rfl hno
  clear hopen
  have HB4 : Below w.heap.size w w4 := bT HB3 hb4
  obtain ⟨p4, c4, rfl, hin4⟩ := owned_any HN.out hown4
  have hin34 := hin3.below hb4
  have hb1 := hb.below HB4
  clear hown4
  go_wp2_with (at_builtin; refine append_bytes rfl (.tmp 33) (.tmp 34) rfl w4.heap.size _ _ _ rfl (World.ownsRow_made w4 #[] 0 (Nat.le_refl _) (Nat.zero_le _) rfl) (some ⟨bb, oo, none⟩) (m + 4) cb (bd ++ t) rfl HBT.out (hb1.below ((Below.refl _ w4).alloc (Nat.le_refl _) _)) (by omega) (by simp) ?_)
  intro v5 w5 hown5 hgrow hnil
  clear hnil
  have hb5 : Below w4.heap.size w4 w5 := ((Below.refl _ w4).alloc (Nat.le_refl _) _).grown hgrow (by simp) (by intro k hk; cases hk; exact Nat.le_refl _)
  have HB5 : Below w.heap.size w w5 := bT HB4 hb5
  clear hgrow hb1
  obtain ⟨g5, cap5, rfl, hg5b, hg5l, hg5c⟩ := owned_pos hown5 (by omega)
  have hin5 : BytesIn w5 (some ⟨g5, 0, none⟩) cap5 (bd ++ t) := owned_in (by rw [HBT.out]; simpa using hown5)
  have hopen5 := open_long bd t hob hot ht (by rw [← HM.out]; omega) g5 0 cap5 (by rw [← HM.out]; omega) w5 hin5
  rw [← HM.out] at hopen5
  clear hown5 hin5
  go_wp2_with fail
  refine hopen5.mono ?_
  clear hopen5
  rintro e w6 ⟨hb6, ⟨_, v6, rfl, hown6⟩ | ⟨hno, _⟩⟩
  case inr => exact absurd HY.out hno
  obtain ⟨p6, c6, rfl, hin6⟩ := owned_any HM.out hown6
  clear hown6
  have HB6 : Below w.heap.size w w6 := bT HB5 hb6
  have hb46 : Below w4.heap.size w4 w6 := bT hb5 hb6
  have iS := hin34.below hb46
  have iX := hin4.below hb46
  have iA := ha.below HB6
  have iB := hb.below HB6
  clear hin34 hin4 hin3 hb3 hb4
  have cS : ∀ w', Below w6.heap.size w6 w' → (convert 24 9 (.slice (some ⟨g3, 0, none⟩) (n + 4) cap3)).run Try.prog w' = .ok (.string (strN (a ++ Crc.le4 (Crc.crc a)))) w' := fun w' hb => by
    have := convert_in (iS.below hb) (Crc.octets_append hoa hT)
    rw [List.length_append, hTl, ← HN.out] at this
    exact this
  have cX : ∀ w', Below w6.heap.size w6 w' → (convert 24 9 (.slice p4 n c4)).run Try.prog w' = .ok (.string (strN a)) w' := fun w' hb => by
    have := convert_in (iX.below hb) hoa
    rw [← HN.out] at this
    exact this
  have cA : ∀ w', Below w6.heap.size w6 w' → (convert 24 9 (.slice pa n ca)).run Try.prog w' = .ok (.string (strN a)) w' := fun w' hb => by
    have := convert_in (iA.below hb) hoa
    rw [← HN.out] at this
    exact this
  have rA : ∀ w', Below w6.heap.size w6 w' → Calls Try.prog 12 #[.slice pa n ca] w' fun e w'' => (∃ g cap, e = .returned (.slice (some ⟨g, 0, none⟩) (n + 4) cap) ∧ ∀ w3, Below w''.heap.size w'' w3 → (convert 24 9 (.slice (some ⟨g, 0, none⟩) (n + 4) cap)).run Try.prog w3 = .ok (.string (strN (a ++ Crc.le4 (Crc.crc a)))) w3) ∧ Below w'.heap.size w' w'' := fun w' hb => by
    have := refseal_str a hoa (by rw [← HN.out]; omega) pa ca w' (iA.below hb)
    rw [← HN.out] at this
    exact this
  have hbody : BytesIn w6 (some ⟨bb, oo, none⟩) cb bd := ⟨fun h => (by cases h), fun h0 => ⟨bb, oo, rfl, fun i hi => by
    obtain ⟨b', o', hp', hcs⟩ := iB.at_ (by simp; omega)
    cases hp'
    have := hcs i (by simp; omega)
    rwa [List.getD_eq_getElem?_getD, List.getElem?_append_left hi, ← List.getD_eq_getElem?_getD] at this⟩⟩
  have cB : ∀ w', Below w6.heap.size w6 w' → (convert 24 9 (.slice (some ⟨bb, oo, none⟩) (m + 4) cb)).run Try.prog w' = .ok (.string (strN (bd ++ t))) w' := fun w' hb => by
    have := convert_in (iB.below hb) (Crc.octets_append hob hot)
    rw [HBT.out] at this
    exact this
  have cC : ∀ w', Below w6.heap.size w6 w' → (convert 24 9 (.slice (some ⟨bb, oo, none⟩) m cb)).run Try.prog w' = .ok (.string (strN bd)) w' := fun w' hb => by
    have := convert_in (hbody.below hb) hob
    rw [← HM.out] at this
    exact this
  have rB : ∀ w', Below w6.heap.size w6 w' → Calls Try.prog 12 #[.slice (some ⟨bb, oo, none⟩) m cb] w' fun e w'' => (∃ g cap, e = .returned (.slice (some ⟨g, 0, none⟩) (m + 4) cap) ∧ ∀ w3, Below w''.heap.size w'' w3 → (convert 24 9 (.slice (some ⟨g, 0, none⟩) (m + 4) cap)).run Try.prog w3 = .ok (.string (strN (bd ++ Crc.le4 (Crc.crc bd)))) w3) ∧ Below w'.heap.size w' w'' := fun w' hb => by
    have := refseal_str bd hob (by rw [← HM.out]; omega) (some ⟨bb, oo, none⟩) cb w' (hbody.below hb)
    rw [← HM.out] at this
    exact this
  clear hbody
  have cY : ∀ w', Below w6.heap.size w6 w' → (convert 24 9 (.slice p6 m c6)).run Try.prog w' = .ok (.string (strN bd)) w' := fun w' hb => by
    have := convert_in (hin6.below hb) hob
    rw [← HM.out] at this
    exact this
  rw [HY.out] at cB
  generalize strN (bd ++ Crc.le4 (Crc.crc bd)) = SB at *
  generalize strN bd = SC at *
  clear iS iX iA iB HTT hT hTl
  generalize strN (a ++ Crc.le4 (Crc.crc a)) = SS at *
  generalize strN a = SA at *
  go_wp2_with fail
  refine wp_region_held_drew (S := fun w' => Below w6.heap.size w6 w') (by kernel_rfl) (bD (Below.refl _ _)) (fun hHeld => ?_)
  refine wpAnyH_take (i := 0) (v := ?_) rfl (by kernel_rfl) (by kernel_rfl) (by kernel_rfl) (fun _ _ _ h => h) (Or.inl ⟨by rfl, ?_⟩) (by assumption) ?_
  rotate_left
  · (intro w hSw; (try dsimp only at hSw); go_simp; try (with_reducible rfl))
  try simp only [Act.put, List.setIfInBounds_toArray, List.set_cons_zero, List.set_cons_succ, List.getElem_toArray, List.getElem_cons_zero, List.getElem_cons_succ]
  refine wpAnyH_take (i := 1) (v := ?_) rfl (by kernel_rfl) (by kernel_rfl) (by kernel_rfl) (fun _ _ _ h => h) (Or.inl ⟨by rfl, ?_⟩) (by assumption) ?_
  rotate_left
  · (intro w hSw; (try dsimp only at hSw); go_simp; try (with_reducible rfl))
  try simp only [Act.put, List.setIfInBounds_toArray, List.set_cons_zero, List.set_cons_succ, List.getElem_toArray, List.getElem_cons_zero, List.getElem_cons_succ]
  refine wpAnyH_take (i := 2) (v := ?_) rfl (by kernel_rfl) (by kernel_rfl) (by kernel_rfl) (fun _ _ _ h => h) (Or.inl ⟨by rfl, ?_⟩) (by assumption) ?_
  rotate_left
  · (intro w hSw; (try dsimp only at hSw); go_simp; try (with_reducible rfl))
  try simp only [Act.put, List.setIfInBounds_toArray, List.set_cons_zero, List.set_cons_succ, List.getElem_toArray, List.getElem_cons_zero, List.getElem_cons_succ]
  refine wpAnyH_ready (rs := [3]) (by kernel_rfl) (by simp) ?_
  refine AllReadyH.cons rfl (fun K hK => ?_) AllReadyH.nil
  go_simp
  go_at_call 12
  refine (rA _ (bD (Below.refl _ _))).mono ?_
  rintro e w7 ⟨⟨g7, cap7, rfl, cv7⟩, hb7⟩
  have hS7 : Below w6.heap.size w6 w7 := bT (bD (Below.refl _ _)) hb7
  have cX7 := fun w' (h : Below w7.heap.size w7 w') => cX w' (bT hS7 h)
  have cA7 := fun w' (h : Below w7.heap.size w7 w') => cA w' (bT hS7 h)
  refine hK.out _ _ hS7 (fun _ => ?_)
  refine held_swap (S' := fun w' => Below w7.heap.size w7 w') (fun w h => bT hS7 h) _ _ _ _ ?_
  clear hK K hHeld
  have hHeld : Below w7.heap.size w7 w7 := Below.refl _ _
  try simp only [Act.put, List.setIfInBounds_toArray, List.set_cons_zero, List.set_cons_succ, List.getElem_toArray, List.getElem_cons_zero, List.getElem_cons_succ]
  refine wpAnyH_take (i := 4) (v := ?_) rfl (by kernel_rfl) (by kernel_rfl) (by kernel_rfl) (fun _ _ _ h => h) (Or.inl ⟨by rfl, ?_⟩) (by assumption) ?_
  rotate_left
  · (intro w hSw; (try dsimp only at hSw); go_simp; try (with_reducible rfl))
  try simp only [Act.put, List.setIfInBounds_toArray, List.set_cons_zero, List.set_cons_succ, List.getElem_toArray, List.getElem_cons_zero, List.getElem_cons_succ]
  refine wpAnyH_take (i := 5) (v := ?_) rfl (by kernel_rfl) (by kernel_rfl) (by kernel_rfl) (fun _ _ _ h => h) (Or.inl ⟨by rfl, ?_⟩) (by assumption) ?_
  rotate_left
  · (intro w hSw; (try dsimp only at hSw); go_simp; try (with_reducible rfl))
  try simp only [Act.put, List.setIfInBounds_toArray, List.set_cons_zero, List.set_cons_succ, List.getElem_toArray, List.getElem_cons_zero, List.getElem_cons_succ]
  refine wpAnyH_take (i := 6) (v := ?_) rfl (by kernel_rfl) (by kernel_rfl) (by kernel_rfl) (fun _ _ _ h => h) (Or.inl ⟨by rfl, ?_⟩) (by assumption) ?_
  rotate_left
  · (intro w hSw; (try dsimp only at hSw); go_simp; try (with_reducible rfl))
  try simp only [Act.put, List.setIfInBounds_toArray, List.set_cons_zero, List.set_cons_succ, List.getElem_toArray, List.getElem_cons_zero, List.getElem_cons_succ]
  refine wpAnyH_take (i := 7) (v := ?_) rfl (by kernel_rfl) (by kernel_rfl) (by kernel_rfl) (fun _ _ _ h => h) (Or.inl ⟨by rfl, ?_⟩) (by assumption) ?_
  rotate_left
  · (intro w hSw; (try dsimp only at hSw); go_simp; try (with_reducible rfl))
  try simp only [Act.put, List.setIfInBounds_toArray, List.set_cons_zero, List.set_cons_succ, List.getElem_toArray, List.getElem_cons_zero, List.getElem_cons_succ]
  refine wpAnyH_take (i := 8) (v := ?_) rfl (by kernel_rfl) (by kernel_rfl) (by kernel_rfl) (fun _ _ _ h => h) (Or.inl ⟨by rfl, ?_⟩) (by assumption) ?_
  rotate_left
  · (intro w hSw; (try dsimp only at hSw); go_simp; try (with_reducible rfl))
  try simp only [Act.put, List.setIfInBounds_toArray, List.set_cons_zero, List.set_cons_succ, List.getElem_toArray, List.getElem_cons_zero, List.getElem_cons_succ]
  refine wpAnyH_take (i := 9) (v := ?_) rfl (by kernel_rfl) (by kernel_rfl) (by kernel_rfl) (fun _ _ _ h => h) (Or.inl ⟨by rfl, ?_⟩) (by assumption) ?_
  rotate_left
  · (intro w hSw; (try dsimp only at hSw); go_simp; try (with_reducible rfl))
  try simp only [Act.put, List.setIfInBounds_toArray, List.set_cons_zero, List.set_cons_succ, List.getElem_toArray, List.getElem_cons_zero, List.getElem_cons_succ]
  refine wpAnyH_take (i := 10) (v := ?_) rfl (by kernel_rfl) (by kernel_rfl) (by kernel_rfl) (fun _ _ _ h => h) (Or.inl ⟨by rfl, ?_⟩) (by assumption) ?_
  rotate_left
  · (intro w hSw; (try dsimp only at hSw); go_simp; try (with_reducible rfl))
  try simp only [Act.put, List.setIfInBounds_toArray, List.set_cons_zero, List.set_cons_succ, List.getElem_toArray, List.getElem_cons_zero, List.getElem_cons_succ]
  refine wpAnyH_take (i := 11) (v := ?_) rfl (by kernel_rfl) (by kernel_rfl) (by kernel_rfl) (fun _ _ _ h => h) (Or.inl ⟨by rfl, ?_⟩) (by assumption) ?_
  rotate_left
  · (intro w hSw; (try dsimp only at hSw); go_simp; try (with_reducible rfl))
  try simp only [Act.put, List.setIfInBounds_toArray, List.set_cons_zero, List.set_cons_succ, List.getElem_toArray, List.getElem_cons_zero, List.getElem_cons_succ]
  refine wpAnyH_take (i := 12) (v := ?_) rfl (by kernel_rfl) (by kernel_rfl) (by kernel_rfl) (fun _ _ _ h => h) (Or.inl ⟨by rfl, ?_⟩) (by assumption) ?_
  rotate_left
  · (intro w hSw; (try dsimp only at hSw); go_simp; try (with_reducible rfl))
  try simp only [Act.put, List.setIfInBounds_toArray, List.set_cons_zero, List.set_cons_succ, List.getElem_toArray, List.getElem_cons_zero, List.getElem_cons_succ]
  refine wpAnyH_take (i := 13) (v := ?_) rfl (by kernel_rfl) (by kernel_rfl) (by kernel_rfl) (fun _ _ _ h => h) (Or.inl ⟨by rfl, ?_⟩) (by assumption) ?_
  rotate_left
  · (intro w hSw; (try dsimp only at hSw); go_simp; try (with_reducible rfl))
  try simp only [Act.put, List.setIfInBounds_toArray, List.set_cons_zero, List.set_cons_succ, List.getElem_toArray, List.getElem_cons_zero, List.getElem_cons_succ]
  refine wpAnyH_take (i := 14) (v := ?_) rfl (by kernel_rfl) (by kernel_rfl) (by kernel_rfl) (fun _ _ _ h => h) (Or.inl ⟨by rfl, ?_⟩) (by assumption) ?_
  rotate_left
  · (intro w hSw; (try dsimp only at hSw); go_simp; try (with_reducible rfl))
  try simp only [Act.put, List.setIfInBounds_toArray, List.set_cons_zero, List.set_cons_succ, List.getElem_toArray, List.getElem_cons_zero, List.getElem_cons_succ]
  refine wpAnyH_take (i := 15) (v := ?_) rfl (by kernel_rfl) (by kernel_rfl) (by kernel_rfl) (fun _ _ _ h => h) (Or.inl ⟨by rfl, ?_⟩) (by assumption) ?_
  rotate_left
  · (intro w hSw; (try dsimp only at hSw); go_simp; try (with_reducible rfl))
  try simp only [Act.put, List.setIfInBounds_toArray, List.set_cons_zero, List.set_cons_succ, List.getElem_toArray, List.getElem_cons_zero, List.getElem_cons_succ]
  refine wpAnyH_take (i := 16) (v := ?_) rfl (by kernel_rfl) (by kernel_rfl) (by kernel_rfl) (fun _ _ _ h => h) (Or.inl ⟨by rfl, ?_⟩) (by assumption) ?_
  rotate_left
  · (intro w hSw; (try dsimp only at hSw); go_simp; try (with_reducible rfl))
  try simp only [Act.put, List.setIfInBounds_toArray, List.set_cons_zero, List.set_cons_succ, List.getElem_toArray, List.getElem_cons_zero, List.getElem_cons_succ]
  refine wpAnyH_done (by kernel_rfl) ?_ _
  have hsl := slice_head bb oo m cb hcb
  have hw1 : IntKind.i64.wrap (m : Int) = (m : Int) := by rw [IntKind.wrap_i64]; omega
  have hw2 : IntKind.i64.wrap ((m : Int) + 4 - 4) = (m : Int) := by rw [IntKind.wrap_i64]; omega
  go_wp2_with fail
  refine wp_region_noPanic ?_
  refine wp_region_held_drew (S := fun w' => Below w6.heap.size w6 w') (by kernel_rfl) (bD hS7) (fun hHeld => ?_)
  refine wpAnyH_take (i := 0) (v := ?_) rfl (by kernel_rfl) (by kernel_rfl) (by kernel_rfl) (fun _ _ _ h => h) (Or.inl ⟨by rfl, ?_⟩) (by assumption) ?_
  rotate_left
  · (intro w hSw; (try dsimp only at hSw); go_simp; try (with_reducible rfl))
  try simp only [Act.put, List.setIfInBounds_toArray, List.set_cons_zero, List.set_cons_succ, List.getElem_toArray, List.getElem_cons_zero, List.getElem_cons_succ]
  refine wpAnyH_take (i := 1) (v := ?_) rfl (by kernel_rfl) (by kernel_rfl) (by kernel_rfl) (fun _ _ _ h => h) (Or.inl ⟨by rfl, ?_⟩) (by assumption) ?_
  rotate_left
  · (intro w hSw; (try dsimp only at hSw); go_simp; try (with_reducible rfl))
  try simp only [Act.put, List.setIfInBounds_toArray, List.set_cons_zero, List.set_cons_succ, List.getElem_toArray, List.getElem_cons_zero, List.getElem_cons_succ]
  refine wpAnyH_take (i := 2) (v := ?_) rfl (by kernel_rfl) (by kernel_rfl) (by kernel_rfl) (fun _ _ _ h => h) (Or.inl ⟨by rfl, ?_⟩) (by assumption) ?_
  rotate_left
  · (intro w hSw; (try dsimp only at hSw); go_simp; try (with_reducible rfl))
  try simp only [Act.put, List.setIfInBounds_toArray, List.set_cons_zero, List.set_cons_succ, List.getElem_toArray, List.getElem_cons_zero, List.getElem_cons_succ]
  refine wpAnyH_take (i := 3) (v := ?_) rfl (by kernel_rfl) (by kernel_rfl) (by kernel_rfl) (fun _ _ _ h => h) (Or.inl ⟨by rfl, ?_⟩) (by assumption) ?_
  rotate_left
  · (intro w hSw; (try dsimp only at hSw); go_simp; try (with_reducible rfl))
  try simp only [Act.put, List.setIfInBounds_toArray, List.set_cons_zero, List.set_cons_succ, List.getElem_toArray, List.getElem_cons_zero, List.getElem_cons_succ]
  refine wpAnyH_take (i := 4) (v := ?_) rfl (by kernel_rfl) (by kernel_rfl) (by kernel_rfl) (fun _ _ _ h => h) (Or.inl ⟨by rfl, ?_⟩) (by assumption) ?_
  rotate_left
  · (intro w hSw; (try dsimp only at hSw); go_simp; try (with_reducible rfl))
  try simp only [Act.put, List.setIfInBounds_toArray, List.set_cons_zero, List.set_cons_succ, List.getElem_toArray, List.getElem_cons_zero, List.getElem_cons_succ]
  refine wpAnyH_take (i := 5) (v := ?_) rfl (by kernel_rfl) (by kernel_rfl) (by kernel_rfl) (fun _ _ _ h => h) (Or.inl ⟨by rfl, ?_⟩) (by assumption) ?_
  rotate_left
  · (intro w hSw; (try dsimp only at hSw); go_simp; try (with_reducible rfl))
  try simp only [Act.put, List.setIfInBounds_toArray, List.set_cons_zero, List.set_cons_succ, List.getElem_toArray, List.getElem_cons_zero, List.getElem_cons_succ]
  refine wpAnyH_take (i := 6) (v := ?_) rfl (by kernel_rfl) (by kernel_rfl) (by kernel_rfl) (fun _ _ _ h => h) (Or.inl ⟨by rfl, ?_⟩) (by assumption) ?_
  rotate_left
  · (intro w hSw; (try dsimp only at hSw); go_simp; try (with_reducible rfl))
  try simp only [Act.put, List.setIfInBounds_toArray, List.set_cons_zero, List.set_cons_succ, List.getElem_toArray, List.getElem_cons_zero, List.getElem_cons_succ]
  refine wpAnyH_take (i := 7) (v := ?_) rfl (by kernel_rfl) (by kernel_rfl) (by kernel_rfl) (fun _ _ _ h => h) (Or.inl ⟨by rfl, ?_⟩) (by assumption) ?_
  rotate_left
  · (intro w hSw; (try dsimp only at hSw); go_simp; try (with_reducible rfl))
  try simp only [Act.put, List.setIfInBounds_toArray, List.set_cons_zero, List.set_cons_succ, List.getElem_toArray, List.getElem_cons_zero, List.getElem_cons_succ]
  refine wpAnyH_take (i := 8) (v := ?_) rfl (by kernel_rfl) (by kernel_rfl) (by kernel_rfl) (fun _ _ _ h => h) (Or.inl ⟨by rfl, ?_⟩) (by assumption) ?_
  rotate_left
  · (intro w hSw; (try dsimp only at hSw); go_simp; try (with_reducible rfl))
  try simp only [Act.put, List.setIfInBounds_toArray, List.set_cons_zero, List.set_cons_succ, List.getElem_toArray, List.getElem_cons_zero, List.getElem_cons_succ]
  refine wpAnyH_take (i := 11) (v := ?_) rfl (by kernel_rfl) (by kernel_rfl) (by kernel_rfl) (fun _ _ _ h => h) (Or.inl ⟨by rfl, ?_⟩) (by assumption) ?_
  rotate_left
  · (intro w hSw; (try dsimp only at hSw); go_simp; try (with_reducible rfl))
  try simp only [Act.put, List.setIfInBounds_toArray, List.set_cons_zero, List.set_cons_succ, List.getElem_toArray, List.getElem_cons_zero, List.getElem_cons_succ]
  refine wpAnyH_take (i := 12) (v := ?_) rfl (by kernel_rfl) (by kernel_rfl) (by kernel_rfl) (fun _ _ _ h => h) (Or.inl ⟨by rfl, ?_⟩) (by assumption) ?_
  rotate_left
  · (intro w hSw; (try dsimp only at hSw); go_simp; try (with_reducible rfl))
  try simp only [Act.put, List.setIfInBounds_toArray, List.set_cons_zero, List.set_cons_succ, List.getElem_toArray, List.getElem_cons_zero, List.getElem_cons_succ]
  refine wpAnyH_ready (rs := [9]) (by kernel_rfl) (by simp) ?_
  refine AllReadyH.cons rfl (fun K hK => ?_) AllReadyH.nil
  go_simp
  go_at_call 12
  refine (rB _ (bD hS7)).mono ?_
  rintro e w8 ⟨⟨g8, cap8, rfl, cv8⟩, hb8⟩
  have hS8 : Below w6.heap.size w6 w8 := bT (bD hS7) hb8
  have cB8 := fun w' (h : Below w8.heap.size w8 w') => cB w' (bT hS8 h)
  refine hK.out _ _ hS8 (fun _ => ?_)
  refine held_swap (S' := fun w' => Below w8.heap.size w8 w') (fun w h => bT hS8 h) _ _ _ _ ?_
  clear hK K hHeld
  have hHeld : Below w8.heap.size w8 w8 := Below.refl _ _
  try simp only [Act.put, List.setIfInBounds_toArray, List.set_cons_zero, List.set_cons_succ, List.getElem_toArray, List.getElem_cons_zero, List.getElem_cons_succ]
  refine wpAnyH_take (i := 10) (v := ?_) rfl (by kernel_rfl) (by kernel_rfl) (by kernel_rfl) (fun _ _ _ h => h) (Or.inl ⟨by rfl, ?_⟩) (by assumption) ?_
  rotate_left
  · (intro w hSw; (try dsimp only at hSw); go_simp; try (with_reducible rfl))
  try simp only [Act.put, List.setIfInBounds_toArray, List.set_cons_zero, List.set_cons_succ, List.getElem_toArray, List.getElem_cons_zero, List.getElem_cons_succ]
  refine wpAnyH_take (i := 13) (v := ?_) rfl (by kernel_rfl) (by kernel_rfl) (by kernel_rfl) (fun _ _ _ h => h) (Or.inl ⟨by rfl, ?_⟩) (by assumption) ?_
  rotate_left
  · (intro w hSw; (try dsimp only at hSw); go_simp; try (with_reducible rfl))
  try simp only [Act.put, List.setIfInBounds_toArray, List.set_cons_zero, List.set_cons_succ, List.getElem_toArray, List.getElem_cons_zero, List.getElem_cons_succ]
  refine wpAnyH_take (i := 14) (v := ?_) rfl (by kernel_rfl) (by kernel_rfl) (by kernel_rfl) (fun _ _ _ h => h) (Or.inl ⟨by rfl, ?_⟩) (by assumption) ?_
  rotate_left
  · (intro w hSw; (try dsimp only at hSw); go_simp; try (with_reducible rfl))
  try simp only [Act.put, List.setIfInBounds_toArray, List.set_cons_zero, List.set_cons_succ, List.getElem_toArray, List.getElem_cons_zero, List.getElem_cons_succ]
  refine wpAnyH_done (by kernel_rfl) ?_ _
  refine NoPanic.normal ?_
  go_wp2_with fail
  go_region_held3 (fun w' => Below w6.heap.size w6 w') (repeat' first | assumption | exact Below.refl _ _ | with_reducible refine bD ?_ | with_reducible refine bA ?_ _) (first | fail)
  go_wp2_with fail
  go_ret
  exact ⟨rfl, bT HB6 (bD hS8)⟩

theorem seals_true (a b : List Nat) (hoa : Crc.Octets a) (hob : Crc.Octets b) (pa pb : Option Addr) (ca cb : Nat) (hcb : b.length ≤ cb) (w : World) (ha : BytesIn w pa ca a) (hb : BytesIn w pb cb b) :
    Calls Try.prog 4 #[.slice pa a.length ca, .slice pb b.length cb] w fun e w' => e = .returned (.bool true) ∧ Below w.heap.size w w' := by
  by_cases hl : 2000 < a.length ∨ 2000 < b.length
  · exact seals_off pa pb a.length b.length ca cb hl w
  have la : a.length ≤ 2000 := by omega
  have lb : b.length ≤ 2000 := by omega
  rcases Nat.lt_or_ge b.length 4 with h4 | h4
  · exact seals_short a hoa a.length rfl la pa ca b b.length rfl h4 pb cb w ha hb
  · obtain ⟨m, hm⟩ : ∃ m, m + 4 = b.length := ⟨b.length - 4, by omega⟩
    obtain ⟨bb, oo, rfl, _⟩ := hb.at_ (by omega)
    have hcut : b.take m ++ b.drop m = b := List.take_append_drop m b
    have l1 : m = (b.take m).length := by rw [List.length_take]; omega
    have l2 : (b.drop m).length = 4 := by rw [List.length_drop]; omega
    have o1 : Crc.Octets (b.take m) := fun x hx => hob x (List.mem_of_mem_take hx)
    have o2 : Crc.Octets (b.drop m) := fun x hx => hob x (List.mem_of_mem_drop hx)
    have hb' : BytesIn w (some ⟨bb, oo, none⟩) cb (b.take m ++ b.drop m) := by rw [hcut]; exact hb
    rw [← hm]
    by_cases hy : b.drop m = Crc.le4 (Crc.crc (b.take m))
    · exact seals_same a hoa a.length rfl la pa ca (b.take m) (b.drop m) o1 o2 l2 m l1 (by omega) hy bb oo cb (by omega) w ha hb'
    · exact seals_other a hoa a.length rfl la pa ca (b.take m) (b.drop m) o1 o2 l2 m l1 (by omega) hy bb oo cb (by omega) w ha hb'
end Go.Proofs.Ytehdbnjkgdfgbaa
