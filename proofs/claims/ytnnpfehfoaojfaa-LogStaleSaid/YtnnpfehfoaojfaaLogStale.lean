/-
  Behind a reset nothing older is read again.
-/
import Derived.Test.YtnnpfehfoaojfaaLogSt
namespace Go.Proofs.Ytnnpfehfoaojfaa
open Go.RowKit Go.Shelf
attribute [local go_sem] Oper.semAt_some

/-- The log holds these bodies. -/
def LHold (w0 wr : World) (P D g n after u l : Nat) (bs : List (List UInt8)) : Prop := ∃ S, LSt w0 wr P D g n u l S ∧ Holds S after bs ∧ u = usedS bs ∧ l = after + bs.length
theorem LHold.put {w0 w' : World} {P D g n after u l : Nat} {bs : List (List UInt8)} {S : List Sec} {b : List UInt8} (h : Holds S after bs) (hu : u = usedS bs) (hl : l = after + bs.length) (hb : b.length ≤ 1048576) (hlow : l + 1 ≤ 1152921504606846975) (hst : LSt w0 w' P D g n (u + secs b.length) (l + 1) (putS S u (hdr (l + 1) b :: packed b))) : LHold w0 w' P D g n after (u + secs b.length) (l + 1) (bs ++ [b]) := by
  subst hu
  subst hl
  exact ⟨_, hst, h.put b hb hlow, by rw [usedS_snoc], by rw [List.length_append]; rfl⟩
theorem secs_one : secs 1 = 2 := rfl
def ones (l : List UInt8) : List (List UInt8) := l.map fun x => [x]
theorem ones_used (l : List UInt8) : usedS (ones l) = 2 * l.length := by
  unfold usedS ones
  rw [List.map_map]
  induction l with
  | nil => rfl
  | cons x l ih =>
    rw [List.map_cons, List.sum_cons, ih, List.length_cons]
    show secs 1 + _ = _
    rw [secs_one]
    omega

theorem crash_none (D g : Nat) (S : List Sec) (p : Option Addr) (c : Nat) (ks : List Int) (hkl : ks.length ≤ 1000000) (lc : Int) (w : World) (H : DiskAt w D g S (.slice none 0 0) [] lc) (hDg : D ≠ g) (hks : IntsAt w p ks) :
    Calls Try.prog 21 #[.pointer (some ⟨D, 0, none⟩), .slice p ks.length c] w fun e w' => e = .returned (.int .i64 0) ∧ DiskAt w' D g S (.slice none 0 0) [] (-1) ∧ Chg (fun k => k = D ∨ k = g) w w' :=
  crash_any D g S (.slice none 0 0) [] (by simp) p c ks hkl lc w H hDg hks

set_option maxRecDepth 20000 in
set_option maxHeartbeats 8000000 in
theorem stale_walk (p0 : Option Addr) (c0 : Nat) (l0 : List UInt8) (p1 : Option Addr) (c1 : Nat) (l1 : List UInt8) (p2 : Option Addr) (c2 : Nat) (ks : List Int) (w : World) (h0 : InAt w p0 l0 ∧ l0.length ≤ c0 ∧ c0 ≤ 9223372036854775807) (h1 : InAt w p1 l1 ∧ l1.length ≤ c1 ∧ c1 ≤ 9223372036854775807) (h2 : IntsAt w p2 ks) :
    Calls Try.prog 6 #[.slice p0 l0.length c0, .slice p1 l1.length c1, .slice p2 ks.length c2] w fun e w' => e = .returned (.bool true) ∧ Below w.heap.size w w' := by
  have H0 := Lib.hid h0.1
  have H1 := Lib.hid h1.1
  have H2 := Lib.hid h2
  obtain ⟨N0, hN0⟩ : ∃ N, N = l0.length := ⟨_, rfl⟩
  obtain ⟨N1, hN1⟩ : ∃ N, N = l1.length := ⟨_, rfl⟩
  obtain ⟨N2, hN2⟩ : ∃ N, N = ks.length := ⟨_, rfl⟩
  have HN0 := Lib.hid hN0
  have HN1 := Lib.hid hN1
  have HN2 := Lib.hid hN2
  rw [← hN0, ← hN1, ← hN2]
  clear h0 h1 h2 hN0 hN1 hN2
  by_cases hbig : 10 < N0 ∨ 10 < N1 ∨ 40 < N2
  · by_cases hb0 : 10 < N0
    · have e0 : decide ((10 : Int) < (N0 : Int)) = true := decide_eq_true (by omega)
      have e0' : decide (10 < N0) = true := decide_eq_true hb0
      go_enter Try.func6, Try.ntmps6
      go_wp2_with fail
      refine (awake_true w).mono ?_
      rintro e w1 ⟨rfl, hb1⟩
      have HB1 := Lib.hid hb1
      clear hb1
      go_wp2_with fail
      refine (awake_true w1).mono ?_
      rintro e w2 ⟨rfl, hb2⟩
      have HB2 := Lib.hid hb2
      clear hb2
      go_wp2
      go_ret
      exact ⟨rfl, bT HB1.out HB2.out⟩
    have e0 : decide ((10 : Int) < (N0 : Int)) = false := decide_eq_false (by omega)
    have e0' : decide (10 < N0) = false := decide_eq_false hb0
    by_cases hb1 : 10 < N1
    · have e1 : decide ((10 : Int) < (N1 : Int)) = true := decide_eq_true (by omega)
      have e1' : decide (10 < N1) = true := decide_eq_true hb1
      go_enter Try.func6, Try.ntmps6
      go_wp2_with fail
      refine (awake_true w).mono ?_
      rintro e w1 ⟨rfl, hb1⟩
      have HB1 := Lib.hid hb1
      clear hb1
      go_wp2_with fail
      refine (awake_true w1).mono ?_
      rintro e w2 ⟨rfl, hb2⟩
      have HB2 := Lib.hid hb2
      clear hb2
      go_wp2
      go_ret
      exact ⟨rfl, bT HB1.out HB2.out⟩
    have e1 : decide ((10 : Int) < (N1 : Int)) = false := decide_eq_false (by omega)
    have e1' : decide (10 < N1) = false := decide_eq_false hb1
    · have hb2 : 40 < N2 := by omega
      have e2 : decide ((40 : Int) < (N2 : Int)) = true := decide_eq_true (by omega)
      have e2' : decide (40 < N2) = true := decide_eq_true hb2
      go_enter Try.func6, Try.ntmps6
      go_wp2_with fail
      refine (awake_true w).mono ?_
      rintro e w1 ⟨rfl, hb1⟩
      have HB1 := Lib.hid hb1
      clear hb1
      go_wp2_with fail
      refine (awake_true w1).mono ?_
      rintro e w2 ⟨rfl, hb2⟩
      have HB2 := Lib.hid hb2
      clear hb2
      go_wp2
      go_ret
      exact ⟨rfl, bT HB1.out HB2.out⟩
  have e0 : decide ((10 : Int) < (N0 : Int)) = false := decide_eq_false (by omega)
  have e0' : decide (10 < N0) = false := decide_eq_false (by omega)
  have e1 : decide ((10 : Int) < (N1 : Int)) = false := decide_eq_false (by omega)
  have e1' : decide (10 < N1) = false := decide_eq_false (by omega)
  have e2 : decide ((40 : Int) < (N2 : Int)) = false := decide_eq_false (by omega)
  have e2' : decide (40 < N2) = false := decide_eq_false (by omega)
  have b0 : N0 ≤ 10 := by omega
  have b1 : N1 ≤ 10 := by omega
  have b2 : N2 ≤ 40 := by omega
  clear hbig
  go_enter Try.func6, Try.ntmps6
  go_wp2_with fail
  refine (awake_true w).mono ?_
  rintro e w1 ⟨rfl, hb1⟩
  have HB1 := Lib.hid hb1
  clear hb1
  go_wp2_with fail
  refine (new_any 40 (by decide) (by decide) w1).mono ?_
  rintro e w2 ⟨rfl, hd2, hb2⟩
  have hzl : (zeroS 40).length = 40 := zero_cells
  have hb2w : Below w.heap.size w w2 := bT HB1.out hb2
  have hws := HB1.out.size
  obtain ⟨D, hD⟩ : ∃ D, w1.heap.size + 1 = D := ⟨_, rfl⟩
  obtain ⟨g, hg⟩ : ∃ g, w1.heap.size = g := ⟨_, rfl⟩
  rw [hD, hg] at hd2
  rw [hD]
  have hDg : D ≠ g := by omega
  have hbase : w.heap.size ≤ D ∧ w.heap.size ≤ g := by omega
  have hl2 : D < w2.heap.size ∧ g < w2.heap.size := ⟨(Array.getElem?_eq_some_iff.1 hd2.box).1, (Array.getElem?_eq_some_iff.1 hd2.dur).1⟩
  have hop := open_any D g (zeroS 40) (.slice none 0 0) [] (-1) (by decide) (by decide) (by simp) 0 40 0 (by decide) (by rw [hzl]; decide) (by decide) (fun x hx => by simp at hx) (by decide) w2 hd2 hDg
  rw [partS_all _ _ hzl] at hop
  have HB2 := Lib.hid hb2w
  clear hb2 hb2w hd2 hD hg
  go_wp2_with fail
  refine hop.mono ?_
  clear hop
  rintro e w3 ⟨P, v, E, rfl, hP, hO, hd3, hc3⟩
  have hE : E = [] := by
    have := hO.bodies
    rw [show scan (40 + 1) (zeroS 40) 0 = [] from (Holds.zero 40 0 (by decide)).scan] at this
    simpa using this
  subst hE
  have hst : LSt w w3 P D g 40 0 0 (zeroS 40) := LSt.opened HB2.out hbase hDg hzl hl2 hP hO hd3 hc3
  have HLH := Lib.hid (show LHold w w3 P D g 40 0 0 0 [] from ⟨_, hst, Holds.zero 40 0 (by decide), rfl, rfl⟩)
  clear hst hO hd3 hc3 hzl
  have hPb : w.heap.size ≤ P := by have := HB2.out.size; omega
  go_wp2
  go_loopw [12] (fun s12 wr => ∃ i u l : Nat, i ≤ N0 ∧ s12 = .int .i64 i ∧ Hid (l ≤ i) ∧ Hid (∃ bs, LHold w wr P D g 40 0 u l bs)) (fun s12 _ => N0 - (intOf s12).toNat)
  case atStart => exact ⟨0, 0, 0, Nat.zero_le _, rfl, Lib.hid (by omega), Lib.hid ⟨_, HLH.out⟩⟩
  case round =>
    obtain ⟨i, u, l, hi, rfl, HL, HS⟩ := hrel
    clear HLH
    obtain ⟨bs, S, hst, hho, hub, hlb⟩ := HS.out
    have hll := HL.out
    by_cases hlt : i < N0
    · have e1 : decide ((i : Int) < (N0 : Int)) = true := decide_eq_true (by omega)
      have e1' : decide (i < N0) = true := decide_eq_true hlt
      have hil : i < l0.length := by have := HN0.out; omega
      obtain ⟨b, o, rfl, hr0⟩ := H0.out (by omega)
      obtain ⟨x, hxv⟩ : ∃ x, l0[i] = x := ⟨_, rfl⟩
      have hxc := hr0 i (.int .u8 ((x.toNat : Nat) : Int)) (by rw [← hxv]; simp [bCells, List.getElem?_eq_getElem hil])
      have hbw : b < w.heap.size := World.block_lt_of_cell? w _ hxc
      have hcx : ∀ X, Below w.heap.size w X → X.cell? ⟨b, o + i, none⟩ = some (.int .u8 ((x.toNat : Nat) : Int)) := fun X hX => (hX.cell (p := ⟨b, o + i, none⟩) hbw).trans hxc
      have hx256 := x.toNat_lt
      obtain ⟨m, hm⟩ : ∃ m, m = x.toNat := ⟨_, rfl⟩
      rw [← hm] at hcx hx256
      have j0 : (0 : Int) ≤ (i : Int) := by omega
      have j1 : (i : Int) < (N0 : Int) := by omega
      have hmw : IntKind.i64.wrap (m : Int) = (m : Int) := by rw [IntKind.wrap_i64]; omega
      have hlw : IntKind.i64.wrap ((l : Int) + 1) = (l : Int) + 1 := by rw [IntKind.wrap_i64]; omega
      have hrep : (List.replicate m (Value.int .u8 0)).toArray = Array.replicate m (Value.int .u8 0) := by simp
      have hmk := fun W => make_u8 W m (by omega)
      rw [hrep] at hmk
      obtain ⟨W1, hW1⟩ : ∃ W1, (wr.alloc (.cells (Array.replicate m (Value.int .u8 0)) 5)).drew = W1 := ⟨_, rfl⟩
      have hb1 : Below wr.heap.size wr W1 := by rw [← hW1]; exact bD (bA (Below.refl _ _) _)
      have hz1 : InAt W1 (some ⟨wr.heap.size, 0, none⟩) (List.replicate m 0) := by rw [← hW1]; exact zero_in (by rw [hrep]; exact heap_new wr _)
      have hDl : D < wr.heap.size ∧ g < wr.heap.size := ⟨(Array.getElem?_eq_some_iff.1 hst.disk.box).1, (Array.getElem?_eq_some_iff.1 hst.disk.dur).1⟩
      have happ := (hst.on hb1).append (by omega) (some ⟨wr.heap.size, 0, none⟩) m (List.replicate m 0) (by rw [List.length_replicate]; omega) (by rw [List.length_replicate]; exact Nat.le_refl _) (by omega) hz1 (fun b o e => by cases e; omega)
      have happ2 : Calls Try.prog 18 #[.pointer (some ⟨P, 0, none⟩), .int .i64 ((l : Int) + 1), .slice (some ⟨wr.heap.size, 0, none⟩) m m] W1 fun e w' => ∃ ee u' l', e = .returned ee ∧ l' ≤ i + 1 ∧ Below w.heap.size w w' ∧ ∃ bs, LHold w w' P D g 40 0 u' l' bs := by
        rw [List.length_replicate] at happ
        refine happ.mono ?_
        rintro e w' (⟨hf, rfl, h⟩ | ⟨hf, rfl, h⟩)
        · have hr : (List.replicate m (0 : UInt8)).length = m := List.length_replicate
          exact ⟨_, u + secs m, l + 1, rfl, by omega, h.below, _, by
            have := LHold.put (b := List.replicate m 0) hho hub hlb (by rw [hr]; omega) (by omega) (by rw [hr]; exact h)
            rwa [hr] at this⟩
        · exact ⟨_, u, l, rfl, by omega, h.below, bs, S, h, hho, hub, hlb⟩
      have HAPP := Lib.hid happ2
      have HW1 := Lib.hid hW1
      have HCX := Lib.hid hcx
      have hbl0 : Below w.heap.size w wr.drew := (Chg.drew (fun _ => False) wr).on hst.below hst.below.size (fun _ e => e.elim)
      have HLA := Lib.hid (fun W (h : Below wr.heap.size wr W) => last_any P D 0 40 u l false W (hst.on h).log)
      have hbl1 : Below w.heap.size w W1 := (hst.on hb1).below
      clear happ happ2 hz1 hW1 hcx hxc hxv hm hr0 hst hho hub hlb hrep
      go_wp2
      refine wp_region_noPanic ?_
      refine wp_region_held_drew (S := fun X => X.cell? ⟨b, o + i, none⟩ = some (.int .u8 (m : Int))) (by kernel_rfl) (HCX.out _ hbl0) (fun hHeld => ?_)
      refine wpAnyH_take (i := 0) (v := ?_) rfl (by kernel_rfl) (by kernel_rfl) (by kernel_rfl) (fun _ _ _ h => h) (Or.inl ⟨by rfl, ?_⟩) (by assumption) ?_
      rotate_left
      · (intro w hSw; (try dsimp only at hSw); go_simp; try (with_reducible rfl))
      try simp only [Act.put, List.setIfInBounds_toArray, List.set_cons_zero, List.set_cons_succ, List.getElem_toArray, List.getElem_cons_zero]
      refine wpAnyH_take (i := 1) (v := ?_) rfl (by kernel_rfl) (by kernel_rfl) (by kernel_rfl) (fun _ _ _ h => h) (Or.inl ⟨by rfl, ?_⟩) (by assumption) ?_
      rotate_left
      · (intro w hSw; (try dsimp only at hSw); go_simp; try (with_reducible rfl))
      try simp only [Act.put, List.setIfInBounds_toArray, List.set_cons_zero, List.set_cons_succ, List.getElem_toArray, List.getElem_cons_zero, List.getElem_cons_succ]
      refine wpAnyH_take (i := 4) (v := ?_) rfl (by kernel_rfl) (by kernel_rfl) (by kernel_rfl) (fun _ _ _ h => h) (Or.inl ⟨by rfl, ?_⟩) (by assumption) ?_
      rotate_left
      · (intro w hSw; (try dsimp only at hSw); go_simp; try (with_reducible rfl))
      try simp only [Act.put, List.setIfInBounds_toArray, List.set_cons_zero, List.set_cons_succ, List.getElem_toArray, List.getElem_cons_zero, List.getElem_cons_succ]
      refine wpAnyH_take (i := 5) (v := ?_) rfl (by kernel_rfl) (by kernel_rfl) (by kernel_rfl) (fun _ _ _ h => h) (Or.inl ⟨by rfl, ?_⟩) (by assumption) ?_
      rotate_left
      · (intro w hSw; (try dsimp only at hSw); go_simp; try (with_reducible rfl))
      try simp only [Act.put, List.setIfInBounds_toArray, List.set_cons_zero, List.set_cons_succ, List.getElem_toArray, List.getElem_cons_zero, List.getElem_cons_succ]
      refine wpAnyH_take (i := 6) (v := ?_) rfl (by kernel_rfl) (by kernel_rfl) (by kernel_rfl) (fun _ _ _ h => h) (Or.inl ⟨by rfl, ?_⟩) (by assumption) ?_
      rotate_left
      · (intro w hSw; (try dsimp only at hSw); go_simp; try (with_reducible rfl))
      try simp only [Act.put, List.setIfInBounds_toArray, List.set_cons_zero, List.set_cons_succ, List.getElem_toArray, List.getElem_cons_zero, List.getElem_cons_succ]
      refine wpAnyH_take (i := 7) (v := ?_) rfl (by kernel_rfl) (by kernel_rfl) (by kernel_rfl) (fun _ _ _ h => h) (Or.inl ⟨by rfl, ?_⟩) (by assumption) ?_
      rotate_left
      · (intro w hSw; (try dsimp only at hSw); go_simp; try (with_reducible rfl))
      try simp only [Act.put, List.setIfInBounds_toArray, List.set_cons_zero, List.set_cons_succ, List.getElem_toArray, List.getElem_cons_zero, List.getElem_cons_succ]
      refine wpAnyH_take (i := 8) (v := ?_) rfl (by kernel_rfl) (by kernel_rfl) (by kernel_rfl) (fun _ _ _ h => h) (Or.inl ⟨by rfl, ?_⟩) (by assumption) ?_
      rotate_left
      · (intro w hSw; (try dsimp only at hSw); go_simp; try (with_reducible rfl))
      try simp only [Act.put, List.setIfInBounds_toArray, List.set_cons_zero, List.set_cons_succ, List.getElem_toArray, List.getElem_cons_zero, List.getElem_cons_succ]
      refine wpAnyH_ready (rs := [2, 9]) (by kernel_rfl) (by simp) ?_
      refine AllReadyH.cons rfl (fun K' hK => ?_) (AllReadyH.cons rfl (fun K' hK => ?_) AllReadyH.nil)
      · go_simp
        go_at_call 16
        refine (HLA.out _ (bD (Below.refl _ _))).mono ?_
        rintro e5 w5' ⟨rfl, rfl⟩
        refine hK.out _ _ (HCX.out _ hbl0) (fun hHeld2 => ?_)
        clear hK K' hHeld
        have hHeld := hHeld2
        clear hHeld2
        try simp only [Act.put, List.setIfInBounds_toArray, List.set_cons_zero, List.set_cons_succ, List.getElem_toArray, List.getElem_cons_zero, List.getElem_cons_succ]
        refine wpAnyH_take (i := 3) (v := ?_) rfl (by kernel_rfl) (by kernel_rfl) (by kernel_rfl) (fun _ _ _ h => h) (Or.inl ⟨by rfl, ?_⟩) (by assumption) ?_
        rotate_left
        · (intro w hSw; (try dsimp only at hSw); go_simp; try (with_reducible rfl))
        try simp only [Act.put, List.setIfInBounds_toArray, List.set_cons_zero, List.set_cons_succ, List.getElem_toArray, List.getElem_cons_zero, List.getElem_cons_succ]
        refine wpAnyH_ready (rs := [9]) (by kernel_rfl) (by simp) ?_
        refine AllReadyH.cons rfl (fun K' hK => ?_) AllReadyH.nil
        go_simp
        refine hK.out _ _ (by rw [HW1.out]; exact HCX.out _ hbl1) (fun hHeld2 => ?_)
        clear hK K' hHeld
        have hHeld := hHeld2
        clear hHeld2
        try simp only [Act.put, List.setIfInBounds_toArray, List.set_cons_zero, List.set_cons_succ, List.getElem_toArray, List.getElem_cons_zero, List.getElem_cons_succ]
        simp only [HW1.out]
        refine wpAnyH_ready (rs := [10]) (by kernel_rfl) (by simp) ?_
        refine AllReadyH.cons rfl (fun K' hK => ?_) AllReadyH.nil
        go_simp
        go_at_call 18
        refine HAPP.out.mono ?_
        rintro e6 w6 ⟨ee, u', l', rfl, hl', hbb, hal⟩
        refine hK.out _ _ (HCX.out _ hbb) (fun hHeld2 => ?_)
        clear hK K' hHeld
        have hHeld := hHeld2
        clear hHeld2
        try simp only [Act.put, List.setIfInBounds_toArray, List.set_cons_zero, List.set_cons_succ, List.getElem_toArray, List.getElem_cons_zero, List.getElem_cons_succ]
        refine wpAnyH_done (by kernel_rfl) ?_ _
        refine NoPanic.normal ?_
        clear hHeld
        have HAL := Lib.hid hal
        clear hal
        go_wp2
        go_roundw
        case rel => exact ⟨i + 1, u', l', by omega, by go_num, Lib.hid hl', HAL⟩
        case measure => simp [intOf]; omega
      · go_simp
        refine hK.out _ _ (by rw [HW1.out]; exact HCX.out _ hbl1) (fun hHeld2 => ?_)
        clear hK K' hHeld
        have hHeld := hHeld2
        clear hHeld2
        try simp only [Act.put, List.setIfInBounds_toArray, List.set_cons_zero, List.set_cons_succ, List.getElem_toArray, List.getElem_cons_zero, List.getElem_cons_succ]
        simp only [HW1.out]
        refine wpAnyH_ready (rs := [2]) (by kernel_rfl) (by simp) ?_
        refine AllReadyH.cons rfl (fun K' hK => ?_) AllReadyH.nil
        go_simp
        go_at_call 16
        refine (HLA.out _ (hb1)).mono ?_
        rintro e5 w5' ⟨rfl, rfl⟩
        refine hK.out _ _ (HCX.out _ hbl1) (fun hHeld2 => ?_)
        clear hK K' hHeld
        have hHeld := hHeld2
        clear hHeld2
        try simp only [Act.put, List.setIfInBounds_toArray, List.set_cons_zero, List.set_cons_succ, List.getElem_toArray, List.getElem_cons_zero, List.getElem_cons_succ]
        refine wpAnyH_take (i := 3) (v := ?_) rfl (by kernel_rfl) (by kernel_rfl) (by kernel_rfl) (fun _ _ _ h => h) (Or.inl ⟨by rfl, ?_⟩) (by assumption) ?_
        rotate_left
        · (intro w hSw; (try dsimp only at hSw); go_simp; try (with_reducible rfl))
        try simp only [Act.put, List.setIfInBounds_toArray, List.set_cons_zero, List.set_cons_succ, List.getElem_toArray, List.getElem_cons_zero, List.getElem_cons_succ]
        refine wpAnyH_ready (rs := [10]) (by kernel_rfl) (by simp) ?_
        refine AllReadyH.cons rfl (fun K' hK => ?_) AllReadyH.nil
        go_simp
        go_at_call 18
        refine HAPP.out.mono ?_
        rintro e6 w6 ⟨ee, u', l', rfl, hl', hbb, hal⟩
        refine hK.out _ _ (HCX.out _ hbb) (fun hHeld2 => ?_)
        clear hK K' hHeld
        have hHeld := hHeld2
        clear hHeld2
        try simp only [Act.put, List.setIfInBounds_toArray, List.set_cons_zero, List.set_cons_succ, List.getElem_toArray, List.getElem_cons_zero, List.getElem_cons_succ]
        refine wpAnyH_done (by kernel_rfl) ?_ _
        refine NoPanic.normal ?_
        clear hHeld
        have HAL := Lib.hid hal
        clear hal
        go_wp2
        go_roundw
        case rel => exact ⟨i + 1, u', l', by omega, by go_num, Lib.hid hl', HAL⟩
        case measure => simp [intOf]; omega
    · have e1 : decide ((i : Int) < (N0 : Int)) = false := decide_eq_false (by omega)
      have e1' : decide (i < N0) = false := decide_eq_false hlt
      have hlast := last_any P D 0 40 u l false wr hst.log
      have hres := reset_on P D 0 40 u l l (Nat.le_refl _) (by omega) wr hst.log
      have HST := Lib.hid hst
      have HHO := Lib.hid (hho.reset l (by omega) (by omega))
      clear hst hho hub hlb HS
      go_wp2_with fail
      refine hlast.mono ?_
      rintro e w4 ⟨rfl, rfl⟩
      go_wp2_with fail
      refine hres.mono ?_
      rintro e w5 ⟨rfl, hl5, hc5⟩
      have hap := HST.out.apart
      have hst5 : LSt w w5 P D g 40 0 l S := ⟨hl5, HST.out.disk.chg hc5 (fun e => hap.2.1 e.symm) (fun e => hap.2.2 e.symm) (fun k hk => by cases hk), HST.out.len, by omega, hap, HST.out.base, hc5.on HST.out.below HST.out.below.size (fun k e => by rw [e]; exact hPb)⟩
      have HLH := Lib.hid (show LHold w w5 P D g 40 l 0 l (ones (l1.take 0)) from ⟨S, hst5, HHO.out, rfl, rfl⟩)
      clear hst5 hl5 hc5 hlast hres HST HHO
      have hlb : l ≤ 10 := by omega
      go_wp2
      go_loopw [14, 15] (fun s14 s15 wr => ∃ i : Nat, i ≤ N1 ∧ s14 = .int .i64 i ∧ s15 = .int .i64 i ∧ Hid (LHold w wr P D g 40 l (2 * i) (l + i) (ones (l1.take i)))) (fun _ s15 _ => N1 - (intOf s15).toNat)
      case atStart => exact ⟨0, Nat.zero_le _, rfl, rfl, HLH⟩
      case round =>
        clear HLH HL
        obtain ⟨i2, hi2, rfl, rfl, HS⟩ := hrel
        obtain ⟨S2, hst, hho, hub, hlb2⟩ := HS.out
        by_cases hlt2 : i2 < N1
        · have e3 : decide ((i2 : Int) < (N1 : Int)) = true := decide_eq_true (by omega)
          have e3' : decide (i2 < N1) = true := decide_eq_true hlt2
          have hil : i2 < l1.length := by have := HN1.out; omega
          obtain ⟨b, o, rfl, hr0⟩ := H1.out (by omega)
          obtain ⟨x, hxv⟩ : ∃ x, l1[i2] = x := ⟨_, rfl⟩
          have hxc := hr0 i2 (.int .u8 ((x.toNat : Nat) : Int)) (by rw [← hxv]; simp [bCells, List.getElem?_eq_getElem hil])
          have hbw : b < w.heap.size := World.block_lt_of_cell? w _ hxc
          have hcx : ∀ X, Below w.heap.size w X → X.cell? ⟨b, o + i2, none⟩ = some (.int .u8 ((x.toNat : Nat) : Int)) := fun X hX => (hX.cell (p := ⟨b, o + i2, none⟩) hbw).trans hxc
          have j0 : (0 : Int) ≤ (i2 : Int) := by omega
          have j1 : (i2 : Int) < (N1 : Int) := by omega
          have hlw : IntKind.i64.wrap (((l + i2 : Nat) : Int) + 1) = ((l + i2 : Nat) : Int) + 1 := by rw [IntKind.wrap_i64]; omega
          obtain ⟨W1, hW1⟩ : ∃ W1, (wr.alloc (.cells #[.int .u8 ((x.toNat : Nat) : Int)] 5)).drew = W1 := ⟨_, rfl⟩
          have hb1 : Below wr.heap.size wr W1 := by rw [← hW1]; exact bD (bA (Below.refl _ _) _)
          have hz1 : InAt W1 (some ⟨wr.heap.size, 0, none⟩) [x] := by rw [← hW1]; exact fun _ => ⟨_, 0, rfl, in_block (l := [x]) (heap_new wr _)⟩
          have hDl : D < wr.heap.size ∧ g < wr.heap.size := ⟨(Array.getElem?_eq_some_iff.1 hst.disk.box).1, (Array.getElem?_eq_some_iff.1 hst.disk.dur).1⟩
          have happ := (hst.on hb1).append (by omega) (some ⟨wr.heap.size, 0, none⟩) 1 [x] (by simp) (by simp) (by omega) hz1 (fun b o e => by cases e; omega)
          have happ2 : Calls Try.prog 18 #[.pointer (some ⟨P, 0, none⟩), .int .i64 (((l + i2 : Nat) : Int) + 1), .slice (some ⟨wr.heap.size, 0, none⟩) 1 1] W1 fun e w' => e = .returned (.int .i64 0) ∧ Below w.heap.size w w' ∧ LHold w w' P D g 40 l (2 * (i2 + 1)) (l + (i2 + 1)) (ones (l1.take (i2 + 1))) := by
            have hs2 : secs [x].length = 2 := by rw [List.length_singleton]; rfl
            refine happ.mono ?_
            rintro e w' (⟨hf, rfl, h⟩ | ⟨hf, rfl, h⟩)
            · refine ⟨rfl, h.below, ?_⟩
              have h3 := LHold.put (b := [x]) hho hub hlb2 (by simp) (by omega) h
              have e : ones (l1.take (i2 + 1)) = ones (l1.take i2) ++ [[x]] := by rw [List.take_succ_eq_append_getElem hil, hxv]; simp [ones]
              rw [e]
              rw [hs2] at h3
              exact h3
            · rw [hs2] at hf
              omega
          have HAPP := Lib.hid happ2
          have HW1 := Lib.hid hW1
          have HCX := Lib.hid hcx
          have hbl0 : Below w.heap.size w wr.drew := (Chg.drew (fun _ => False) wr).on hst.below hst.below.size (fun _ e => e.elim)
          have HLA := Lib.hid (fun W (h : Below wr.heap.size wr W) => last_any P D 0 40 (2 * i2) (l + i2) false W (hst.on h).log)
          have hbl1 : Below w.heap.size w W1 := (hst.on hb1).below
          clear happ happ2 hz1 hW1 hcx hxc hxv hr0 hst hho hub hlb2
          generalize x.toNat = m at *
          obtain ⟨li, hli⟩ : ∃ li, li = l + i2 := ⟨_, rfl⟩
          rw [← hli] at HAPP HLA hlw
          clear hli
          go_wp2
          refine wp_region_noPanic ?_
          refine wp_region_held_drew (S := fun X => X.cell? ⟨b, o + i2, none⟩ = some (.int .u8 (m : Int))) (by kernel_rfl) (HCX.out _ hbl0) (fun hHeld => ?_)
          refine wpAnyH_take (i := 0) (v := ?_) rfl (by kernel_rfl) (by kernel_rfl) (by kernel_rfl) (fun _ _ _ h => h) (Or.inl ⟨by rfl, ?_⟩) (by assumption) ?_
          rotate_left
          · (intro w hSw; (try dsimp only at hSw); go_simp; try (with_reducible rfl))
          try simp only [Act.put, List.setIfInBounds_toArray, List.set_cons_zero, List.set_cons_succ, List.getElem_toArray, List.getElem_cons_zero]
          refine wpAnyH_take (i := 1) (v := ?_) rfl (by kernel_rfl) (by kernel_rfl) (by kernel_rfl) (fun _ _ _ h => h) (Or.inl ⟨by rfl, ?_⟩) (by assumption) ?_
          rotate_left
          · (intro w hSw; (try dsimp only at hSw); go_simp; try (with_reducible rfl))
          try simp only [Act.put, List.setIfInBounds_toArray, List.set_cons_zero, List.set_cons_succ, List.getElem_toArray, List.getElem_cons_zero, List.getElem_cons_succ]
          refine wpAnyH_take (i := 4) (v := ?_) rfl (by kernel_rfl) (by kernel_rfl) (by kernel_rfl) (fun _ _ _ h => h) (Or.inl ⟨by rfl, ?_⟩) (by assumption) ?_
          rotate_left
          · (intro w hSw; (try dsimp only at hSw); go_simp; try (with_reducible rfl))
          try simp only [Act.put, List.setIfInBounds_toArray, List.set_cons_zero, List.set_cons_succ, List.getElem_toArray, List.getElem_cons_zero, List.getElem_cons_succ]
          refine wpAnyH_take (i := 5) (v := ?_) rfl (by kernel_rfl) (by kernel_rfl) (by kernel_rfl) (fun _ _ _ h => h) (Or.inl ⟨by rfl, ?_⟩) (by assumption) ?_
          rotate_left
          · (intro w hSw; (try dsimp only at hSw); go_simp; try (with_reducible rfl))
          try simp only [Act.put, List.setIfInBounds_toArray, List.set_cons_zero, List.set_cons_succ, List.getElem_toArray, List.getElem_cons_zero, List.getElem_cons_succ]
          refine wpAnyH_take (i := 6) (v := ?_) rfl (by kernel_rfl) (by kernel_rfl) (by kernel_rfl) (fun _ _ _ h => h) (Or.inl ⟨by rfl, ?_⟩) (by assumption) ?_
          rotate_left
          · (intro w hSw; (try dsimp only at hSw); go_simp; try (with_reducible rfl))
          try simp only [Act.put, List.setIfInBounds_toArray, List.set_cons_zero, List.set_cons_succ, List.getElem_toArray, List.getElem_cons_zero, List.getElem_cons_succ]
          refine wpAnyH_take (i := 7) (v := ?_) rfl (by kernel_rfl) (by kernel_rfl) (by kernel_rfl) (fun _ _ _ h => h) (Or.inl ⟨by rfl, ?_⟩) (by assumption) ?_
          rotate_left
          · (intro w hSw; (try dsimp only at hSw); go_simp; try (with_reducible rfl))
          try simp only [Act.put, List.setIfInBounds_toArray, List.set_cons_zero, List.set_cons_succ, List.getElem_toArray, List.getElem_cons_zero, List.getElem_cons_succ]
          refine wpAnyH_ready (rs := [2, 8]) (by kernel_rfl) (by simp) ?_
          refine AllReadyH.cons rfl (fun K' hK => ?_) (AllReadyH.cons rfl (fun K' hK => ?_) AllReadyH.nil)
          · go_simp
            go_at_call 16
            refine (HLA.out _ (bD (Below.refl _ _))).mono ?_
            rintro e5 w5' ⟨rfl, rfl⟩
            refine hK.out _ _ (HCX.out _ hbl0) (fun hHeld2 => ?_)
            clear hK K' hHeld
            have hHeld := hHeld2
            clear hHeld2
            try simp only [Act.put, List.setIfInBounds_toArray, List.set_cons_zero, List.set_cons_succ, List.getElem_toArray, List.getElem_cons_zero, List.getElem_cons_succ]
            refine wpAnyH_take (i := 3) (v := ?_) rfl (by kernel_rfl) (by kernel_rfl) (by kernel_rfl) (fun _ _ _ h => h) (Or.inl ⟨by rfl, ?_⟩) (by assumption) ?_
            rotate_left
            · (intro w hSw; (try dsimp only at hSw); go_simp; try (with_reducible rfl))
            try simp only [Act.put, List.setIfInBounds_toArray, List.set_cons_zero, List.set_cons_succ, List.getElem_toArray, List.getElem_cons_zero, List.getElem_cons_succ]
            refine wpAnyH_ready (rs := [8]) (by kernel_rfl) (by simp) ?_
            refine AllReadyH.cons rfl (fun K' hK => ?_) AllReadyH.nil
            go_simp
            refine hK.out _ _ (by rw [HW1.out]; exact HCX.out _ hbl1) (fun hHeld2 => ?_)
            clear hK K' hHeld
            have hHeld := hHeld2
            clear hHeld2
            try simp only [Act.put, List.setIfInBounds_toArray, List.set_cons_zero, List.set_cons_succ, List.getElem_toArray, List.getElem_cons_zero, List.getElem_cons_succ]
            simp only [HW1.out]
            refine wpAnyH_ready (rs := [9]) (by kernel_rfl) (by simp) ?_
            refine AllReadyH.cons rfl (fun K' hK => ?_) AllReadyH.nil
            go_simp
            go_at_call 18
            refine HAPP.out.mono ?_
            rintro e6 w6 ⟨rfl, hbb, hal⟩
            refine hK.out _ _ (HCX.out _ hbb) (fun hHeld2 => ?_)
            clear hK K' hHeld
            have hHeld := hHeld2
            clear hHeld2
            try simp only [Act.put, List.setIfInBounds_toArray, List.set_cons_zero, List.set_cons_succ, List.getElem_toArray, List.getElem_cons_zero, List.getElem_cons_succ]
            refine wpAnyH_take (i := 10) (v := ?_) rfl (by kernel_rfl) (by kernel_rfl) (by kernel_rfl) (fun _ _ _ h => h) (Or.inl ⟨by rfl, ?_⟩) (by assumption) ?_
            rotate_left
            · (intro w hSw; (try dsimp only at hSw); go_simp; try (with_reducible rfl))
            try simp only [Act.put, List.setIfInBounds_toArray, List.set_cons_zero, List.set_cons_succ, List.getElem_toArray, List.getElem_cons_zero, List.getElem_cons_succ]
            refine wpAnyH_done (by kernel_rfl) ?_ _
            refine NoPanic.normal ?_
            clear hHeld
            have HAL := Lib.hid hal
            clear hal
            go_wp2
            go_roundw
            case rel => exact ⟨i2 + 1, by omega, by go_num, by go_num, HAL⟩
            case measure => simp [intOf]; omega
          · go_simp
            refine hK.out _ _ (by rw [HW1.out]; exact HCX.out _ hbl1) (fun hHeld2 => ?_)
            clear hK K' hHeld
            have hHeld := hHeld2
            clear hHeld2
            try simp only [Act.put, List.setIfInBounds_toArray, List.set_cons_zero, List.set_cons_succ, List.getElem_toArray, List.getElem_cons_zero, List.getElem_cons_succ]
            simp only [HW1.out]
            refine wpAnyH_ready (rs := [2]) (by kernel_rfl) (by simp) ?_
            refine AllReadyH.cons rfl (fun K' hK => ?_) AllReadyH.nil
            go_simp
            go_at_call 16
            refine (HLA.out _ (hb1)).mono ?_
            rintro e5 w5' ⟨rfl, rfl⟩
            refine hK.out _ _ (HCX.out _ hbl1) (fun hHeld2 => ?_)
            clear hK K' hHeld
            have hHeld := hHeld2
            clear hHeld2
            try simp only [Act.put, List.setIfInBounds_toArray, List.set_cons_zero, List.set_cons_succ, List.getElem_toArray, List.getElem_cons_zero, List.getElem_cons_succ]
            refine wpAnyH_take (i := 3) (v := ?_) rfl (by kernel_rfl) (by kernel_rfl) (by kernel_rfl) (fun _ _ _ h => h) (Or.inl ⟨by rfl, ?_⟩) (by assumption) ?_
            rotate_left
            · (intro w hSw; (try dsimp only at hSw); go_simp; try (with_reducible rfl))
            try simp only [Act.put, List.setIfInBounds_toArray, List.set_cons_zero, List.set_cons_succ, List.getElem_toArray, List.getElem_cons_zero, List.getElem_cons_succ]
            refine wpAnyH_ready (rs := [9]) (by kernel_rfl) (by simp) ?_
            refine AllReadyH.cons rfl (fun K' hK => ?_) AllReadyH.nil
            go_simp
            go_at_call 18
            refine HAPP.out.mono ?_
            rintro e6 w6 ⟨rfl, hbb, hal⟩
            refine hK.out _ _ (HCX.out _ hbb) (fun hHeld2 => ?_)
            clear hK K' hHeld
            have hHeld := hHeld2
            clear hHeld2
            try simp only [Act.put, List.setIfInBounds_toArray, List.set_cons_zero, List.set_cons_succ, List.getElem_toArray, List.getElem_cons_zero, List.getElem_cons_succ]
            refine wpAnyH_take (i := 10) (v := ?_) rfl (by kernel_rfl) (by kernel_rfl) (by kernel_rfl) (fun _ _ _ h => h) (Or.inl ⟨by rfl, ?_⟩) (by assumption) ?_
            rotate_left
            · (intro w hSw; (try dsimp only at hSw); go_simp; try (with_reducible rfl))
            try simp only [Act.put, List.setIfInBounds_toArray, List.set_cons_zero, List.set_cons_succ, List.getElem_toArray, List.getElem_cons_zero, List.getElem_cons_succ]
            refine wpAnyH_done (by kernel_rfl) ?_ _
            refine NoPanic.normal ?_
            clear hHeld
            have HAL := Lib.hid hal
            clear hal
            go_wp2
            go_roundw
            case rel => exact ⟨i2 + 1, by omega, by go_num, by go_num, HAL⟩
            case measure => simp [intOf]; omega
        · have e3 : decide ((i2 : Int) < (N1 : Int)) = false := decide_eq_false (by omega)
          have e3' : decide (i2 < N1) = false := decide_eq_false hlt2
          obtain rfl : i2 = N1 := by omega
          have hcr := crash_none D g S2 p2 c2 ks (by have := HN2.out; omega) (-1) wr hst.disk hst.apart.1 (fun j hj => by
            obtain ⟨b, o, hp, hc⟩ := H2.out j hj
            exact ⟨b, o, hp, (hst.below.cell (p := ⟨b, o + j, none⟩) (World.block_lt_of_cell? w _ hc)).trans hc⟩)
          rw [← HN2.out] at hcr
          have hl1 : l1.take i2 = l1 := List.take_of_length_le (by have := HN1.out; omega)
          rw [hl1] at hho
          have HST := Lib.hid hst
          have HHO := Lib.hid hho
          clear hst hho hub hlb2 HS
          go_wp2_with fail
          refine hcr.mono ?_
          clear hcr
          rintro e w6 ⟨rfl, hd6, hc6⟩
          have hop := open_any D g S2 (.slice none 0 0) [] (-1) (by decide) (by decide) (by simp) 0 40 l (by decide) (by rw [HST.out.len]; decide) (by decide) (fun x hx => by simp at hx) (by omega) w6 hd6 hDg
          rw [partS_all _ _ HST.out.len] at hop
          have HB6 := Lib.hid (show Below w.heap.size w w6 from hc6.on HST.out.below HST.out.below.size (fun k hk => by omega))
          have HC6 := Lib.hid hc6
          clear hd6 hc6
          go_wp2_with fail
          refine hop.mono ?_
          clear hop
          rintro e w7 ⟨P7, v7, E7, rfl, hP7, hO7, hd7, hc7⟩
          have hB7 : Below w.heap.size w w7 := hc7.on HB6.out HB6.out.size (fun k hk => by omega)
          have hbo : E7.map (·.body) = ones l1 := by
            have h := HHO.out.scan
            rw [HST.out.len] at h
            rw [hO7.bodies, h]
          have hE7 : E7.length = i2 := by
            have h := congrArg List.length hbo
            have := HN1.out
            simp [ones] at h
            omega
          obtain ⟨p7, c7, rfl, hrow7⟩ := hO7.rowed
          rw [hE7]
          have HROW := Lib.hid hrow7
          have HST7 := Lib.hid hO7.st
          have HBO := Lib.hid hbo
          have HE7 := Lib.hid hE7
          have HB7 := Lib.hid hB7
          have d9 : decide ((i2 : Int) = (i2 : Int)) = true := decide_eq_true rfl
          clear hO7 hd7 hc7 hB7 hbo hE7 hrow7 HST HHO HC6 HB6
          go_wp2
          go_loopw [19] (fun s19 wr => ∃ i : Nat, i ≤ i2 ∧ s19 = .int .i64 i ∧ Hid (Below w7.heap.size w7 wr)) (fun s19 _ => i2 - (intOf s19).toNat)
          case atStart => exact ⟨0, Nat.zero_le _, rfl, Lib.hid (Below.refl _ _)⟩
          case round =>
            obtain ⟨i3, hi3, rfl, HB⟩ := hrel
            by_cases hlt3 : i3 < i2
            · have e4 : decide ((i3 : Int) < (i2 : Int)) = true := decide_eq_true (by omega)
              have e4' : decide (i3 < i2) = true := decide_eq_true hlt3
              have hiE : i3 < E7.length := by have := HE7.out; omega
              have hi1 : i3 < l1.length := by have := HN1.out; omega
              have hrw := HROW.out.on HB.out
              obtain ⟨b7, o7, hp7, hr7⟩ := hrw.1 (by omega)
              subst hp7
              have hst := HST7.out i3 hiE
              have hbd : (E7[i3]).body = [l1[i3]] := by
                have h := congrArg (fun l => l[i3]?) HBO.out
                simp only [ones, List.getElem?_map, List.getElem?_eq_getElem hiE, List.getElem?_eq_getElem hi1, Option.map_some, Option.some.injEq] at h
                exact h
              obtain ⟨b8, o8, hp8, hr8⟩ := (hrw.2 _ (List.getElem_mem hiE)) (by rw [hbd]; simp)
              have hr8b := hr8 0 (.int .u8 ((l1[i3].toNat : Nat) : Int)) (by rw [hbd]; rfl)
              obtain ⟨b1, o1, rfl, hr1⟩ := H1.out (by omega)
              have hc1 := hr1 i3 (.int .u8 ((l1[i3].toNat : Nat) : Int)) (by simp [bCells, List.getElem?_eq_getElem hi1])
              have hB := HB7.out.trans (HB.out.mono HB7.out.size)
              have q1 : wr.drew.cell? ⟨b7, o7 + i3 * 2, none⟩ = some (.int .i64 ((l : Int) + 1 + i3)) := by
                have h := hr7 (i3 * 2 + 0) _ (eCells_at E7 i3 hiE).1
                rw [hst] at h
                exact h
              have q2 : wr.drew.cell? ⟨b7, o7 + i3 * 2 + 1, none⟩ = some (.slice (some ⟨b8, o8, none⟩) 1 (E7[i3]).cp) := by
                have h := hr7 (i3 * 2 + 1) _ (eCells_at E7 i3 hiE).2
                rw [hp8, hbd] at h
                exact h
              have q3 : wr.drew.cell? ⟨b8, o8, none⟩ = some (.int .u8 ((l1[i3].toNat : Nat) : Int)) := hr8b
              have q4 : wr.drew.cell? ⟨b1, o1 + i3, none⟩ = some (.int .u8 ((l1[i3].toNat : Nat) : Int)) := (hB.cell (p := ⟨b1, o1 + i3, none⟩) (World.block_lt_of_cell? w _ hc1)).trans hc1
              generalize (E7[i3]).cp = cp at *
              generalize (l1[i3]).toNat = m at *
              have r0 : (0 : Int) ≤ (i3 : Int) := by omega
              have r1 : (i3 : Int) < (i2 : Int) := by omega
              have r2 : IntKind.i64.wrap ((l : Int) + 1) = (l : Int) + 1 := by rw [IntKind.wrap_i64]; omega
              have r3 : IntKind.i64.wrap ((l : Int) + 1 + i3) = (l : Int) + 1 + i3 := by rw [IntKind.wrap_i64]; omega
              clear hst hbd hp8 hr8 hr8b hr7 hr1 hc1 hB hrw
              go_wp2
              refine wp_region_noPanic ?_
              refine wp_region_held_drew (S := fun X => X.cell? ⟨b7, o7 + i3 * 2, none⟩ = some (.int .i64 ((l : Int) + 1 + i3)) ∧ X.cell? ⟨b7, o7 + i3 * 2 + 1, none⟩ = some (.slice (some ⟨b8, o8, none⟩) 1 cp) ∧ X.cell? ⟨b8, o8, none⟩ = some (.int .u8 (m : Int)) ∧ X.cell? ⟨b1, o1 + i3, none⟩ = some (.int .u8 (m : Int))) (by kernel_rfl) (⟨q1, q2, q3, q4⟩) (fun hHeld => ?_)
              refine wpAnyH_take (i := 0) (v := ?_) rfl (by kernel_rfl) (by kernel_rfl) (by kernel_rfl) (fun _ _ _ h => h) (Or.inl ⟨by rfl, ?_⟩) (by assumption) ?_
              rotate_left
              · (intro w hSw; (try dsimp only at hSw); go_simp; try (with_reducible rfl))
              try simp only [Act.put, List.setIfInBounds_toArray, List.set_cons_zero, List.set_cons_succ, List.getElem_toArray, List.getElem_cons_zero]
              refine wpAnyH_take (i := 1) (v := ?_) rfl (by kernel_rfl) (by kernel_rfl) (by kernel_rfl) (fun _ _ _ h => h) (Or.inl ⟨by rfl, ?_⟩) (by assumption) ?_
              rotate_left
              · (intro w hSw; (try dsimp only at hSw); go_simp; try (with_reducible rfl))
              try simp only [Act.put, List.setIfInBounds_toArray, List.set_cons_zero, List.set_cons_succ, List.getElem_toArray, List.getElem_cons_zero, List.getElem_cons_succ]
              refine wpAnyH_take (i := 2) (v := ?_) rfl (by kernel_rfl) (by kernel_rfl) (by kernel_rfl) (fun _ _ _ h => h) (Or.inl ⟨by rfl, ?_⟩) (by assumption) ?_
              rotate_left
              · (intro w hSw; (try dsimp only at hSw); go_simp; try (with_reducible rfl))
              try simp only [Act.put, List.setIfInBounds_toArray, List.set_cons_zero, List.set_cons_succ, List.getElem_toArray, List.getElem_cons_zero, List.getElem_cons_succ]
              refine wpAnyH_take (i := 3) (v := ?_) rfl (by kernel_rfl) (by kernel_rfl) (by kernel_rfl) (fun _ _ _ h => h) (Or.inl ⟨by rfl, ?_⟩) (by assumption) ?_
              rotate_left
              · (intro w hSw; (try dsimp only at hSw); go_simp; try (with_reducible rfl))
              try simp only [Act.put, List.setIfInBounds_toArray, List.set_cons_zero, List.set_cons_succ, List.getElem_toArray, List.getElem_cons_zero, List.getElem_cons_succ]
              refine wpAnyH_take (i := 4) (v := ?_) rfl (by kernel_rfl) (by kernel_rfl) (by kernel_rfl) (fun _ _ _ h => h) (Or.inl ⟨by rfl, ?_⟩) (by assumption) ?_
              rotate_left
              · (intro w hSw; (try dsimp only at hSw); go_simp; try (with_reducible rfl))
              try simp only [Act.put, List.setIfInBounds_toArray, List.set_cons_zero, List.set_cons_succ, List.getElem_toArray, List.getElem_cons_zero, List.getElem_cons_succ]
              refine wpAnyH_take (i := 5) (v := ?_) rfl (by kernel_rfl) (by kernel_rfl) (by kernel_rfl) (fun _ _ _ h => h) (Or.inl ⟨by rfl, ?_⟩) (by assumption) ?_
              rotate_left
              · (intro w hSw; (try dsimp only at hSw); go_simp; try (with_reducible rfl))
              try simp only [Act.put, List.setIfInBounds_toArray, List.set_cons_zero, List.set_cons_succ, List.getElem_toArray, List.getElem_cons_zero, List.getElem_cons_succ]
              refine wpAnyH_take (i := 6) (v := ?_) rfl (by kernel_rfl) (by kernel_rfl) (by kernel_rfl) (fun _ _ _ h => h) (Or.inl ⟨by rfl, ?_⟩) (by assumption) ?_
              rotate_left
              · (intro w hSw; (try dsimp only at hSw); go_simp; try (with_reducible rfl))
              try simp only [Act.put, List.setIfInBounds_toArray, List.set_cons_zero, List.set_cons_succ, List.getElem_toArray, List.getElem_cons_zero, List.getElem_cons_succ]
              refine wpAnyH_take (i := 7) (v := ?_) rfl (by kernel_rfl) (by kernel_rfl) (by kernel_rfl) (fun _ _ _ h => h) (Or.inl ⟨by rfl, ?_⟩) (by assumption) ?_
              rotate_left
              · (intro w hSw; (try dsimp only at hSw); go_simp; try (with_reducible rfl))
              try simp only [Act.put, List.setIfInBounds_toArray, List.set_cons_zero, List.set_cons_succ, List.getElem_toArray, List.getElem_cons_zero, List.getElem_cons_succ]
              refine wpAnyH_take (i := 8) (v := ?_) rfl (by kernel_rfl) (by kernel_rfl) (by kernel_rfl) (fun _ _ _ h => h) (Or.inl ⟨by rfl, ?_⟩) (by assumption) ?_
              rotate_left
              · (intro w hSw; (try dsimp only at hSw); go_simp; try (with_reducible rfl))
              try simp only [Act.put, List.setIfInBounds_toArray, List.set_cons_zero, List.set_cons_succ, List.getElem_toArray, List.getElem_cons_zero, List.getElem_cons_succ]
              refine wpAnyH_take (i := 9) (v := ?_) rfl (by kernel_rfl) (by kernel_rfl) (by kernel_rfl) (fun _ _ _ h => h) (Or.inl ⟨by rfl, ?_⟩) (by assumption) ?_
              rotate_left
              · (intro w hSw; (try dsimp only at hSw); go_simp; try (with_reducible rfl))
              try simp only [Act.put, List.setIfInBounds_toArray, List.set_cons_zero, List.set_cons_succ, List.getElem_toArray, List.getElem_cons_zero, List.getElem_cons_succ]
              refine wpAnyH_take (i := 10) (v := ?_) rfl (by kernel_rfl) (by kernel_rfl) (by kernel_rfl) (fun _ _ _ h => h) (Or.inl ⟨by rfl, ?_⟩) (by assumption) ?_
              rotate_left
              · (intro w hSw; (try dsimp only at hSw); go_simp; try (with_reducible rfl))
              try simp only [Act.put, List.setIfInBounds_toArray, List.set_cons_zero, List.set_cons_succ, List.getElem_toArray, List.getElem_cons_zero, List.getElem_cons_succ]
              refine wpAnyH_take (i := 11) (v := ?_) rfl (by kernel_rfl) (by kernel_rfl) (by kernel_rfl) (fun _ _ _ h => h) (Or.inl ⟨by rfl, ?_⟩) (by assumption) ?_
              rotate_left
              · (intro w hSw; (try dsimp only at hSw); go_simp; try (with_reducible rfl))
              try simp only [Act.put, List.setIfInBounds_toArray, List.set_cons_zero, List.set_cons_succ, List.getElem_toArray, List.getElem_cons_zero, List.getElem_cons_succ]
              refine wpAnyH_take (i := 12) (v := ?_) rfl (by kernel_rfl) (by kernel_rfl) (by kernel_rfl) (fun _ _ _ h => h) (Or.inl ⟨by rfl, ?_⟩) (by assumption) ?_
              rotate_left
              · (intro w hSw; (try dsimp only at hSw); go_simp; try (with_reducible rfl))
              try simp only [Act.put, List.setIfInBounds_toArray, List.set_cons_zero, List.set_cons_succ, List.getElem_toArray, List.getElem_cons_zero, List.getElem_cons_succ]
              refine wpAnyH_take (i := 13) (v := ?_) rfl (by kernel_rfl) (by kernel_rfl) (by kernel_rfl) (fun _ _ _ h => h) (Or.inl ⟨by rfl, ?_⟩) (by assumption) ?_
              rotate_left
              · (intro w hSw; (try dsimp only at hSw); go_simp; try (with_reducible rfl))
              try simp only [Act.put, List.setIfInBounds_toArray, List.set_cons_zero, List.set_cons_succ, List.getElem_toArray, List.getElem_cons_zero, List.getElem_cons_succ]
              refine wpAnyH_take (i := 14) (v := ?_) rfl (by kernel_rfl) (by kernel_rfl) (by kernel_rfl) (fun _ _ _ h => h) (Or.inl ⟨by rfl, ?_⟩) (by assumption) ?_
              rotate_left
              · (intro w hSw; (try dsimp only at hSw); go_simp; try (with_reducible rfl))
              try simp only [Act.put, List.setIfInBounds_toArray, List.set_cons_zero, List.set_cons_succ, List.getElem_toArray, List.getElem_cons_zero, List.getElem_cons_succ]
              refine wpAnyH_take (i := 15) (v := ?_) rfl (by kernel_rfl) (by kernel_rfl) (by kernel_rfl) (fun _ _ _ h => h) (Or.inl ⟨by rfl, ?_⟩) (by assumption) ?_
              rotate_left
              · (intro w hSw; (try dsimp only at hSw); go_simp; try (with_reducible rfl))
              try simp only [Act.put, List.setIfInBounds_toArray, List.set_cons_zero, List.set_cons_succ, List.getElem_toArray, List.getElem_cons_zero, List.getElem_cons_succ]
              refine wpAnyH_take (i := 16) (v := ?_) rfl (by kernel_rfl) (by kernel_rfl) (by kernel_rfl) (fun _ _ _ h => h) (Or.inl ⟨by rfl, ?_⟩) (by assumption) ?_
              rotate_left
              · (intro w hSw; (try dsimp only at hSw); go_simp; try (with_reducible rfl))
              try simp only [Act.put, List.setIfInBounds_toArray, List.set_cons_zero, List.set_cons_succ, List.getElem_toArray, List.getElem_cons_zero, List.getElem_cons_succ]
              refine wpAnyH_take (i := 17) (v := ?_) rfl (by kernel_rfl) (by kernel_rfl) (by kernel_rfl) (fun _ _ _ h => h) (Or.inl ⟨by rfl, ?_⟩) (by assumption) ?_
              rotate_left
              · (intro w hSw; (try dsimp only at hSw); go_simp; try (with_reducible rfl))
              try simp only [Act.put, List.setIfInBounds_toArray, List.set_cons_zero, List.set_cons_succ, List.getElem_toArray, List.getElem_cons_zero, List.getElem_cons_succ]
              refine wpAnyH_take (i := 18) (v := ?_) rfl (by kernel_rfl) (by kernel_rfl) (by kernel_rfl) (fun _ _ _ h => h) (Or.inl ⟨by rfl, ?_⟩) (by assumption) ?_
              rotate_left
              · (intro w hSw; (try dsimp only at hSw); go_simp; try (with_reducible rfl))
              try simp only [Act.put, List.setIfInBounds_toArray, List.set_cons_zero, List.set_cons_succ, List.getElem_toArray, List.getElem_cons_zero, List.getElem_cons_succ]
              refine wpAnyH_take (i := 19) (v := ?_) rfl (by kernel_rfl) (by kernel_rfl) (by kernel_rfl) (fun _ _ _ h => h) (Or.inl ⟨by rfl, ?_⟩) (by assumption) ?_
              rotate_left
              · (intro w hSw; (try dsimp only at hSw); go_simp; try (with_reducible rfl))
              try simp only [Act.put, List.setIfInBounds_toArray, List.set_cons_zero, List.set_cons_succ, List.getElem_toArray, List.getElem_cons_zero, List.getElem_cons_succ]
              refine wpAnyH_take (i := 20) (v := ?_) rfl (by kernel_rfl) (by kernel_rfl) (by kernel_rfl) (fun _ _ _ h => h) (Or.inl ⟨by rfl, ?_⟩) (by assumption) ?_
              rotate_left
              · (intro w hSw; (try dsimp only at hSw); go_simp; try (with_reducible rfl))
              try simp only [Act.put, List.setIfInBounds_toArray, List.set_cons_zero, List.set_cons_succ, List.getElem_toArray, List.getElem_cons_zero, List.getElem_cons_succ]
              refine wpAnyH_take (i := 21) (v := ?_) rfl (by kernel_rfl) (by kernel_rfl) (by kernel_rfl) (fun _ _ _ h => h) (Or.inl ⟨by rfl, ?_⟩) (by assumption) ?_
              rotate_left
              · (intro w hSw; (try dsimp only at hSw); go_simp; try (with_reducible rfl))
              try simp only [Act.put, List.setIfInBounds_toArray, List.set_cons_zero, List.set_cons_succ, List.getElem_toArray, List.getElem_cons_zero, List.getElem_cons_succ]
              refine wpAnyH_take (i := 22) (v := ?_) rfl (by kernel_rfl) (by kernel_rfl) (by kernel_rfl) (fun _ _ _ h => h) (Or.inl ⟨by rfl, ?_⟩) (by assumption) ?_
              rotate_left
              · (intro w hSw; (try dsimp only at hSw); go_simp; try (with_reducible rfl))
              try simp only [Act.put, List.setIfInBounds_toArray, List.set_cons_zero, List.set_cons_succ, List.getElem_toArray, List.getElem_cons_zero, List.getElem_cons_succ]
              refine wpAnyH_take (i := 23) (v := ?_) rfl (by kernel_rfl) (by kernel_rfl) (by kernel_rfl) (fun _ _ _ h => h) (Or.inl ⟨by rfl, ?_⟩) (by assumption) ?_
              rotate_left
              · (intro w hSw; (try dsimp only at hSw); go_simp; try (with_reducible rfl))
              try simp only [Act.put, List.setIfInBounds_toArray, List.set_cons_zero, List.set_cons_succ, List.getElem_toArray, List.getElem_cons_zero, List.getElem_cons_succ]
              refine wpAnyH_take (i := 24) (v := ?_) rfl (by kernel_rfl) (by kernel_rfl) (by kernel_rfl) (fun _ _ _ h => h) (Or.inl ⟨by rfl, ?_⟩) (by assumption) ?_
              rotate_left
              · (intro w hSw; (try dsimp only at hSw); go_simp; try (with_reducible rfl))
              try simp only [Act.put, List.setIfInBounds_toArray, List.set_cons_zero, List.set_cons_succ, List.getElem_toArray, List.getElem_cons_zero, List.getElem_cons_succ]
              refine wpAnyH_take (i := 25) (v := ?_) rfl (by kernel_rfl) (by kernel_rfl) (by kernel_rfl) (fun _ _ _ h => h) (Or.inl ⟨by rfl, ?_⟩) (by assumption) ?_
              rotate_left
              · (intro w hSw; (try dsimp only at hSw); go_simp; try (with_reducible rfl))
              try simp only [Act.put, List.setIfInBounds_toArray, List.set_cons_zero, List.set_cons_succ, List.getElem_toArray, List.getElem_cons_zero, List.getElem_cons_succ]
              refine wpAnyH_take (i := 26) (v := ?_) rfl (by kernel_rfl) (by kernel_rfl) (by kernel_rfl) (fun _ _ _ h => h) (Or.inl ⟨by rfl, ?_⟩) (by assumption) ?_
              rotate_left
              · (intro w hSw; (try dsimp only at hSw); go_simp; try (with_reducible rfl))
              try simp only [Act.put, List.setIfInBounds_toArray, List.set_cons_zero, List.set_cons_succ, List.getElem_toArray, List.getElem_cons_zero, List.getElem_cons_succ]
              refine wpAnyH_take (i := 27) (v := ?_) rfl (by kernel_rfl) (by kernel_rfl) (by kernel_rfl) (fun _ _ _ h => h) (Or.inl ⟨by rfl, ?_⟩) (by assumption) ?_
              rotate_left
              · (intro w hSw; (try dsimp only at hSw); go_simp; try (with_reducible rfl))
              try simp only [Act.put, List.setIfInBounds_toArray, List.set_cons_zero, List.set_cons_succ, List.getElem_toArray, List.getElem_cons_zero, List.getElem_cons_succ]
              refine wpAnyH_take (i := 28) (v := ?_) rfl (by kernel_rfl) (by kernel_rfl) (by kernel_rfl) (fun _ _ _ h => h) (Or.inl ⟨by rfl, ?_⟩) (by assumption) ?_
              rotate_left
              · (intro w hSw; (try dsimp only at hSw); go_simp; try (with_reducible rfl))
              try simp only [Act.put, List.setIfInBounds_toArray, List.set_cons_zero, List.set_cons_succ, List.getElem_toArray, List.getElem_cons_zero, List.getElem_cons_succ]
              refine wpAnyH_take (i := 29) (v := ?_) rfl (by kernel_rfl) (by kernel_rfl) (by kernel_rfl) (fun _ _ _ h => h) (Or.inl ⟨by rfl, ?_⟩) (by assumption) ?_
              rotate_left
              · (intro w hSw; (try dsimp only at hSw); go_simp; try (with_reducible rfl))
              try simp only [Act.put, List.setIfInBounds_toArray, List.set_cons_zero, List.set_cons_succ, List.getElem_toArray, List.getElem_cons_zero, List.getElem_cons_succ]
              refine wpAnyH_take (i := 30) (v := ?_) rfl (by kernel_rfl) (by kernel_rfl) (by kernel_rfl) (fun _ _ _ h => h) (Or.inl ⟨by rfl, ?_⟩) (by assumption) ?_
              rotate_left
              · (intro w hSw; (try dsimp only at hSw); go_simp; try (with_reducible rfl))
              try simp only [Act.put, List.setIfInBounds_toArray, List.set_cons_zero, List.set_cons_succ, List.getElem_toArray, List.getElem_cons_zero, List.getElem_cons_succ]
              refine wpAnyH_take (i := 31) (v := ?_) rfl (by kernel_rfl) (by kernel_rfl) (by kernel_rfl) (fun _ _ _ h => h) (Or.inl ⟨by rfl, ?_⟩) (by assumption) ?_
              rotate_left
              · (intro w hSw; (try dsimp only at hSw); go_simp; try (with_reducible rfl))
              try simp only [Act.put, List.setIfInBounds_toArray, List.set_cons_zero, List.set_cons_succ, List.getElem_toArray, List.getElem_cons_zero, List.getElem_cons_succ]
              refine wpAnyH_take (i := 32) (v := ?_) rfl (by kernel_rfl) (by kernel_rfl) (by kernel_rfl) (fun _ _ _ h => h) (Or.inl ⟨by rfl, ?_⟩) (by assumption) ?_
              rotate_left
              · (intro w hSw; (try dsimp only at hSw); go_simp; try (with_reducible rfl))
              try simp only [Act.put, List.setIfInBounds_toArray, List.set_cons_zero, List.set_cons_succ, List.getElem_toArray, List.getElem_cons_zero, List.getElem_cons_succ]
              refine wpAnyH_done (by kernel_rfl) ?_ _
              refine NoPanic.normal ?_
              clear hHeld
              go_wp2
              go_roundw
              case rel => exact ⟨i3 + 1, by omega, by go_num, Lib.hid ((Chg.drew (fun _ => False) wr).on HB.out HB.out.size (fun _ e => e.elim))⟩
              case measure => simp [intOf]; omega
            · have e4 : decide ((i3 : Int) < (i2 : Int)) = false := decide_eq_false (by omega)
              have e4' : decide (i3 < i2) = false := decide_eq_false hlt3
              go_wp2
              go_ret
              exact ⟨rfl, HB7.out.trans (HB.out.mono HB7.out.size)⟩
end Go.Proofs.Ytnnpfehfoaojfaa
