/-
  Whatever the sectors say, the entries that are opened are the document's.
-/
import Derived.Test.YtgcifhhbhoafcaaLogRefOpen
import Derived.Test.YtgcifhhbhoafcaaLogAwake
import Derived.Deep.QuietTactic
import Derived.BigQuiet
namespace Go.Proofs.Ytgcifhhbhoafcaa
open Go.RowKit Go.Shelf
attribute [local go_sem] Oper.semAt_some

set_option maxRecDepth 20000 in
theorem free_q (P D f n u l : Nat) (off : Bool) (hu : u ≤ n) (hn : n ≤ 65536) (w : World) (H : LogAt w P D f n u l off) :
    Calls Try.prog 40 #[.pointer (some ⟨P, 0, none⟩)] w fun e w' => e = .returned (.int .i64 ((n - u : Nat) : Int)) ∧ w' = w.drewN 1 := by
  obtain ⟨k0, k1, k2, k3, k4, k5⟩ := H.cells
  have q : IntKind.i64.wrap ((n : Int) - (u : Int)) = ((n - u : Nat) : Int) := by rw [IntKind.wrap_i64]; omega
  clear H
  go_enter Try.func40, Try.ntmps40
  go_wp2
  refine wp_region_noPanic ?_
  refine wp_region_held_drew (S := fun X => X.cell? ⟨P, 2, none⟩ = some (.int .i64 n) ∧ X.cell? ⟨P, 3, none⟩ = some (.int .i64 u)) (by kernel_rfl) (⟨k2, k3⟩) (fun hHeld => ?_)
  refine wpAnyH_take (i := 0) (v := ?_) rfl (by kernel_rfl) (by kernel_rfl) (by kernel_rfl) (fun _ _ _ h => h) (Or.inl ⟨by rfl, ?_⟩) (by assumption) ?_
  rotate_left
  · (intro w hSw; (try dsimp only at hSw); go_simp; try (with_reducible rfl))
  try simp only [Act.put, List.setIfInBounds_toArray, List.set_cons_zero, List.set_cons_succ, List.getElem_toArray, List.getElem_cons_zero]
  refine wpAnyH_take (i := 1) (v := ?_) rfl (by kernel_rfl) (by kernel_rfl) (by kernel_rfl) (fun _ _ _ h => h) (Or.inl ⟨by rfl, ?_⟩) (by assumption) ?_
  rotate_left
  · (intro w hSw; (try dsimp only at hSw); go_simp; try (with_reducible rfl))
  try simp only [Act.put, List.setIfInBounds_toArray, List.set_cons_zero, List.set_cons_succ, List.getElem_toArray, List.getElem_cons_zero, List.getElem_cons_succ]
  refine wpAnyH_take (i := 2) (v := ?_) rfl (by kernel_rfl) (by kernel_rfl) (by kernel_rfl) (fun _ _ _ h => h) (Or.inl ⟨by rfl, ?_⟩) (by assumption) ?_
  rotate_left
  · (intro w hSw; (try dsimp only at hSw); go_simp; try (with_reducible rfl))
  try simp only [Act.put, List.setIfInBounds_toArray, List.set_cons_zero, List.set_cons_succ, List.getElem_toArray, List.getElem_cons_zero, List.getElem_cons_succ]
  refine wpAnyH_take (i := 3) (v := ?_) rfl (by kernel_rfl) (by kernel_rfl) (by kernel_rfl) (fun _ _ _ h => h) (Or.inl ⟨by rfl, ?_⟩) (by assumption) ?_
  rotate_left
  · (intro w hSw; (try dsimp only at hSw); go_simp; try (with_reducible rfl))
  try simp only [Act.put, List.setIfInBounds_toArray, List.set_cons_zero, List.set_cons_succ, List.getElem_toArray, List.getElem_cons_zero, List.getElem_cons_succ]
  refine wpAnyH_take (i := 4) (v := ?_) rfl (by kernel_rfl) (by kernel_rfl) (by kernel_rfl) (fun _ _ _ h => h) (Or.inl ⟨by rfl, ?_⟩) (by assumption) ?_
  rotate_left
  · (intro w hSw; (try dsimp only at hSw); go_simp; try (with_reducible rfl))
  try simp only [Act.put, List.setIfInBounds_toArray, List.set_cons_zero, List.set_cons_succ, List.getElem_toArray, List.getElem_cons_zero, List.getElem_cons_succ]
  refine wpAnyH_take (i := 5) (v := ?_) rfl (by kernel_rfl) (by kernel_rfl) (by kernel_rfl) (fun _ _ _ h => h) (Or.inl ⟨by rfl, ?_⟩) (by assumption) ?_
  rotate_left
  · (intro w hSw; (try dsimp only at hSw); go_simp; try (with_reducible rfl))
  try simp only [Act.put, List.setIfInBounds_toArray, List.set_cons_zero, List.set_cons_succ, List.getElem_toArray, List.getElem_cons_zero, List.getElem_cons_succ]
  refine wpAnyH_take (i := 6) (v := ?_) rfl (by kernel_rfl) (by kernel_rfl) (by kernel_rfl) (fun _ _ _ h => h) (Or.inl ⟨by rfl, ?_⟩) (by assumption) ?_
  rotate_left
  · (intro w hSw; (try dsimp only at hSw); go_simp; try (with_reducible rfl))
  try simp only [Act.put, List.setIfInBounds_toArray, List.set_cons_zero, List.set_cons_succ, List.getElem_toArray, List.getElem_cons_zero, List.getElem_cons_succ]
  refine wpAnyH_take (i := 7) (v := ?_) rfl (by kernel_rfl) (by kernel_rfl) (by kernel_rfl) (fun _ _ _ h => h) (Or.inl ⟨by rfl, ?_⟩) (by assumption) ?_
  rotate_left
  · (intro w hSw; (try dsimp only at hSw); go_simp; try (with_reducible rfl))
  try simp only [Act.put, List.setIfInBounds_toArray, List.set_cons_zero, List.set_cons_succ, List.getElem_toArray, List.getElem_cons_zero, List.getElem_cons_succ]
  refine wpAnyH_take (i := 8) (v := ?_) rfl (by kernel_rfl) (by kernel_rfl) (by kernel_rfl) (fun _ _ _ h => h) (Or.inl ⟨by rfl, ?_⟩) (by assumption) ?_
  rotate_left
  · (intro w hSw; (try dsimp only at hSw); go_simp; try (with_reducible rfl))
  try simp only [Act.put, List.setIfInBounds_toArray, List.set_cons_zero, List.set_cons_succ, List.getElem_toArray, List.getElem_cons_zero, List.getElem_cons_succ]
  refine wpAnyH_take (i := 9) (v := ?_) rfl (by kernel_rfl) (by kernel_rfl) (by kernel_rfl) (fun _ _ _ h => h) (Or.inl ⟨by rfl, ?_⟩) (by assumption) ?_
  rotate_left
  · (intro w hSw; (try dsimp only at hSw); go_simp; try (with_reducible rfl))
  try simp only [Act.put, List.setIfInBounds_toArray, List.set_cons_zero, List.set_cons_succ, List.getElem_toArray, List.getElem_cons_zero, List.getElem_cons_succ]
  refine wpAnyH_done (by kernel_rfl) ?_ _
  refine NoPanic.normal ?_
  clear hHeld
  go_wp2
  go_ret
  exact ⟨rfl, rfl⟩
theorem room_q (P D f n u l : Nat) (off : Bool) (hu : u ≤ n) (hn : n ≤ 65536) (w : World) (H : LogAt w P D f n u l off) :
    Calls Try.prog 17 #[.pointer (some ⟨P, 0, none⟩)] w fun e w' => e = .returned (.int .i64 (63 * (((n - u : Nat) : Int) - 1))) ∧ ∃ m, w' = w.drewN m := by
  have hf := free_q P D f n u l off hu hn w H
  obtain ⟨m, hm⟩ : ∃ m, m = n - u := ⟨_, rfl⟩
  rw [← hm] at hf ⊢
  have hmb : m ≤ 65536 := by omega
  clear H hm
  go_enter Try.func17, Try.ntmps17
  go_wp2_with fail
  refine hf.mono ?_
  rintro e w1 ⟨rfl, hb⟩
  have HB := Lib.hid hb
  clear hb
  go_wp2
  go_ret
  exact ⟨rfl, 1, HB.out⟩
theorem own_type {w : World} {lo : Nat} {e : TypeId} {sz : Nat} {v : Value} {n : Nat} {xs : List Value} (h : w.ownsRow lo e sz v n xs) {k : Nat} (hk : v.ownBlock = some k) : lo ≤ k ∧ ∃ cs, w.heap[k]? = some (.cells cs e (0, 0)) := by
  rcases h.2 with ⟨rfl, _⟩ | ⟨g, c, u, rfl, hb, hg, _⟩
  · cases hk
  · cases hk
    exact ⟨hb, u, hg⟩
theorem type_ne {w : World} {k : Nat} {cs cs' : Array Value} {T T' : TypeId} {fr fr' : Nat × Nat} (h : w.heap[k]? = some (.cells cs T fr)) (h' : w.heap[k]? = some (.cells cs' T' fr')) : T = T' := by
  rw [h] at h'
  simp only [Option.some.injEq, Obj.cells.injEq] at h'
  exact h'.2.1
theorem RA.apart {w w' : World} {D lo : Nat} {S : List Sec} {va vw : Value} {pos : List Nat} {B : List Sec} (H : RA w D lo S va vw pos B) (hS : 1 ≤ S.length) {ex : Nat → Prop} (hc : Chg ex w w') (hex : ∀ k, ex k → (∃ cs T fr, w.heap[k]? = some (.cells cs T fr) ∧ T ≠ 76 ∧ T ≠ 3 ∧ T ≠ 9) ∧ (lo ≤ k ∨ ∃ v, w.cell? ⟨k, 0, none⟩ = some v ∧ ∀ x, v ≠ .string x)) : RA w' D lo S va vw pos B := by
  obtain ⟨gs, cs, h1, h2, h3, h4, h5⟩ := H.box
  have hd := H.dlo
  refine ⟨⟨gs, cs, hc.box h1 (fun e => ?_), hc.range h2 (fun e => ?_), h3, h4, Nat.lt_of_lt_of_le h5 hc.size⟩, hd, Nat.le_trans H.lolow hc.size, hc.own H.at_ (fun k hk e => ?_), hc.own H.what (fun k hk e => ?_)⟩
  · obtain ⟨⟨cs', T, fr, hh, ht, _⟩, _⟩ := hex _ e
    exact ht (type_ne hh h1)
  · rcases (hex _ e).2 with hl | ⟨v, hv, hn⟩
    · omega
    · have h0 : (sCells S)[0]? = some (.string (bs (S[0]'(by omega)))) := by
        unfold sCells
        rw [List.getElem?_map, List.getElem?_eq_getElem (by omega)]
        rfl
      have := h2 0 _ h0
      rw [Nat.zero_add] at this
      rw [hv] at this
      exact hn _ (Option.some.inj this)
  · obtain ⟨⟨cs', T, fr, hh, _, ht, _⟩, _⟩ := hex _ e
    obtain ⟨_, cs2, hh2⟩ := own_type H.at_ hk
    exact ht (type_ne hh hh2)
  · obtain ⟨⟨cs', T, fr, hh, _, _, ht⟩, _⟩ := hex _ e
    obtain ⟨_, cs2, hh2⟩ := own_type H.what hk
    exact ht (type_ne hh hh2)

theorem pieces_cut (a : Nat) (data : List UInt8) : piecesW a data = (cutS data).mapIdx fun i s => (a + i, s) := by
  unfold piecesW cutS
  apply List.ext_getElem
  · rw [List.length_mapIdx, pcs_len, List.length_mapIdx, List.length_map, List.length_range]
  · intro i h1 h2
    have hi : i < (data.length + 63) / 64 := by simpa using h2
    rw [List.getElem_mapIdx, List.getElem_mapIdx]
    have e : (pcs data.length)[i]'(by simpa using h1) = ⟨(64 * i, min 64 (data.length - 64 * i)), by refine ⟨?_, ?_, ?_⟩ <;> dsimp only <;> omega⟩ := by simp [pcs]
    rw [e, List.getElem_map, List.getElem_range]
    unfold pieceW cutAt
    dsimp only
    have e1 : (data.drop (64 * i)).take (min 64 (data.length - 64 * i)) = (data.drop (64 * i)).take 64 := by
      by_cases hm : 64 ≤ data.length - 64 * i
      · rw [Nat.min_eq_left hm]
      · rw [Nat.min_eq_right (by omega), List.take_of_length_le (by rw [List.length_drop]; exact Nat.le_refl _), List.take_of_length_le (by rw [List.length_drop]; omega)]
    rw [e1, show 64 - min 64 (data.length - 64 * i) = 64 - (data.length - 64 * i) by omega]
theorem lopen_bad (D : Nat) (f N a : Int) (ha : a < 0 ∨ 1152921504606846975 < a) (w : World) :
    Calls Try.prog 13 #[.pointer (some ⟨D, 0, none⟩), .int .i64 f, .int .i64 N, .int .i64 a] w fun e w' => e = .returned (.tuple #[.pointer none, .slice none 0 0, .int .i64 2]) ∧ w = w' := by
  by_cases h : a < 0
  · have d1 : decide (a < 0) = true := decide_eq_true h
    clear ha h
    go_enter Try.func13, Try.ntmps13
    go_wp2
    exact bodyPost_ret (results_tmp3 rfl _ _ _) rfl ⟨rfl, rfl⟩
  · have d1 : decide (a < 0) = false := decide_eq_false h
    have d2 : decide (1152921504606846975 < a) = true := decide_eq_true (by omega)
    clear ha h
    go_enter Try.func13, Try.ntmps13
    go_wp2
    exact bodyPost_ret (results_tmp3 rfl _ _ _) rfl ⟨rfl, rfl⟩
theorem gopen_bad (D : Nat) (f N a : Int) (ha : a < 0 ∨ 1152921504606846975 < a) (w : World) :
    Calls Try.prog 14 #[.pointer (some ⟨D, 0, none⟩), .int .i64 f, .int .i64 N, .int .i64 a] w fun e w' => e = .returned (.tuple #[.pointer none, .slice none 0 0, .int .i64 2]) ∧ w = w' := by
  by_cases h : a < 0
  · have d1 : decide (a < 0) = true := decide_eq_true h
    clear ha h
    go_enter Try.func14, Try.ntmps14
    go_wp2
    exact bodyPost_ret (results_tmp3 rfl _ _ _) rfl ⟨rfl, rfl⟩
  · have d1 : decide (a < 0) = false := decide_eq_false h
    have d2 : decide (1152921504606846975 < a) = true := decide_eq_true (by omega)
    clear ha h
    go_enter Try.func14, Try.ntmps14
    go_wp2
    exact bodyPost_ret (results_tmp3 rfl _ _ _) rfl ⟨rfl, rfl⟩
theorem row_ents {w : World} {lo : Nat} {v : Value} {E : List Ent} (h : w.ownsRow lo 48 2 v E.length (eCells E)) (hx : ∀ x ∈ E, InAt w x.p x.body) : ∃ p c, v = .slice p E.length c ∧ EntRow w p E := by
  rcases h.2 with ⟨rfl, h0⟩ | ⟨g, c, cur, rfl, hb, hg, hn, _, hs, ht⟩
  · exact ⟨none, 0, by rw [h0], fun h => by omega, hx⟩
  · refine ⟨_, c, rfl, fun _ => ⟨g, 0, rfl, fun j u hj => ?_⟩, hx⟩
    rw [Nat.zero_add, cell_in hg, ← Array.getElem?_toList]
    rw [← ht, List.getElem?_take] at hj
    split at hj
    · exact hj
    · cases hj
theorem same_ents {after : Nat} {E F : List Ent} (h1 : Stamps after E) (h2 : Stamps after F) (hb : E.map (·.body) = F.map (·.body)) : SameE E F := by
  have hl : E.length = F.length := by have := congrArg List.length hb; simpa using this
  refine ⟨hl, fun i h h' => ⟨by rw [h1 i h, h2 i h'], ?_⟩⟩
  have := congrArg (fun l : List (List UInt8) => l[i]?) hb
  simp only [List.getElem?_map, List.getElem?_eq_getElem h, List.getElem?_eq_getElem h', Option.map_some, Option.some.injEq] at this
  exact this

set_option maxRecDepth 20000 in
set_option maxHeartbeats 8000000 in
theorem scans_walk (pp0 : Option Addr) (c0 : Nat) (l0 : List UInt8) (x1 x2 : Int) (W : World) (hb0 : InAt W pp0 l0 ∧ l0.length ≤ c0 ∧ c0 ≤ 9223372036854775807) :
    Calls Try.prog 3 #[.slice pp0 l0.length c0, .int .i64 x1, .int .i64 x2] W fun e w' => e = .returned (.bool true) ∧ Below W.heap.size W w' := by
  by_cases hbig : 2000 < l0.length ∨ l0.length = 0
  · by_cases ha : 2000 < l0.length
    · have d1 : decide ((2000 : Int) < (l0.length : Int)) = true := decide_eq_true (by omega)
      have d1' : decide (2000 < l0.length) = true := decide_eq_true ha
      clear hbig hb0
      go_enter Try.func3, Try.ntmps3
      go_wp2_with fail
      refine (awake_true W).mono ?_
      rintro e w1 ⟨rfl, hb1⟩
      have HB1 := Lib.hid hb1
      clear hb1
      go_wp2_with fail
      refine (awake_true w1).mono ?_
      rintro e w2 ⟨rfl, hb2⟩
      have HB2 := Lib.hid hb2
      clear hb2
      go_wp2
      go_ret
      exact ⟨rfl, HB1.out.trans (HB2.out.mono HB1.out.size)⟩
    · have d1 : decide ((2000 : Int) < (l0.length : Int)) = false := decide_eq_false (by omega)
      have d1' : decide (2000 < l0.length) = false := decide_eq_false ha
      have e0 : l0 = [] := List.length_eq_zero_iff.1 (by omega)
      subst e0
      clear hbig hb0
      go_enter Try.func3, Try.ntmps3
      go_wp2_with fail
      refine (awake_true W).mono ?_
      rintro e w1 ⟨rfl, hb1⟩
      have HB1 := Lib.hid hb1
      clear hb1
      go_wp2_with fail
      refine (awake_true w1).mono ?_
      rintro e w2 ⟨rfl, hb2⟩
      have HB2 := Lib.hid hb2
      clear hb2
      go_wp2
      go_ret
      exact ⟨rfl, HB1.out.trans (HB2.out.mono HB1.out.size)⟩
  · obtain ⟨L, hL⟩ : ∃ L, l0.length = L := ⟨_, rfl⟩
    have d1 : decide ((2000 : Int) < (L : Int)) = false := decide_eq_false (by omega)
    have d1' : decide (2000 < L) = false := decide_eq_false (by omega)
    have d2 : decide ((L : Int) = 0) = false := decide_eq_false (by omega)
    have d2' : decide (L = 0) = false := decide_eq_false (by omega)
    have d3 : ((L : Int) == 0) = false := beq_eq_false_iff_ne.2 (by omega)
    obtain ⟨b, o, rfl, hrg⟩ := hb0.1 (by omega)
    have hbl : b < W.heap.size := InAt.lt hb0.1 (by omega)
    have hc0 := hb0.2
    obtain ⟨r, hr⟩ : ∃ r, x1.tmod 4 = r := ⟨_, rfl⟩
    have hr1 : -4 < r ∧ r < 4 := by
      rw [← hr]
      exact ⟨Int.lt_tmod_of_pos _ (by decide), Int.tmod_lt_of_pos _ (by decide)⟩
    obtain ⟨k, hk⟩ : ∃ k : Nat, (r + 4).tmod 4 = (k : Int) := ⟨((r + 4).tmod 4).toNat, by rw [Int.tmod_eq_emod_of_nonneg (by omega)]; omega⟩
    have hkb : k < 4 := by rw [Int.tmod_eq_emod_of_nonneg (by omega)] at hk; omega
    have m1 : IntKind.i64.wrap r = r := by rw [IntKind.wrap_i64]; omega
    have m2 : IntKind.i64.wrap (r + 4) = r + 4 := by rw [IntKind.wrap_i64]; omega
    have m3 : IntKind.i64.wrap (k : Int) = (k : Int) := by rw [IntKind.wrap_i64]; omega
    obtain ⟨n, hn⟩ : ∃ n, n = (L + 63) / 64 := ⟨_, rfl⟩
    have hnb : 1 ≤ n ∧ n ≤ 32 := by omega
    obtain ⟨N, hN⟩ : ∃ N, N = n + 3 := ⟨_, rfl⟩
    have m4 : (n : Int) + 3 = (N : Int) := by omega
    have hNb : N ≤ 35 := by omega
    have hcl : (cutS l0).length = n := by rw [cutS_len, hL, hn]
    have hct := fun W' (h : W'.rangeAt b o (bCells l0)) (hb : b < W'.heap.size) => cut_any b o c0 l0 (by omega) (by omega) (by omega) W' h hb
    have hnw := fun w => new_any N (by omega) (by omega) w
    have hrn := fun w => refnew_any N (by omega) (by omega) w
    have hrw := fun (W' : World) (R lo : Nat) (va vw : Value) (H : RA W' R lo (zeroS N) va vw [] []) (h : W'.rangeAt b o (bCells l0)) => refwrite_any H k b o c0 l0 (by omega) (by omega) (by omega) (by omega) (by rw [zero_cells]; omega) (by rw [zero_cells]; omega) (by simp) h
    have hww := fun (W' : World) (D g : Nat) (H : DiskAt W' D g (zeroS N) (.slice none 0 0) [] (-1)) (hDg : D ≠ g) (h : W'.rangeAt b o (bCells l0)) (hbD : b ≠ D) => write_any D g (zeroS N) (.slice none 0 0) [] (-1) (by decide) (by decide) k b o c0 l0 (by omega) (by omega) (by omega) (by rw [zero_cells]; omega) (by simp; omega) W' H hDg h hbD (by simp [Value.ownBlock])
    rw [hL] at hct hrw hww ⊢
    have HRG := Lib.hid hrg
    have HBL := Lib.hid hbl
    have HNN := Lib.hid (show N = n + 3 ∧ (cutS l0).length = n from ⟨hN, hcl⟩)
    clear hbig hb0 hL hrg hbl hn hN hcl
    go_enter Try.func3, Try.ntmps3
    go_wp2_with fail
    refine (awake_true W).mono ?_
    rintro e w1 ⟨rfl, hb1⟩
    have hct1 := hct w1 ((Chg.below hb1 (fun _ => False)).range HRG.out (fun e => e)) (Nat.lt_of_lt_of_le HBL.out hb1.size)
    have HB1 := Lib.hid hb1
    clear hb1 hct
    go_wp2_with fail
    refine hct1.mono ?_
    clear hct1
    rintro e w2 ⟨vl, rfl, hrow, hb2⟩
    rw [HNN.out.2] at hrow
    obtain ⟨gl, cl, rfl⟩ : ∃ gl cl, vl = .slice (some ⟨gl, 0, none⟩) n cl := by
      rcases hrow.2 with ⟨_, h0⟩ | ⟨gl, cl, cur, rfl, _⟩
      · omega
      · exact ⟨gl, cl, rfl⟩
    have HB2 := Lib.hid (HB1.out.trans (hb2.mono HB1.out.size))
    clear hrow hb2
    go_wp2_with fail
    refine (hnw w2).mono ?_
    clear hnw
    rintro e w3 ⟨rfl, hd, hb3⟩
    obtain ⟨g, hg⟩ : ∃ g, w2.heap.size = g := ⟨_, rfl⟩
    have hgl : g < w3.heap.size := (Array.getElem?_eq_some_iff.1 (hg ▸ hd.dur)).1
    have hDl : g + 1 < w3.heap.size := (Array.getElem?_eq_some_iff.1 (hg ▸ hd.box)).1
    obtain ⟨D, hD⟩ : ∃ D, w2.heap.size + 1 = D := ⟨_, rfl⟩
    rw [hD] at hd ⊢
    rw [hg] at hd
    have HD3 := Lib.hid hd
    have HB3 := Lib.hid (HB2.out.trans (hb3.mono HB2.out.size))
    have HGD := Lib.hid (show w2.heap.size = g ∧ D = g + 1 ∧ D < w3.heap.size from by omega)
    clear hd hb3 hgl hDl hg hD
    go_wp2_with fail
    refine (hrn w3).mono ?_
    clear hrn
    rintro e w4 ⟨rfl, hr4, hb4⟩
    obtain ⟨R, hR⟩ : ∃ R, w3.heap.size = R := ⟨_, rfl⟩
    obtain ⟨lo, hlo⟩ : ∃ lo, w4.heap.size = lo := ⟨_, rfl⟩
    have hd4 := HD3.out.on hb4
    have hB4 := HB3.out.trans (hb4.mono HB3.out.size)
    have hRl := hr4.lt
    have hDg : D ≠ g := by have := HGD.out; omega
    have hDR : D < R ∧ g < R ∧ R < lo ∧ W.heap.size ≤ g := by have := HGD.out; have := HB2.out.size; omega
    rw [hR, hlo] at hr4
    rw [hR]
    have hrg4 : w4.rangeAt b o (bCells l0) := (Chg.below hB4 (fun _ => False)).range HRG.out (fun e => e)
    have hww4 := hww w4 D g hd4 hDg hrg4 (by have := HBL.out; have := HGD.out; omega)
    have HD4 := Lib.hid hd4
    have HR4 := Lib.hid hr4
    have HB4 := Lib.hid hB4
    have HORD := Lib.hid hDR
    clear hd4 hr4 hB4 hRl hDR hrg4 hb4 hR hww
    go_wp2_with fail
    refine hww4.mono ?_
    clear hww4
    rintro e w5 ⟨rfl, v5, hd5, hch5, hv5⟩
    have ord := HORD.out
    have hch5' : Chg (fun k => k = D) w4 w5 := hch5.weaken (fun k _ e => by rcases e with e | e; exact e; cases e)
    have hr5 : RA w5 R lo (zeroS N) (.slice none 0 0) (.slice none 0 0) [] [] := HR4.out.apart (by rw [zero_cells]; omega) hch5' (fun k hk => by
      have hk' : k = D := hk
      subst hk'
      exact ⟨⟨_, _, _, HD4.out.box, by decide, by decide, by decide⟩, Or.inr ⟨_, HD4.out.box.cells.1, fun x e => by cases e⟩⟩)
    have hB5 : Below W.heap.size W w5 := hch5'.on HB4.out HB4.out.size (fun k hk => by have hk' : k = D := hk; have := HGD.out; omega)
    have hv5' : ∀ k, v5.ownBlock = some k → lo ≤ k := fun k hk => by
      rcases hv5 k hk with h | h
      · cases h
      · omega
    have hrg5 : w5.rangeAt b o (bCells l0) := (Chg.below hB5 (fun _ => False)).range HRG.out (fun e => e)
    have hrw5 := hrw w5 R lo _ _ hr5 hrg5
    have HD5 := Lib.hid hd5
    have HB5 := Lib.hid hB5
    have HV5 := Lib.hid hv5'
    clear hd5 hch5 hv5 hch5' hr5 hB5 hv5' hrg5 hrw ord
    go_wp2_with fail
    refine hrw5.mono ?_
    clear hrw5
    rintro e w6 ⟨rfl, va6, vw6, hr6, hch6⟩
    have ord := HORD.out
    have hch6' : Chg (fun k => k = R) w5 w6 := hch6.weaken (fun k _ e => by rcases e with e | e | e; exact e; cases e; cases e)
    have hd6 : DiskAt w6 D g (zeroS N) v5 ([] ++ piecesW k l0) (less (-1)) := HD5.out.chg hch6' (fun e => by have e' : D = R := e; omega) (fun e => by have e' : g = R := e; omega) (fun k hk e => by have e' : k = R := e; have := HV5.out k hk; omega)
    have hB6 : Below W.heap.size W w6 := hch6'.on HB5.out HB5.out.size (fun k hk => by have hk' : k = R := hk; omega)
    have HD6 := Lib.hid hd6
    have HR6 := Lib.hid hr6
    have HB6 := Lib.hid hB6
    clear hch6 hch6' hd6 hr6 hB6 ord hDg hlo
    by_cases hbad : x2 < 0 ∨ 1152921504606846975 < x2
    · have hl := lopen_bad D k n x2 hbad w6
      have hgp := gopen_bad R k n x2 hbad w6
      have hsm := same_true none none 0 0 0 [] [] (by omega) rfl ⟨rfl, fun i h _ => by simp at h⟩ w6 ⟨fun h => by simp at h, fun x hx => by simp at hx⟩ ⟨fun h => by simp at h, fun x hx => by simp at hx⟩
      clear hbad
      go_wp2_with fail
      refine hl.mono ?_
      clear hl
      rintro e w7 ⟨rfl, rfl⟩
      go_wp2_with fail
      refine hgp.mono ?_
      clear hgp
      rintro e w7 ⟨rfl, rfl⟩
      go_wp2_with fail
      refine hsm.mono ?_
      clear hsm
      rintro e w7 ⟨rfl, hb7⟩
      have HB7 := Lib.hid (HB6.out.trans (hb7.mono HB6.out.size))
      clear hb7
      go_wp2_with fail
      go_quiet (fail)
      go_wp2
      go_ret
      exact ⟨rfl, HB7.out.trans ⟨rfl, rfl, rfl, Nat.le_refl _, fun _ _ => rfl⟩⟩
    · obtain ⟨a, ha⟩ : ∃ a : Nat, x2 = (a : Int) := ⟨x2.toNat, by omega⟩
      rw [ha]
      have hab : a ≤ 1152921504606846975 := by omega
      have hnn := HNN.out
      have ord := HORD.out
      have hpl : (piecesW k l0).length = n := by rw [pieces_cut, List.length_mapIdx, hnn.2]
      have hop := open_any D g (zeroS N) v5 ([] ++ piecesW k l0) (less (-1)) (by decide) (by decide) (by rw [List.nil_append, hpl]; omega) k n a hnb.1 (by rw [zero_cells]; omega) (by omega) hab w6 HD6.out (by have := HGD.out; omega)
      have hz : (([] : List Nat) ++ (List.range (cutS l0).length).map (k + ·)).zip (([] : List Sec) ++ cutS l0) = [] ++ piecesW k l0 := by
        rw [List.nil_append, List.nil_append, List.nil_append, zip_mapIdx, pieces_cut]
      have hgo := fun W' (H : RA W' R lo (zeroS N) va6 vw6 ([] ++ (List.range (cutS l0).length).map (k + ·)) ([] ++ cutS l0)) => gopen_any H (by simp) (by simp; omega) HD6.out.s64 (fun s hs => by rw [List.nil_append] at hs; exact cutS_64 _ s hs) k n a hnb.1 (by omega) (by rw [zero_cells]; omega) (by rw [zero_cells]; omega) hab
      simp only [hz] at hgo
      obtain ⟨Bs, hBs⟩ : ∃ Bs, partS (doneS (zeroS N) ([] ++ piecesW k l0)) k n = Bs := ⟨_, rfl⟩
      rw [hBs] at hop
      simp only [hBs] at hgo
      clear hbad hz hBs hpl hnn ha
      go_wp2_with fail
      refine hop.mono ?_
      clear hop
      rintro e w7 ⟨P, v7, E, rfl, hP7, hO7, hd7, hch7⟩
      have hr7 : RA w7 R lo (zeroS N) va6 vw6 ([] ++ (List.range (cutS l0).length).map (k + ·)) ([] ++ cutS l0) := HR6.out.apart (by rw [zero_cells]; omega) hch7 (fun k hk => by
        have hk' : k = D := hk
        subst hk'
        exact ⟨⟨_, _, _, HD6.out.box, by decide, by decide, by decide⟩, Or.inr ⟨_, HD6.out.box.cells.1, fun x e => by cases e⟩⟩)
      have hB7 : Below W.heap.size W w7 := hch7.on HB6.out HB6.out.size (fun k hk => by have hk' : k = D := hk; have := HGD.out; omega)
      obtain ⟨pv, cv, rfl, hrow7⟩ := row_ents hO7.row (fun x hx => by
        obtain ⟨gx, h1, _, _, h4⟩ := hO7.ents x hx
        intro _
        exact ⟨gx, 0, h1, fun j u hj => by rw [Nat.zero_add, cell_in h4, List.getElem?_toArray]; exact hj⟩)
      have hgo7 := hgo w7 hr7
      have HO7 := Lib.hid hO7
      have HB7 := Lib.hid hB7
      have HROW7 := Lib.hid hrow7
      clear hgo hr7 hB7 hO7 hP7 hd7 hch7 hrow7
      obtain ⟨j, hj⟩ : ∃ j, E.length = j := ⟨_, rfl⟩
      rw [hj]
      go_wp2_with fail
      refine hgo7.mono ?_
      clear hgo7
      rintro e w8 ⟨lo8, Q, qv, F, cw, rfl, hG8, hbod⟩
      have hB8 := hG8.below
      have hEF : E.map (·.body) = F.map (·.body) := by rw [HO7.out.bodies, hbod]
      have hse := same_ents HO7.out.st hG8.st hEF
      have hFj : F.length = j := by rw [← hj]; exact hse.1.symm
      have hfit := HO7.out.fit
      have hlg : LogAt w8 P D k n (usedS (E.map (·.body))) (a + E.length) false := HO7.out.log.chg (Chg.below hB8 (fun _ => False)) (fun e => e)
      have hgg : GAt w8 Q R k n (usedS (E.map (·.body))) (a + E.length) := by rw [hEF, hse.1]; exact hG8.log
      have hrow8 := HROW7.out.on hB8
      obtain ⟨qv', cw', hqe, hrowF⟩ := row_ents hG8.row (fun x hx => by
        obtain ⟨gx, h1, _, h4⟩ := hG8.ents x hx
        intro _
        exact ⟨gx, 0, h1, h4⟩)
      cases hqe
      have hEs : E.length ≤ usedS (E.map (·.body)) := by rw [hEF, hse.1]; exact hG8.few.1
      have hsm := same_true pv qv j cv cw E F (by omega) hj.symm hse w8 hrow8 hrowF
      rw [hj] at hlg hgg
      obtain ⟨u, hu⟩ : ∃ u, usedS (E.map (·.body)) = u := ⟨_, rfl⟩
      rw [hu] at hlg hgg hfit
      rw [hFj]
      have HLG := Lib.hid hlg
      have HGG := Lib.hid hgg
      have HB8 := Lib.hid (HB7.out.trans (hB8.mono HB7.out.size))
      clear hB8 hEF hse hlg hgg hrow8 hrowF hG8 hbod hj hu hFj hEs
      go_wp2_with fail
      refine hsm.mono ?_
      clear hsm
      rintro e w9 ⟨rfl, hb9⟩
      have hl9 : LogAt w9 P D k n u (a + j) false := HLG.out.chg (Chg.below hb9 (fun _ => False)) (fun e => e)
      have hg9 : GAt w9 Q R k n u (a + j) := (Chg.below hb9 (fun _ => False)).box HGG.out (fun e => e)
      obtain ⟨kq3, kq4⟩ := hg9.cells
      have hla := fun nq => (last_any P D k n u (a + j) false (w9.drewN nq) (by exact hl9)).mono (fun _ _ h => (⟨h.1, h.2.symm⟩ : _ ∧ _))
      have hrm := fun nq => room_q P D k n u (a + j) false hfit (by omega) (w9.drewN nq) (by exact hl9)
      obtain ⟨lj, hlj⟩ : ∃ lj, a + j = lj := ⟨_, rfl⟩
      obtain ⟨m, hm⟩ : ∃ m, n - u = m := ⟨_, rfl⟩
      rw [hlj] at hla kq4
      rw [hm] at hrm
      have w1' : (n : Int) - (u : Int) = (m : Int) := by omega
      have w2' : IntKind.i64.wrap (m : Int) = (m : Int) := by rw [IntKind.wrap_i64]; omega
      have w3' : IntKind.i64.wrap ((m : Int) - 1) = (m : Int) - 1 := by rw [IntKind.wrap_i64]; omega
      have w4' : IntKind.i64.wrap (63 * ((m : Int) - 1)) = 63 * ((m : Int) - 1) := by rw [IntKind.wrap_i64]; omega
      have HB9 := Lib.hid (HB8.out.trans (hb9.mono HB8.out.size))
      clear hb9 hl9 hg9 hlj hm
      go_wp2_with fail
      go_quiet (first | (go_at_call 16; exact Calls.quiet_of_same (hla _)) | (go_at_call 17; exact Calls.quiet_of (hrm _)) | fail)
      go_wp2
      go_ret
      exact ⟨rfl, HB9.out.trans ⟨rfl, rfl, rfl, Nat.le_refl _, fun _ _ => rfl⟩⟩
end Go.Proofs.Ytgcifhhbhoafcaa
