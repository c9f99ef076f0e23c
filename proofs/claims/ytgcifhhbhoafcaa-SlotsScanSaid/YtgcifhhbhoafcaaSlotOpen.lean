/-
  Slots: their record; Open, Generation, Room.
-/
import Derived.Test.YtgcifhhbhoafcaaSlotCur
namespace Go.Proofs.Ytgcifhhbhoafcaa
open Go.RowKit Go.Shelf
attribute [local go_sem] Oper.semAt_some

/-- The record of slots. -/
def slC (D f m g : Nat) (off : Bool) : Array Value := #[.pointer (some ⟨D, 0, none⟩), .int .i64 f, .int .i64 m, .int .i64 g, .bool off]
def SlAt (w : World) (P D f m g : Nat) (off : Bool) : Prop := w.heap[P]? = some (.cells (slC D f m g off) 97 (0, 0))
theorem SlAt.cells {w : World} {P D f m g : Nat} {off : Bool} (H : SlAt w P D f m g off) : w.cell? ⟨P, 0, none⟩ = some (.pointer (some ⟨D, 0, none⟩)) ∧ w.cell? ⟨P, 1, none⟩ = some (.int .i64 f) ∧ w.cell? ⟨P, 2, none⟩ = some (.int .i64 m) ∧ w.cell? ⟨P, 3, none⟩ = some (.int .i64 g) ∧ w.cell? ⟨P, 4, none⟩ = some (.bool off) := by
  refine ⟨?_, ?_, ?_, ?_, ?_⟩ <;> (rw [cell_in H]; rfl)
theorem SlAt.lt {w : World} {P D f m g : Nat} {off : Bool} (H : SlAt w P D f m g off) : P < w.heap.size := (Array.getElem?_eq_some_iff.1 H).1
theorem SlAt.chg {w w' : World} {P D f m g : Nat} {off : Bool} (H : SlAt w P D f m g off) {ex : Nat → Prop} (hc : Chg ex w w') (hn : ¬ ex P) : SlAt w' P D f m g off := hc.box H hn
theorem sl_set3 {w : World} {P D f m g : Nat} {off : Bool} (H : SlAt w P D f m g off) (g' : Nat) : SlAt (w.setCell ⟨P, 3, none⟩ (.int .i64 g')) P D f m g' off := by
  unfold SlAt at H ⊢
  rw [setCell_eq_setRow w P _ _ _ _ _ H, setRow_heap w P _ _ _ _ H]
  rfl
theorem sl_set4 {w : World} {P D f m g : Nat} {off : Bool} (H : SlAt w P D f m g off) (b : Bool) : SlAt (w.setCell ⟨P, 4, none⟩ (.bool b)) P D f m g b := by
  unfold SlAt at H ⊢
  rw [setCell_eq_setRow w P _ _ _ _ _ H, setRow_heap w P _ _ _ _ H]
  rfl
theorem sgen_any (P D f m g : Nat) (off : Bool) (w : World) (H : SlAt w P D f m g off) :
    Calls Try.prog 22 #[.pointer (some ⟨P, 0, none⟩)] w fun e w' => e = .returned (.int .i64 g) ∧ w = w' := by
  obtain ⟨k0, k1, k2, k3, k4⟩ := H.cells
  clear H
  go_enter Try.func22, Try.ntmps22
  go_wp2
  go_ret
  exact ⟨rfl, rfl⟩
theorem sroomp_any (P D f m g : Nat) (off : Bool) (h1 : 1 ≤ m) (h2 : m ≤ 100000) (w : World) (H : SlAt w P D f m g off) :
    Calls Try.prog 23 #[.pointer (some ⟨P, 0, none⟩)] w fun e w' => e = .returned (.int .i64 (roomS m)) ∧ w = w' := by
  obtain ⟨k0, k1, k2, k3, k4⟩ := H.cells
  have hr := sroom_any m h1 h2 w
  clear H
  go_enter Try.func23, Try.ntmps23
  go_wp2_with fail
  refine hr.mono ?_
  rintro e w1 ⟨rfl, rfl⟩
  go_wp2
  go_ret
  exact ⟨rfl, rfl⟩
theorem results_open {fn : Func} {t u v x : Tmp} {ty : TypeId} (h : fn.results = #[.tmp t, .cell u ty, .tmp v, .tmp x]) (tmps : Array Value) (P : Program) (w : World) (ad : Addr) (y : Value) (ha : tmps.getD u undef = .pointer (some ad)) (hl : (loadVar ty ad).run P w = .ok y w) : (results fn tmps).run P w = .ok (.tuple #[tmps.getD t undef, y, tmps.getD v undef, tmps.getD x undef]) w := by
  simp only [Array.getD_eq_getD_getElem?] at ha
  simp [results, h, ha, hl, asAddr]
theorem size_ent : (Try.prog.info? 48).map (·.size) = some 2 := by kernel_rfl
theorem set2s_heap {w : World} {b : Nat} {z0 z1 : Value} {T : TypeId} (hb : w.heap[b]? = some (.cells #[z0, z1] T (0, 0))) (v0 v1 : Value) : ((w.setCell ⟨b, 0, none⟩ v0).setCell ⟨b, 1, none⟩ v1).heap[b]? = some (.cells #[v0, v1] T (0, 0)) := by
  have h1 : (w.setCell ⟨b, 0, none⟩ v0).heap[b]? = some (.cells #[v0, z1] T (0, 0)) := by
    rw [setCell_eq_setRow w _ _ _ _ _ _ hb, setRow_heap w _ _ _ _ _ hb]
    rfl
  rw [setCell_eq_setRow _ _ _ _ _ _ _ h1, setRow_heap _ _ _ _ _ _ h1]
  rfl
theorem load2 {w : World} {b : Nat} {v0 v1 : Value} (h : w.heap[b]? = some (.cells #[v0, v1] 48 (0, 0))) : (loadVar 48 ⟨b, 0, none⟩).run Try.prog w = .ok (.agg #[v0, v1]) w := by
  have hr : w.rangeAt b 0 [v0, v1] := fun j u hj => by
    rw [Nat.zero_add, cell_in h, ← hj]
    exact List.getElem?_toArray ..
  exact run_loadVar_mid (P := Try.prog) w b 0 48 [v0, v1] _ hr Try.underlying48 rfl size_ent
/-- The entry of a checkpoint, as a value. -/
def entB (b : Option Ck) (q : Option Addr) (cap : Nat) : Array Value := #[.int .i64 (stOf b : Nat), .slice q (bodyOf b).length cap]

set_option maxRecDepth 20000 in
set_option maxHeartbeats 4000000 in
theorem sopen_any (D g : Nat) (S : List Sec) (v0 : Value) (ws : List Wq) (c : Int) (hl : -9223372036854775808 ≤ c ∧ c ≤ 9223372036854775807) (hcz : c ≠ 0) (hws : ws.length ≤ 1000000) (f m : Nat) (hm1 : 1 ≤ m) (hfm : f + 2 * m ≤ S.length) (w : World) (H : DiskAt w D g S v0 ws c) (hDg : D ≠ g) :
    Calls Try.prog 19 #[.pointer (some ⟨D, 0, none⟩), .int .i64 f, .int .i64 m] w fun e w' => ∃ P q cq, e = .returned (.tuple #[.pointer (some ⟨P, 0, none⟩), .agg (entB (cur m (partS (doneS S ws) f (2 * m))) q cq), .bool (cur m (partS (doneS S ws) f (2 * m))).isSome, .int .i64 0]) ∧ w.heap.size ≤ P ∧ SlAt w' P D f m (genOf (cur m (partS (doneS S ws) f (2 * m)))) false ∧ Held w.heap.size w' (cur m (partS (doneS S ws) f (2 * m))) q cq ∧ DiskAt w' D g S v0 ws (less c) ∧ Chg (fun k => k = D) w w' := by
  have hNf := H.few
  have hplen : (partS (doneS S ws) f (2 * m)).length = 2 * m := partS_len (by rw [doneS_len]; exact hfm)
  have hp64 : ∀ s ∈ partS (doneS S ws) f (2 * m), s.length = 64 := partS_64 (doneS_64 H.s64 (fun x hx => (H.a64 x hx).2))
  have hvb : ∀ k, v0.ownBlock = some k → k < w.heap.size := fun k hk => (H.row.lt k hk).2
  have hDl : D < w.heap.size := (Array.getElem?_eq_some_iff.1 H.box).1
  have hgl : g < w.heap.size := (Array.getElem?_eq_some_iff.1 H.dur).1
  have hrd := read_any D g S v0 ws c hl hcz hws f (2 * m) (by omega) hfm
  have hsc := scurrent_any
  obtain ⟨Bs, hBs⟩ : ∃ Bs, partS (doneS S ws) f (2 * m) = Bs := ⟨_, rfl⟩
  rw [hBs] at hrd hplen hp64 ⊢
  have hcu := fun R w => hsc R m Bs hplen hm1 (by omega) hp64 w
  obtain ⟨cu, hcu0⟩ : ∃ cu, cur m Bs = cu := ⟨_, rfl⟩
  rw [hcu0] at hcu ⊢
  have HCU := Lib.hid hcu
  obtain ⟨N, hN⟩ : ∃ N, N = 2 * m := ⟨_, rfl⟩
  have hNi : (2 : Int) * (m : Int) = (N : Int) := by omega
  rw [← hN] at HCU hrd
  have d1 : decide ((m : Int) < 1) = false := decide_eq_false (by omega)
  have d2 : decide ((65536 : Int) < (m : Int)) = false := decide_eq_false (by omega)
  have d2' : decide (65536 < m) = false := decide_eq_false (by omega)
  have hmb : m ≤ 65536 := by omega
  have hA0 := heap_new w (.cells #[.int .i64 0, .slice none 0 0] 48)
  have hbA : Below w.heap.size w (w.alloc (.cells #[.int .i64 0, .slice none 0 0] 48)) := bA (Below.refl _ _) _
  have hrd2 := hrd (w.alloc (.cells #[.int .i64 0, .slice none 0 0] 48)) (H.on hbA) hDg
  obtain ⟨X, hX⟩ : ∃ X, w.heap.size = X := ⟨_, rfl⟩
  have HX := Lib.hid hX
  have HBA := Lib.hid hbA
  rw [hX] at hA0
  have HA0 := Lib.hid hA0
  have HVB := Lib.hid hvb
  clear H hBs hplen hp64 hrd hsc hcu hcu0 hN hA0 hbA hX hvb hfm
  go_enter Try.func19, Try.ntmps19
  go_wp2_with fail
  refine hrd2.mono ?_
  clear hrd2
  rintro e w1 ⟨R, rfl, hR, hRl, hd1, hc1⟩
  have hXne : X ≠ D := by have := HX.out; omega
  have hA1 := hc1.box HA0.out hXne
  have hcu := HCU.out R w1 hR
  have HA1 := Lib.hid hA1
  have HD1 := Lib.hid hd1
  have HC1 := Lib.hid hc1
  clear hR hd1 hc1 hA1
  go_wp2_with fail
  refine hcu.mono ?_
  rintro e w2 ⟨q, cq, rfl, hb2, hh2⟩
  have hc2 := Chg.below hb2 (fun _ => False)
  have HA2 := Lib.hid (hc2.box HA1.out (fun e => e))
  have HD2 := Lib.hid (HD1.out.on hb2)
  have HB2 := Lib.hid hb2
  have HH2 := Lib.hid hh2
  clear hb2 hh2 hc2 hcu
  obtain ⟨g0, hg0⟩ : ∃ g0, genOf cu = g0 := ⟨_, rfl⟩
  obtain ⟨t0, ht0⟩ : ∃ t0, stOf cu = t0 := ⟨_, rfl⟩
  obtain ⟨l0, hl0⟩ : ∃ l0, (bodyOf cu).length = l0 := ⟨_, rfl⟩
  obtain ⟨ok, hok⟩ : ∃ ok, cu.isSome = ok := ⟨_, rfl⟩
  have HENT := Lib.hid (show #[Value.int .i64 (t0 : Int), .slice q l0 cq] = entB cu q cq by unfold entB; rw [ht0, hl0])
  have HG0 := Lib.hid hg0
  have HOK := Lib.hid hok
  unfold encB
  rw [hg0, ht0, hl0, hok]
  clear hg0 ht0 hl0 hok
  go_wp2_with fail
  obtain ⟨w3, hw3⟩ : ∃ w3, w2.alloc (.cells #[.int .i64 (g0 : Int), .int .i64 (t0 : Int), .slice q l0 cq] 93) = w3 := ⟨_, rfl⟩
  have hK3 : w3.heap[w2.heap.size]? = some (.cells #[.int .i64 (g0 : Int), .int .i64 (t0 : Int), .slice q l0 cq] 93 (0, 0)) := by rw [← hw3]; exact heap_new w2 _
  have hb3 : Below w2.heap.size w2 w3 := by rw [← hw3]; exact bA (Below.refl _ _) _
  rw [hw3, HX.out]
  clear hw3
  obtain ⟨KB, hK⟩ : ∃ KB, w2.heap.size = KB := ⟨_, rfl⟩
  have hK2 := hK3
  rw [hK] at hK2 ⊢
  have HK := Lib.hid hK
  have HK3 := Lib.hid hK2
  have HB3 := Lib.hid hb3
  obtain ⟨w4, hw4⟩ : ∃ w4, (w3.alloc (.cells #[.pointer (some ⟨D, 0, none⟩), .int .i64 (f : Int), .int .i64 (m : Int), .int .i64 (g0 : Int), .bool false] 97)).drew = w4 := ⟨_, rfl⟩
  have hb4 : Below w3.heap.size w3 w4 := by rw [← hw4]; exact bD (bA (Below.refl _ _) _)
  have hP4 : w4.heap[w3.heap.size]? = some (.cells #[.pointer (some ⟨D, 0, none⟩), .int .i64 (f : Int), .int .i64 (m : Int), .int .i64 (g0 : Int), .bool false] 97 (0, 0)) := by rw [← hw4]; exact heap_new w3 _
  have hc4 := Chg.below hb4 (fun _ => False)
  have hc3 := Chg.below hb3 (fun _ => False)
  have hK4 := hc4.box hK2 (fun e => e)
  have hX4 := hc4.box (hc3.box HA2.out (fun e => e)) (fun e => e)
  have kx0 : w4.cell? ⟨X, 0, none⟩ = some (.int .i64 0) := by rw [cell_in hX4]; rfl
  have kx1 : w4.cell? ⟨X, 1, none⟩ = some (.slice none 0 0) := by rw [cell_in hX4]; rfl
  have fx0 := frozen_in hX4 0
  have fx1 := frozen_in hX4 1
  have hX5 := set2s_heap hX4 (.int .i64 (t0 : Int)) (.slice q l0 cq)
  have hc5 : Chg (fun k => k = X) w4 ((w4.setCell ⟨X, 0, none⟩ (.int .i64 (t0 : Int))).setCell ⟨X, 1, none⟩ (.slice q l0 cq)) := (Chg.setCell w4 ⟨X, 0, none⟩ _).trans (Chg.setCell _ ⟨X, 1, none⟩ _)
  obtain ⟨P, hP⟩ : ∃ P, w3.heap.size = P := ⟨_, rfl⟩
  have HP := Lib.hid hP
  have HP4 := Lib.hid hP4
  have HW4 := Lib.hid hw4
  have HB4 := Lib.hid hb4
  have HK4 := Lib.hid hK4
  have HX4 := Lib.hid hX4
  have HX5 := Lib.hid hX5
  have HC5 := Lib.hid hc5
  have k30 : w3.cell? ⟨KB, 0, none⟩ = some (.int .i64 (g0 : Int)) := by rw [cell_in hK2]; rfl
  have k31 : w3.cell? ⟨KB, 1, none⟩ = some (.int .i64 (t0 : Int)) := by rw [cell_in hK2]; rfl
  have k32 : w3.cell? ⟨KB, 2, none⟩ = some (.slice q l0 cq) := by rw [cell_in hK2]; rfl
  clear hw4 hb4 hc4 hc3 hK4 hX4 hK2 hK3 hb3 hK hP hP4 hX5 hc5
  refine wp_region_noPanic ?_
  refine wp_region_held_drew (S := fun W => W.cell? ⟨KB, 0, none⟩ = some (.int .i64 (g0 : Int)) ∧ W.cell? ⟨KB, 1, none⟩ = some (.int .i64 (t0 : Int)) ∧ W.cell? ⟨KB, 2, none⟩ = some (.slice q l0 cq)) (by kernel_rfl) (⟨k30, k31, k32⟩) (fun hHeld => ?_)
  refine wpAnyH_take (i := 0) (v := ?_) rfl (by kernel_rfl) (by kernel_rfl) (by kernel_rfl) (fun _ _ _ h => h) (Or.inl ⟨by rfl, ?_⟩) (by assumption) ?_
  rotate_left
  · (intro w hSw; (try dsimp only at hSw); go_simp; try (with_reducible rfl))
  try simp only [Act.put, List.setIfInBounds_toArray, List.set_cons_zero, List.set_cons_succ, List.getElem_toArray, List.getElem_cons_zero]
  refine wpAnyH_take (i := 1) (v := ?_) rfl (by kernel_rfl) (by kernel_rfl) (by kernel_rfl) (fun _ _ _ h => h) (Or.inl ⟨by rfl, ?_⟩) (by assumption) ?_
  rotate_left
  · (intro w hSw; (try dsimp only at hSw); go_simp; try (with_reducible rfl))
  try simp only [Act.put, List.setIfInBounds_toArray, List.set_cons_zero, List.set_cons_succ, List.getElem_toArray, List.getElem_cons_zero, List.getElem_cons_succ]
  refine wpAnyH_take (i := 2) (v := ?_) rfl (by kernel_rfl) (by kernel_rfl) (by kernel_rfl) (fun _ _ _ h => h) (Or.inl ⟨by rfl, ?_⟩) (by assumption) ?_
  rotate_left
  · (intro w hSw; (try dsimp only at hSw); go_simp; try (with_reducible rfl))
  try simp only [Act.put, List.setIfInBounds_toArray, List.set_cons_zero, List.set_cons_succ, List.getElem_toArray, List.getElem_cons_zero, List.getElem_cons_succ]
  refine wpAnyH_take (i := 3) (v := ?_) rfl (by kernel_rfl) (by kernel_rfl) (by kernel_rfl) (fun _ _ _ h => h) (Or.inl ⟨by rfl, ?_⟩) (by assumption) ?_
  rotate_left
  · (intro w hSw; (try dsimp only at hSw); go_simp; try (with_reducible rfl))
  try simp only [Act.put, List.setIfInBounds_toArray, List.set_cons_zero, List.set_cons_succ, List.getElem_toArray, List.getElem_cons_zero, List.getElem_cons_succ]
  refine wpAnyH_take (i := 4) (v := ?_) rfl (by kernel_rfl) (by kernel_rfl) (by kernel_rfl) (fun _ _ _ h => h) (Or.inl ⟨by rfl, ?_⟩) (by assumption) ?_
  rotate_left
  · (intro w hSw; (try dsimp only at hSw); go_simp; try (with_reducible rfl))
  try simp only [Act.put, List.setIfInBounds_toArray, List.set_cons_zero, List.set_cons_succ, List.getElem_toArray, List.getElem_cons_zero, List.getElem_cons_succ]
  refine wpAnyH_take (i := 5) (v := ?_) rfl (by kernel_rfl) (by kernel_rfl) (by kernel_rfl) (fun _ _ _ h => h) (Or.inl ⟨by rfl, ?_⟩) (by assumption) ?_
  rotate_left
  · (intro w hSw; (try dsimp only at hSw); go_simp; try (with_reducible rfl))
  try simp only [Act.put, List.setIfInBounds_toArray, List.set_cons_zero, List.set_cons_succ, List.getElem_toArray, List.getElem_cons_zero, List.getElem_cons_succ]
  refine wpAnyH_take (i := 7) (v := ?_) rfl (by kernel_rfl) (by kernel_rfl) (by kernel_rfl) (fun _ _ _ h => h) (Or.inl ⟨by rfl, ?_⟩) (by assumption) ?_
  rotate_left
  · (intro w hSw; (try dsimp only at hSw); go_simp; try (with_reducible rfl))
  try simp only [Act.put, List.setIfInBounds_toArray, List.set_cons_zero, List.set_cons_succ, List.getElem_toArray, List.getElem_cons_zero, List.getElem_cons_succ]
  refine wpAnyH_take (i := 8) (v := ?_) rfl (by kernel_rfl) (by kernel_rfl) (by kernel_rfl) (fun _ _ _ h => h) (Or.inl ⟨by rfl, ?_⟩) (by assumption) ?_
  rotate_left
  · (intro w hSw; (try dsimp only at hSw); go_simp; try (with_reducible rfl))
  try simp only [Act.put, List.setIfInBounds_toArray, List.set_cons_zero, List.set_cons_succ, List.getElem_toArray, List.getElem_cons_zero, List.getElem_cons_succ]
  refine wpAnyH_take (i := 9) (v := ?_) rfl (by kernel_rfl) (by kernel_rfl) (by kernel_rfl) (fun _ _ _ h => h) (Or.inl ⟨by rfl, ?_⟩) (by assumption) ?_
  rotate_left
  · (intro w hSw; (try dsimp only at hSw); go_simp; try (with_reducible rfl))
  try simp only [Act.put, List.setIfInBounds_toArray, List.set_cons_zero, List.set_cons_succ, List.getElem_toArray, List.getElem_cons_zero, List.getElem_cons_succ]
  refine wpAnyH_ready (rs := [6]) (by kernel_rfl) (by simp) ?_
  refine AllReadyH.cons rfl (fun K hK => ?_) AllReadyH.nil
  go_simp
  rw [HW4.out]
  refine hK.out _ _ ((by exact ⟨by rw [cell_in HK4.out]; rfl, by rw [cell_in HK4.out]; rfl, by rw [cell_in HK4.out]; rfl⟩)) (fun hHeld2 => ?_)
  clear hK K hHeld
  have hHeld := hHeld2
  clear hHeld2
  try simp only [Act.put, List.setIfInBounds_toArray, List.set_cons_zero, List.set_cons_succ, List.getElem_toArray, List.getElem_cons_zero, List.getElem_cons_succ]
  refine wpAnyH_take (i := 10) (v := ?_) rfl (by kernel_rfl) (by kernel_rfl) (by kernel_rfl) (fun _ _ _ h => h) (Or.inl ⟨by rfl, ?_⟩) (by assumption) ?_
  rotate_left
  · (intro w hSw; (try dsimp only at hSw); go_simp; try (with_reducible rfl))
  try simp only [Act.put, List.setIfInBounds_toArray, List.set_cons_zero, List.set_cons_succ, List.getElem_toArray, List.getElem_cons_zero, List.getElem_cons_succ]
  refine wpAnyH_ready (rs := [11]) (by kernel_rfl) (by simp) ?_
  refine AllReadyH.cons rfl (fun K hK => ?_) AllReadyH.nil
  go_simp
  refine hK.out _ _ ((by have h1 := HC5.out.box HK4.out (by have := (Array.getElem?_eq_some_iff.1 HA2.out).1; have := HK.out; omega); exact ⟨by rw [cell_in h1]; rfl, by rw [cell_in h1]; rfl, by rw [cell_in h1]; rfl⟩)) (fun hHeld2 => ?_)
  clear hK K hHeld
  have hHeld := hHeld2
  clear hHeld2
  try simp only [Act.put, List.setIfInBounds_toArray, List.set_cons_zero, List.set_cons_succ, List.getElem_toArray, List.getElem_cons_zero, List.getElem_cons_succ]
  refine wpAnyH_ready (rs := [12]) (by kernel_rfl) (by simp) ?_
  refine AllReadyH.cons rfl (fun K hK => ?_) AllReadyH.nil
  go_simp
  refine hK.out _ _ (hHeld) (fun hHeld2 => ?_)
  clear hK K hHeld
  have hHeld := hHeld2
  clear hHeld2
  try simp only [Act.put, List.setIfInBounds_toArray, List.set_cons_zero, List.set_cons_succ, List.getElem_toArray, List.getElem_cons_zero, List.getElem_cons_succ]
  refine wpAnyH_ready (rs := [13]) (by kernel_rfl) (by simp) ?_
  refine AllReadyH.cons rfl (fun K hK => ?_) AllReadyH.nil
  go_simp
  refine hK.out _ _ (hHeld) (fun hHeld2 => ?_)
  clear hK K hHeld
  have hHeld := hHeld2
  clear hHeld2
  try simp only [Act.put, List.setIfInBounds_toArray, List.set_cons_zero, List.set_cons_succ, List.getElem_toArray, List.getElem_cons_zero, List.getElem_cons_succ]
  refine wpAnyH_done (by kernel_rfl) ?_ _
  refine NoPanic.normal ?_
  clear hHeld
  go_wp2
  refine bodyPost_ret (results_open rfl _ _ _ ⟨X, 0, none⟩ _ rfl (load2 HX5.out)) rfl ?_
  have hPX : P ≠ X := by
    have := (Array.getElem?_eq_some_iff.1 HA2.out).1
    have := HP.out
    have := HB3.out.size
    omega
  have hch : Chg (fun k => k = D) (w.alloc (.cells #[.int .i64 0, .slice none 0 0] 48)) w4 := (HC1.out.trans (Chg.below HB2.out _)).trans ((Chg.below HB3.out _).trans (Chg.below HB4.out _))
  have hs1 := HC1.out.size
  have hsa : (w.alloc (.cells #[.int .i64 0, .slice none 0 0] 48)).heap.size = w.heap.size + 1 := by simp
  have hs2 := HB2.out.size
  have hs3 := HB3.out.size
  have hx := HX.out
  refine ⟨w3.heap.size, q, cq, by rw [← HENT.out, HOK.out]; rfl, by omega, by rw [HG0.out]; exact HC5.out.box HP4.out (by rw [HP.out]; exact hPX), ?_, ?_, ?_⟩
  · exact (((HH2.out.low (by omega)).on HB3.out).on HB4.out).apart HC5.out HX4.out (by decide)
  · exact ((HD2.out.on HB3.out).on HB4.out).chg HC5.out (fun e => by have e' : D = X := e; omega) (fun e => by have e' : g = X := e; omega) (fun k hk e => by have e' : k = X := e; have := HVB.out k hk; omega)
  · exact ((Chg.alloc (fun k => k = D) w _).trans hch).trans2 HC5.out (fun k hk e => by have e' : k = X := e; omega)
end Go.Proofs.Ytgcifhhbhoafcaa
