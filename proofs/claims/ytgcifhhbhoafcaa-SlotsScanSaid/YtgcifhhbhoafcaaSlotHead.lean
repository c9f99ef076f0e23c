/-
  A header of a checkpoint.
-/
import Derived.Test.YtgcifhhbhoafcaaSlotNum
namespace Go.Proofs.Ytgcifhhbhoafcaa
open Go.RowKit Go.Shelf
attribute [local go_sem] Oper.semAt_some

theorem sh_1 (a : List Value) : ((Value.int .u8 83 :: List.replicate 63 (Value.int .u8 0)).take 1 ++ a ++ (Value.int .u8 83 :: List.replicate 63 (Value.int .u8 0)).drop (1 + 8)) = Value.int .u8 83 :: (a ++ List.replicate 55 (Value.int .u8 0)) := by simp
theorem sh_2 (a b : List Value) (ha : a.length = 8) : ((Value.int .u8 83 :: (a ++ List.replicate 55 (Value.int .u8 0))).take 9 ++ b ++ (Value.int .u8 83 :: (a ++ List.replicate 55 (Value.int .u8 0))).drop (9 + 8)) = Value.int .u8 83 :: (a ++ b ++ List.replicate 47 (Value.int .u8 0)) := by
  rw [List.take_succ_cons, List.take_append_of_le_length (by omega), List.take_of_length_le (by omega), List.drop_succ_cons, List.drop_append, List.drop_eq_nil_of_le (by omega), ha, List.drop_replicate]
  simp
theorem sh_3 (a b c : List Value) (ha : a.length = 8) (hb : b.length = 8) : ((Value.int .u8 83 :: (a ++ b ++ List.replicate 47 (Value.int .u8 0))).take 17 ++ c ++ (Value.int .u8 83 :: (a ++ b ++ List.replicate 47 (Value.int .u8 0))).drop (17 + 4)) = Value.int .u8 83 :: (a ++ b ++ c ++ List.replicate 43 (Value.int .u8 0)) := by
  rw [List.take_succ_cons, List.take_append_of_le_length (by rw [List.length_append]; omega), List.take_of_length_le (by rw [List.length_append]; omega), List.drop_succ_cons, List.drop_append, List.drop_eq_nil_of_le (by rw [List.length_append]; omega), List.length_append, ha, hb, List.drop_replicate]
  simp
theorem sh_4 (a b c d : List Value) (ha : a.length = 8) (hb : b.length = 8) (hc : c.length = 4) : ((Value.int .u8 83 :: (a ++ b ++ c ++ List.replicate 43 (Value.int .u8 0))).take 21 ++ d ++ (Value.int .u8 83 :: (a ++ b ++ c ++ List.replicate 43 (Value.int .u8 0))).drop (21 + 4)) = Value.int .u8 83 :: (a ++ b ++ c ++ d ++ List.replicate 39 (Value.int .u8 0)) := by
  rw [List.take_succ_cons, List.take_append_of_le_length (by rw [List.length_append, List.length_append]; omega), List.take_of_length_le (by rw [List.length_append, List.length_append]; omega), List.drop_succ_cons, List.drop_append, List.drop_eq_nil_of_le (by rw [List.length_append, List.length_append]; omega), List.length_append, List.length_append, ha, hb, hc, List.drop_replicate]
  simp
theorem sh_cells (g st : Nat) (body : List UInt8) : Value.int .u8 83 :: (bCells (be 8 g) ++ bCells (be 8 st) ++ bCells (be 4 body.length) ++ bCells (be 4 (crcB body)) ++ List.replicate 39 (Value.int .u8 0)) = bCells (hdrS g st body) := by
  simp [hdrS, bCells]
theorem results_cell1 {fn : Func} {t : Tmp} {ty : TypeId} (h : fn.results = #[.cell t ty]) (tmps : Array Value) (P : Program) (w : World) (ad : Addr) (v : Value) (ha : tmps.getD t undef = .pointer (some ad)) (hl : (loadVar ty ad).run P w = .ok v w) : (results fn tmps).run P w = .ok v w := by
  simp only [Array.getD_eq_getD_getElem?] at ha
  simp [results, h, ha, hl, asAddr]
theorem results_cell_tmp {fn : Func} {t u : Tmp} {ty : TypeId} (h : fn.results = #[.cell t ty, .tmp u]) (tmps : Array Value) (P : Program) (w : World) (ad : Addr) (v : Value) (ha : tmps.getD t undef = .pointer (some ad)) (hl : (loadVar ty ad).run P w = .ok v w) : (results fn tmps).run P w = .ok (.tuple #[v, tmps.getD u undef]) w := by
  simp only [Array.getD_eq_getD_getElem?] at ha
  simp [results, h, ha, hl, asAddr]
theorem zero_sc : ∀ w, (zeroValue 115).run Try.prog w = .ok (.agg (List.replicate 64 (Value.int .u8 0)).toArray) w := fun w => by kernel_rfl
theorem size_sc : (Try.prog.info? 115).map (·.size) = some 64 := by kernel_rfl

set_option maxRecDepth 20000 in
set_option maxHeartbeats 2000000 in
theorem sheader_any (g st : Nat) (p : Option Addr) (c : Nat) (body : List UInt8) (hbl : body.length ≤ 1048576) (w : World) (hb : InAt w p body) :
    Calls Try.prog 60 #[.agg #[.int .i64 g, .int .i64 st, .slice p body.length c]] w fun e w' => e = .returned (.agg (bCells (hdrS g st body)).toArray) ∧ Below w.heap.size w w' := by
  have HBY := Lib.hid hb
  have HCR := Lib.hid (show Crc.crc (octs body) = crcB body from rfl)
  have HCRL := Lib.hid (crcB_lt body)
  have HHD := Lib.hid (sh_cells g st body)
  have hoc := octs_len body
  have HOC := Lib.hid hoc
  obtain ⟨L, hL⟩ : ∃ L, L = body.length := ⟨_, rfl⟩
  have HLE := Lib.hid hL
  rw [← hL] at hbl HHD HOC ⊢
  have hlen := hdrS_len g st body
  obtain ⟨Hd, hHd⟩ : ∃ Hd, Hd = hdrS g st body := ⟨_, rfl⟩
  rw [← hHd] at HHD hlen ⊢
  have HLEN := Lib.hid (show (bCells Hd).length = 64 by rw [bCells_len]; exact hlen)
  clear hHd hlen
  obtain ⟨Z, hZ⟩ : ∃ Z, Z = (List.replicate 64 (Value.int .u8 0)).toArray := ⟨_, rfl⟩
  have hz := zero_sc
  have HZ := Lib.hid hZ
  rw [← hZ] at hz
  obtain ⟨X, hX⟩ : ∃ X, X = w.heap.size := ⟨_, rfl⟩
  obtain ⟨w1, hw1⟩ : ∃ w1, ((w.alloc (.cells #[.int .i64 g, .int .i64 st, .slice p L c] 93)).alloc (.cells Z 115)).alloc (.cells Z 115) = w1 := ⟨_, rfl⟩
  have hX1 : w1.heap[X]? = some (.cells #[.int .i64 g, .int .i64 st, .slice p L c] 93 (0, 0)) := by
    rw [← hw1, hX]
    rw [Below.heap_alloc _ _ _ (by simp; omega), Below.heap_alloc _ _ _ (by simp)]
    exact heap_new w _
  have hR1 : w1.heap[X + 1]? = some (.cells Z 115 (0, 0)) := by
    rw [← hw1, hX, Below.heap_alloc _ _ _ (by simp)]
    have := heap_new (w.alloc (.cells #[.int .i64 g, .int .i64 st, .slice p L c] 93)) (.cells Z 115)
    simpa using this
  have hB1 : w1.heap[X + 1 + 1]? = some (.cells Z 115 (0, 0)) := by
    rw [← hw1, hX]
    have := heap_new ((w.alloc (.cells #[.int .i64 g, .int .i64 st, .slice p L c] 93)).alloc (.cells Z 115)) (.cells Z 115)
    simpa using this
  have hb1 : Below w.heap.size w w1 := by rw [← hw1]; exact bA (bA (bA (Below.refl _ _) _) _) _
  have kc : w1.cell? ⟨X + 1 + 1, 0, none⟩ = some (.int .u8 0) := by rw [cell_in hB1, hZ]; rfl
  have kf := frozen_in hB1 0
  obtain ⟨w2, hw2⟩ : ∃ w2, w1.setCell ⟨X + 1 + 1, 0, none⟩ (.int .u8 83) = w2 := ⟨_, rfl⟩
  have hB2 : w2.heap[X + 1 + 1]? = some (.cells (Value.int .u8 83 :: List.replicate 63 (Value.int .u8 0)).toArray 115 (0, 0)) := by
    rw [← hw2, setCell_eq_setRow w1 _ _ _ _ _ _ hB1, setRow_heap w1 _ _ _ _ _ hB1, hZ]
    rfl
  have hc2 : Chg (fun k => k = X + 1 + 1) w1 w2 := by rw [← hw2]; exact Chg.setCell w1 ⟨X + 1 + 1, 0, none⟩ _
  have hX2 := hc2.box hX1 (by omega)
  have hR2 := hc2.box hR1 (by omega)
  have hb2 : Below w.heap.size w w2 := hc2.on hb1 hb1.size (fun k e => by rw [e, hX]; omega)
  have hs2 : X + 1 + 1 + 1 = w2.heap.size := by
    rw [← hw2, show (w1.setCell ⟨X + 1 + 1, 0, none⟩ (.int .u8 83)).heap.size = w1.heap.size by simp [World.setCell], ← hw1, hX]
    simp
  have HBw2 := Lib.hid hB2
  have HXw2 := Lib.hid hX2
  have HRw2 := Lib.hid hR2
  have HWw2 := Lib.hid hb2
  have HS2 := Lib.hid hs2
  have HX := Lib.hid hX
  obtain ⟨B, hBE⟩ : ∃ B, B = X + 1 + 1 := ⟨_, rfl⟩
  have HBE := Lib.hid hBE
  rw [← hBE] at HBw2
  clear hb hB1 hB2 hb1 hb2 hL hoc hX1 hR1 hX2 hR2 hc2 hs2 hZ hBE
  rw [hX] at kc kf hw2
  go_enter Try.func60, Try.ntmps60
  go_wp2
  rw [← HX.out, ← HBE.out]
  clear kc kf hw2 hw1 hz hX
  have kx3 : w2.cell? ⟨X, 0, none⟩ = some (.int .i64 g) := by rw [cell_in HXw2.out]; rfl
  refine wp_region_noPanic ?_
  refine wp_region_held_drew (S := fun W => W.cell? ⟨X, 0, none⟩ = some (.int .i64 g)) (by kernel_rfl) ((by exact kx3)) (fun hHeld => ?_)
  refine wpAnyH_take (i := 0) (v := ?_) rfl (by kernel_rfl) (by kernel_rfl) (by kernel_rfl) (fun _ _ _ h => h) (Or.inl ⟨by rfl, ?_⟩) (by assumption) ?_
  rotate_left
  · (intro w hSw; (try dsimp only at hSw); go_simp; try (with_reducible rfl))
  try simp only [Act.put, List.setIfInBounds_toArray, List.set_cons_zero, List.set_cons_succ, List.getElem_toArray, List.getElem_cons_zero]
  refine wpAnyH_take (i := 1) (v := ?_) rfl (by kernel_rfl) (by kernel_rfl) (by kernel_rfl) (fun _ _ _ h => h) (Or.inl ⟨by rfl, ?_⟩) (by assumption) ?_
  rotate_left
  · (intro w hSw; (try dsimp only at hSw); go_simp; try (with_reducible rfl))
  try simp only [Act.put, List.setIfInBounds_toArray, List.set_cons_zero, List.set_cons_succ, List.getElem_toArray, List.getElem_cons_zero, List.getElem_cons_succ]
  refine wpAnyH_take (i := 2) (v := ?_) rfl (by kernel_rfl) (by kernel_rfl) (by kernel_rfl) (fun _ _ _ h => h) (Or.inl ⟨by rfl, ?_⟩) (by assumption) ?_
  rotate_left
  · (intro w hSw; (try dsimp only at hSw); go_simp; try (with_reducible rfl))
  try simp only [Act.put, List.setIfInBounds_toArray, List.set_cons_zero, List.set_cons_succ, List.getElem_toArray, List.getElem_cons_zero, List.getElem_cons_succ]
  refine wpAnyH_ready (rs := [3]) (by kernel_rfl) (by simp) ?_
  refine AllReadyH.cons rfl (fun K hK => ?_) AllReadyH.nil
  go_simp
  go_at_call 74
  refine (sput_any 115 B 1 8 63 g (by decide) _ (by simp [List.length_cons]) w2.drew HBw2.out).mono ?_
  rintro e w3 ⟨rfl, hBw3, hcw3⟩
  have hXw3 : w3.heap[X]? = some (.cells #[.int .i64 g, .int .i64 st, .slice p L c] 93 (0, 0)) := hcw3.box HXw2.out (by have := HBE.out; omega)
  refine hK.out _ _ ((by rw [cell_in hXw3]; rfl)) (fun hHeld2 => ?_)
  clear hK K hHeld
  have hHeld := hHeld2
  clear hHeld2
  try simp only [Act.put, List.setIfInBounds_toArray, List.set_cons_zero, List.set_cons_succ, List.getElem_toArray, List.getElem_cons_zero, List.getElem_cons_succ]
  refine wpAnyH_done (by kernel_rfl) ?_ _
  rw [sh_1 (bCells (be 8 g))] at hBw3
  have HBw3 := Lib.hid hBw3
  have HXw3 := Lib.hid hXw3
  have HRw3 := Lib.hid (show w3.heap[X + 1]? = some (.cells Z 115 (0, 0)) from hcw3.box HRw2.out (by have := HBE.out; omega))
  have HWw3 := Lib.hid (show Below w.heap.size w w3 from hcw3.on (bD HWw2.out) (bD HWw2.out).size (fun k e => by rw [e]; have := HBE.out; have := HX.out; omega))
  clear hBw3 hXw3 hcw3 kx3 hHeld
  refine NoPanic.normal ?_
  go_wp2
  have kx4 : w3.cell? ⟨X, 1, none⟩ = some (.int .i64 st) := by rw [cell_in HXw3.out]; rfl
  refine wp_region_noPanic ?_
  refine wp_region_held_drew (S := fun W => W.cell? ⟨X, 1, none⟩ = some (.int .i64 st)) (by kernel_rfl) ((by exact kx4)) (fun hHeld => ?_)
  refine wpAnyH_take (i := 0) (v := ?_) rfl (by kernel_rfl) (by kernel_rfl) (by kernel_rfl) (fun _ _ _ h => h) (Or.inl ⟨by rfl, ?_⟩) (by assumption) ?_
  rotate_left
  · (intro w hSw; (try dsimp only at hSw); go_simp; try (with_reducible rfl))
  try simp only [Act.put, List.setIfInBounds_toArray, List.set_cons_zero, List.set_cons_succ, List.getElem_toArray, List.getElem_cons_zero]
  refine wpAnyH_take (i := 1) (v := ?_) rfl (by kernel_rfl) (by kernel_rfl) (by kernel_rfl) (fun _ _ _ h => h) (Or.inl ⟨by rfl, ?_⟩) (by assumption) ?_
  rotate_left
  · (intro w hSw; (try dsimp only at hSw); go_simp; try (with_reducible rfl))
  try simp only [Act.put, List.setIfInBounds_toArray, List.set_cons_zero, List.set_cons_succ, List.getElem_toArray, List.getElem_cons_zero, List.getElem_cons_succ]
  refine wpAnyH_take (i := 2) (v := ?_) rfl (by kernel_rfl) (by kernel_rfl) (by kernel_rfl) (fun _ _ _ h => h) (Or.inl ⟨by rfl, ?_⟩) (by assumption) ?_
  rotate_left
  · (intro w hSw; (try dsimp only at hSw); go_simp; try (with_reducible rfl))
  try simp only [Act.put, List.setIfInBounds_toArray, List.set_cons_zero, List.set_cons_succ, List.getElem_toArray, List.getElem_cons_zero, List.getElem_cons_succ]
  refine wpAnyH_take (i := 3) (v := ?_) rfl (by kernel_rfl) (by kernel_rfl) (by kernel_rfl) (fun _ _ _ h => h) (Or.inl ⟨by rfl, ?_⟩) (by assumption) ?_
  rotate_left
  · (intro w hSw; (try dsimp only at hSw); go_simp; try (with_reducible rfl))
  try simp only [Act.put, List.setIfInBounds_toArray, List.set_cons_zero, List.set_cons_succ, List.getElem_toArray, List.getElem_cons_zero, List.getElem_cons_succ]
  refine wpAnyH_ready (rs := [4]) (by kernel_rfl) (by simp) ?_
  refine AllReadyH.cons rfl (fun K hK => ?_) AllReadyH.nil
  go_simp
  go_at_call 74
  refine (sput_any 115 B 9 8 55 st (by decide) _ (by simp [bCells_len, be_len]) w3.drew HBw3.out).mono ?_
  rintro e w4 ⟨rfl, hBw4, hcw4⟩
  have hXw4 : w4.heap[X]? = some (.cells #[.int .i64 g, .int .i64 st, .slice p L c] 93 (0, 0)) := hcw4.box HXw3.out (by have := HBE.out; omega)
  refine hK.out _ _ ((by rw [cell_in hXw4]; rfl)) (fun hHeld2 => ?_)
  clear hK K hHeld
  have hHeld := hHeld2
  clear hHeld2
  try simp only [Act.put, List.setIfInBounds_toArray, List.set_cons_zero, List.set_cons_succ, List.getElem_toArray, List.getElem_cons_zero, List.getElem_cons_succ]
  refine wpAnyH_done (by kernel_rfl) ?_ _
  rw [sh_2 (bCells (be 8 g)) (bCells (be 8 st)) (by rw [bCells_len, be_len])] at hBw4
  have HBw4 := Lib.hid hBw4
  have HXw4 := Lib.hid hXw4
  have HRw4 := Lib.hid (show w4.heap[X + 1]? = some (.cells Z 115 (0, 0)) from hcw4.box HRw3.out (by have := HBE.out; omega))
  have HWw4 := Lib.hid (show Below w.heap.size w w4 from hcw4.on (bD HWw3.out) (bD HWw3.out).size (fun k e => by rw [e]; have := HBE.out; have := HX.out; omega))
  clear hBw4 hXw4 hcw4 kx4 hHeld
  refine NoPanic.normal ?_
  go_wp2
  have kx5 : w4.cell? ⟨X, 2, none⟩ = some (.slice p L c) := by rw [cell_in HXw4.out]; rfl
  refine wp_region_noPanic ?_
  refine wp_region_held_drew (S := fun W => W.cell? ⟨X, 2, none⟩ = some (.slice p L c)) (by kernel_rfl) ((by exact kx5)) (fun hHeld => ?_)
  refine wpAnyH_take (i := 0) (v := ?_) rfl (by kernel_rfl) (by kernel_rfl) (by kernel_rfl) (fun _ _ _ h => h) (Or.inl ⟨by rfl, ?_⟩) (by assumption) ?_
  rotate_left
  · (intro w hSw; (try dsimp only at hSw); go_simp; try (with_reducible rfl))
  try simp only [Act.put, List.setIfInBounds_toArray, List.set_cons_zero, List.set_cons_succ, List.getElem_toArray, List.getElem_cons_zero]
  refine wpAnyH_take (i := 1) (v := ?_) rfl (by kernel_rfl) (by kernel_rfl) (by kernel_rfl) (fun _ _ _ h => h) (Or.inl ⟨by rfl, ?_⟩) (by assumption) ?_
  rotate_left
  · (intro w hSw; (try dsimp only at hSw); go_simp; try (with_reducible rfl))
  try simp only [Act.put, List.setIfInBounds_toArray, List.set_cons_zero, List.set_cons_succ, List.getElem_toArray, List.getElem_cons_zero, List.getElem_cons_succ]
  refine wpAnyH_take (i := 2) (v := ?_) rfl (by kernel_rfl) (by kernel_rfl) (by kernel_rfl) (fun _ _ _ h => h) (Or.inl ⟨by rfl, ?_⟩) (by assumption) ?_
  rotate_left
  · (intro w hSw; (try dsimp only at hSw); go_simp; try (with_reducible rfl))
  try simp only [Act.put, List.setIfInBounds_toArray, List.set_cons_zero, List.set_cons_succ, List.getElem_toArray, List.getElem_cons_zero, List.getElem_cons_succ]
  refine wpAnyH_take (i := 3) (v := ?_) rfl (by kernel_rfl) (by kernel_rfl) (by kernel_rfl) (fun _ _ _ h => h) (Or.inl ⟨by rfl, ?_⟩) (by assumption) ?_
  rotate_left
  · (intro w hSw; (try dsimp only at hSw); go_simp; try (with_reducible rfl))
  try simp only [Act.put, List.setIfInBounds_toArray, List.set_cons_zero, List.set_cons_succ, List.getElem_toArray, List.getElem_cons_zero, List.getElem_cons_succ]
  refine wpAnyH_take (i := 4) (v := ?_) rfl (by kernel_rfl) (by kernel_rfl) (by kernel_rfl) (fun _ _ _ h => h) (Or.inl ⟨by rfl, ?_⟩) (by assumption) ?_
  rotate_left
  · (intro w hSw; (try dsimp only at hSw); go_simp; try (with_reducible rfl))
  try simp only [Act.put, List.setIfInBounds_toArray, List.set_cons_zero, List.set_cons_succ, List.getElem_toArray, List.getElem_cons_zero, List.getElem_cons_succ]
  refine wpAnyH_ready (rs := [5]) (by kernel_rfl) (by simp) ?_
  refine AllReadyH.cons rfl (fun K hK => ?_) AllReadyH.nil
  go_simp
  go_at_call 74
  refine (sput_any 115 B 17 4 47 L (by decide) _ (by simp [bCells_len, be_len]) w4.drew HBw4.out).mono ?_
  rintro e w5 ⟨rfl, hBw5, hcw5⟩
  have hXw5 : w5.heap[X]? = some (.cells #[.int .i64 g, .int .i64 st, .slice p L c] 93 (0, 0)) := hcw5.box HXw4.out (by have := HBE.out; omega)
  refine hK.out _ _ ((by rw [cell_in hXw5]; rfl)) (fun hHeld2 => ?_)
  clear hK K hHeld
  have hHeld := hHeld2
  clear hHeld2
  try simp only [Act.put, List.setIfInBounds_toArray, List.set_cons_zero, List.set_cons_succ, List.getElem_toArray, List.getElem_cons_zero, List.getElem_cons_succ]
  refine wpAnyH_done (by kernel_rfl) ?_ _
  rw [sh_3 (bCells (be 8 g)) (bCells (be 8 st)) (bCells (be 4 L)) (by rw [bCells_len, be_len]) (by rw [bCells_len, be_len])] at hBw5
  have HBw5 := Lib.hid hBw5
  have HXw5 := Lib.hid hXw5
  have HRw5 := Lib.hid (show w5.heap[X + 1]? = some (.cells Z 115 (0, 0)) from hcw5.box HRw4.out (by have := HBE.out; omega))
  have HWw5 := Lib.hid (show Below w.heap.size w w5 from hcw5.on (bD HWw4.out) (bD HWw4.out).size (fun k e => by rw [e]; have := HBE.out; have := HX.out; omega))
  clear hBw5 hXw5 hcw5 kx5 hHeld
  refine NoPanic.normal ?_
  go_wp2
  have kx6 : w5.cell? ⟨X, 2, none⟩ = some (.slice p L c) := by rw [cell_in HXw5.out]; rfl
  obtain ⟨wA, hwA⟩ : ∃ wA, (w5.alloc (.cells #[.slice p L c] 22)).drew = wA := ⟨_, rfl⟩
  have hcA : Below w5.heap.size w5 wA := by rw [← hwA]; exact bD (bA (Below.refl _ _) _)
  have hA1 : wA.heap[w5.heap.size]? = some (.cells #[.slice p L c] 22 (0, 0)) := by rw [← hwA]; exact heap_new w5 _
  have hAs : wA.heap.size = w5.heap.size + 1 := by rw [← hwA]; simp
  have hAX := (Chg.below hcA (fun _ => False)).box HXw5.out (fun e => e)
  have hA2 := (Chg.below hcA (fun _ => False)).box HBw5.out (fun e => e)
  have hAR := (Chg.below hcA (fun _ => False)).box HRw5.out (fun e => e)
  have hA3 : Below w.heap.size w wA := HWw5.out.trans (hcA.mono HWw5.out.size)
  have HWA := Lib.hid hwA
  have HA1 := Lib.hid hA1
  have HA2 := Lib.hid hA2
  have HA3 := Lib.hid hA3
  have HAX := Lib.hid hAX
  have HAR := Lib.hid hAR
  have hBl : B < w5.heap.size := (Array.getElem?_eq_some_iff.1 HBw5.out).1
  clear hwA hcA hA1 hAX hA2 hAR hA3
  refine wp_region_noPanic ?_
  refine wp_region_held_drew (S := fun W => W.cell? ⟨X, 2, none⟩ = some (.slice p L c)) (by kernel_rfl) ((by exact kx6)) (fun hHeld => ?_)
  refine wpAnyH_take (i := 0) (v := ?_) rfl (by kernel_rfl) (by kernel_rfl) (by kernel_rfl) (fun _ _ _ h => h) (Or.inl ⟨by rfl, ?_⟩) (by assumption) ?_
  rotate_left
  · (intro w hSw; (try dsimp only at hSw); go_simp; try (with_reducible rfl))
  try simp only [Act.put, List.setIfInBounds_toArray, List.set_cons_zero, List.set_cons_succ, List.getElem_toArray, List.getElem_cons_zero]
  refine wpAnyH_take (i := 1) (v := ?_) rfl (by kernel_rfl) (by kernel_rfl) (by kernel_rfl) (fun _ _ _ h => h) (Or.inl ⟨by rfl, ?_⟩) (by assumption) ?_
  rotate_left
  · (intro w hSw; (try dsimp only at hSw); go_simp; try (with_reducible rfl))
  try simp only [Act.put, List.setIfInBounds_toArray, List.set_cons_zero, List.set_cons_succ, List.getElem_toArray, List.getElem_cons_zero, List.getElem_cons_succ]
  refine wpAnyH_take (i := 2) (v := ?_) rfl (by kernel_rfl) (by kernel_rfl) (by kernel_rfl) (fun _ _ _ h => h) (Or.inl ⟨by rfl, ?_⟩) (by assumption) ?_
  rotate_left
  · (intro w hSw; (try dsimp only at hSw); go_simp; try (with_reducible rfl))
  try simp only [Act.put, List.setIfInBounds_toArray, List.set_cons_zero, List.set_cons_succ, List.getElem_toArray, List.getElem_cons_zero, List.getElem_cons_succ]
  refine wpAnyH_take (i := 3) (v := ?_) rfl (by kernel_rfl) (by kernel_rfl) (by kernel_rfl) (fun _ _ _ h => h) (Or.inl ⟨by rfl, ?_⟩) (by assumption) ?_
  rotate_left
  · (intro w hSw; (try dsimp only at hSw); go_simp; try (with_reducible rfl))
  try simp only [Act.put, List.setIfInBounds_toArray, List.set_cons_zero, List.set_cons_succ, List.getElem_toArray, List.getElem_cons_zero, List.getElem_cons_succ]
  refine wpAnyH_ready (rs := [4]) (by kernel_rfl) (by simp) ?_
  refine AllReadyH.cons rfl (fun K hK => ?_) AllReadyH.nil
  go_simp
  refine hK.out _ _ ((by rw [HWA.out, cell_in HAX.out]; rfl)) (fun hHeld2 => ?_)
  clear hK K hHeld
  have hHeld := hHeld2
  clear hHeld2
  try simp only [Act.put, List.setIfInBounds_toArray, List.set_cons_zero, List.set_cons_succ, List.getElem_toArray, List.getElem_cons_zero, List.getElem_cons_succ]
  simp only [HWA.out]
  refine wpAnyH_ready (rs := [5]) (by kernel_rfl) (by simp) ?_
  refine AllReadyH.cons rfl (fun K hK => ?_) AllReadyH.nil
  go_simp
  go_at_call 75
  refine (sum_one (octs body) (octs_ok body) (by rw [HOC.out]; omega) p c w5.heap.size 0 1 wA (by omega) (by rw [HOC.out, cell_in HA1.out]; rfl) ?by4).mono ?_
  case by4 => exact (HBY.out.on HA3.out).sum
  rintro e6 w6 ⟨rfl, hb6⟩
  have hX6 := (Chg.below hb6 (fun _ => False)).box HAX.out (fun e => e)
  have hB6 := (Chg.below hb6 (fun _ => False)).box HA2.out (fun e => e)
  have hR6 := (Chg.below hb6 (fun _ => False)).box HAR.out (fun e => e)
  rw [HCR.out]
  refine hK.out _ _ ((by rw [cell_in hX6]; rfl)) (fun hHeld2 => ?_)
  clear hK K hHeld
  have hHeld := hHeld2
  clear hHeld2
  try simp only [Act.put, List.setIfInBounds_toArray, List.set_cons_zero, List.set_cons_succ, List.getElem_toArray, List.getElem_cons_zero, List.getElem_cons_succ]
  have hW6 : Below w.heap.size w w6 := HA3.out.trans (hb6.mono HA3.out.size)
  have hcw : IntKind.i64.wrap ((crcB body : Nat) : Int) = ((crcB body : Nat) : Int) := by
    have hcr := HCRL.out
    rw [IntKind.wrap_i64]
    omega
  refine wpAnyH_ready (rs := [6]) (by kernel_rfl) (by simp) ?_
  refine AllReadyH.cons rfl (fun K hK => ?_) AllReadyH.nil
  go_simp
  refine hK.out _ _ ((by rw [cell_in hX6]; rfl)) (fun hHeld2 => ?_)
  clear hK K hHeld
  have hHeld := hHeld2
  clear hHeld2
  try simp only [Act.put, List.setIfInBounds_toArray, List.set_cons_zero, List.set_cons_succ, List.getElem_toArray, List.getElem_cons_zero, List.getElem_cons_succ]
  refine wpAnyH_ready (rs := [7]) (by kernel_rfl) (by simp) ?_
  refine AllReadyH.cons rfl (fun K hK => ?_) AllReadyH.nil
  go_simp
  go_at_call 74
  refine (sput_any 115 B 21 4 43 (crcB body) (by decide) _ (by simp [bCells_len, be_len]) w6 hB6).mono ?_
  rintro e7 w7 ⟨rfl, hB7, hc7⟩
  have hX7 := hc7.box hX6 (by have := HBE.out; omega)
  have hR7 := hc7.box hR6 (by have := HBE.out; omega)
  refine hK.out _ _ ((by rw [cell_in hX7]; rfl)) (fun hHeld2 => ?_)
  clear hK K hHeld
  have hHeld := hHeld2
  clear hHeld2
  try simp only [Act.put, List.setIfInBounds_toArray, List.set_cons_zero, List.set_cons_succ, List.getElem_toArray, List.getElem_cons_zero, List.getElem_cons_succ]
  refine wpAnyH_done (by kernel_rfl) ?_ _
  rw [sh_4 (bCells (be 8 g)) (bCells (be 8 st)) (bCells (be 4 L)) (bCells (be 4 (crcB body))) (by rw [bCells_len, be_len]) (by rw [bCells_len, be_len]) (by rw [bCells_len, be_len]), HHD.out] at hB7
  have HB7 := Lib.hid hB7
  have HR7 := Lib.hid hR7
  have HW7 := Lib.hid (show Below w.heap.size w w7 from hc7.on hW6 hW6.size (fun k e => by rw [e]; have := HBE.out; have := HX.out; omega))
  clear hB7 hR7 hX7 hc7 hX6 hB6 hR6 hW6 hHeld hb6 kx6 hcw hAs
  refine NoPanic.normal ?_
  have hrng : w7.rangeAt B 0 (bCells Hd) := fun j u hj => by
    rw [Nat.zero_add, cell_in HB7.out, List.getElem?_toArray]
    exact hj
  have HRNG := Lib.hid hrng
  have hZs : Z.size = 64 := by rw [HZ.out]; rfl
  have hth : w7.there (X + 1) 0 (bCells Hd).toArray.size := fun j hj => by
    rw [List.size_toArray, HLEN.out] at hj
    refine ⟨?_, ?_⟩
    · rw [Nat.zero_add, cell_in HR7.out, Array.getElem?_eq_getElem (by omega)]
      rfl
    · exact frozen_in HR7.out _
  have HTH := Lib.hid hth
  have hst := heap_setCells (X + 1) (bCells Hd) 0 w7 Z _ _ HR7.out (by rw [HLEN.out]; omega)
  have hfin : Below w.heap.size w (w7.setCells (X + 1) 0 (bCells Hd)) := (chg_setCells (X + 1) (bCells Hd) 0 w7).on HW7.out HW7.out.size (fun k e => by rw [e]; have := HX.out; omega)
  have HFIN := Lib.hid hfin
  have hrr : (w7.setCells (X + 1) 0 (bCells Hd)).rangeAt (X + 1) 0 (bCells Hd) := fun j u hj => by
    have hjl := (List.getElem?_eq_some_iff.1 hj).1
    rw [Nat.zero_add, cell_in hst, List.getElem?_toArray, List.append_assoc, List.take_zero, List.nil_append, List.getElem?_append_left hjl]
    exact hj
  have HRR := Lib.hid hrr
  clear hrng hth hst hfin hrr hZs
  go_wp2_with (first
    | (refine wpList_load_mid rfl 115 (.tmp 3) rfl B 0 rfl (bCells Hd) _ HRNG.out Try.underlying115 rfl (by rw [HLEN.out]; exact size_sc) ?_)
    | (refine wpList_store_mid rfl 115 (.tmp 2) (.tmp 28) rfl (X + 1) 0 (bCells Hd).toArray rfl rfl HTH.out (by rw [List.size_toArray, HLEN.out]; exact size_sc) (all_oneCell_toArray (bCells_one _)) ?_; rw [List.toList_toArray]))
  have hload := run_loadVar_mid (P := Try.prog) (w7.setCells (X + 1) 0 (bCells Hd)) (X + 1) 0 115 (bCells Hd) _ HRR.out Try.underlying115 rfl (by rw [HLEN.out]; exact size_sc)
  exact bodyPost_ret (v := .agg (bCells Hd).toArray) (results_cell1 rfl _ _ _ ⟨X + 1, 0, none⟩ _ rfl hload) rfl ⟨rfl, HFIN.out⟩
end Go.Proofs.Ytgcifhhbhoafcaa
