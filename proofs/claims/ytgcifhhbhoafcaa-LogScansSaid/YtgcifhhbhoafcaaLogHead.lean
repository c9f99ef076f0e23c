/-
  A header.
-/
import Derived.Test.YtgcifhhbhoafcaaLogNum
namespace Go.Proofs.Ytgcifhhbhoafcaa
open Go.RowKit Go.Shelf
attribute [local go_sem] Oper.semAt_some

/-- A slice of bytes in memory. -/
def InAt (w : World) (p : Option Addr) (l : List UInt8) : Prop := 0 < l.length → ∃ b o, p = some ⟨b, o, none⟩ ∧ w.rangeAt b o (bCells l)
theorem InAt.chg {ex : Nat → Prop} {w w' : World} {p : Option Addr} {l : List UInt8} (H : InAt w p l) (hc : Chg ex w w') (hn : ∀ b o, p = some ⟨b, o, none⟩ → ¬ ex b) : InAt w' p l := fun h => by
  obtain ⟨b, o, hp, hr⟩ := H h
  exact ⟨b, o, hp, hc.range hr (hn b o hp)⟩
theorem InAt.on {w w' : World} {p : Option Addr} {l : List UInt8} (H : InAt w p l) (hb : Below w.heap.size w w') : InAt w' p l := H.chg (Chg.below hb (fun _ => False)) (fun _ _ _ e => e)
theorem InAt.lt {w : World} {b o : Nat} {l : List UInt8} (H : InAt w (some ⟨b, o, none⟩) l) (h : 0 < l.length) : b < w.heap.size := by
  obtain ⟨b', o', hp, hr⟩ := H h
  cases hp
  cases l with
  | nil => simp at h
  | cons x l => exact World.block_lt_of_cell? w _ (hr 0 _ rfl)
theorem in_block {w : World} {b : Nat} {l : List UInt8} (h : w.heap[b]? = some (.cells (bCells l).toArray 5 (0, 0))) : w.rangeAt b 0 (bCells l) := fun j u hj => by
  rw [Nat.zero_add, cell_in h, List.getElem?_toArray]
  exact hj
theorem in_part {w : World} {b o : Nat} {l : List UInt8} (h : w.rangeAt b o (bCells l)) (i n : Nat) : w.rangeAt b (o + i) (bCells ((l.drop i).take n)) := fun j u hj => by
  rw [Nat.add_assoc]
  refine h (i + j) u ?_
  rw [← hj]
  unfold bCells
  have hl : j < ((l.drop i).take n).length := by
    have := (List.getElem?_eq_some_iff.1 hj).1
    rwa [bCells_len] at this
  rw [List.getElem?_map, List.getElem?_map, List.getElem?_take_of_lt (by rw [List.length_take] at hl; omega), List.getElem?_drop]
theorem InAt.sum {w : World} {p : Option Addr} {l : List UInt8} (H : InAt w p l) : BytesAt w p (octs l) := fun h => by
  rw [octs_len] at h
  obtain ⟨b, o, hp, hr⟩ := H h
  refine ⟨b, o, hp, fun i hi => ?_⟩
  rw [octs_len] at hi
  refine hr i _ ?_
  simp [bCells, octs, List.getElem?_eq_getElem hi, List.getD_eq_getElem?_getD]

theorem hd_1 (a : List Value) : ((Value.int .u8 82 :: List.replicate 63 (Value.int .u8 0)).take 1 ++ a ++ (Value.int .u8 82 :: List.replicate 63 (Value.int .u8 0)).drop (1 + 8)) = Value.int .u8 82 :: (a ++ List.replicate 55 (Value.int .u8 0)) := by simp
theorem hd_2 (a b : List Value) (ha : a.length = 8) : ((Value.int .u8 82 :: (a ++ List.replicate 55 (Value.int .u8 0))).take 9 ++ b ++ (Value.int .u8 82 :: (a ++ List.replicate 55 (Value.int .u8 0))).drop (9 + 4)) = Value.int .u8 82 :: (a ++ b ++ List.replicate 51 (Value.int .u8 0)) := by
  rw [List.take_succ_cons, List.take_append_of_le_length (by omega), List.take_of_length_le (by omega), List.drop_succ_cons, List.drop_append, List.drop_eq_nil_of_le (by omega), ha, List.drop_replicate]
  simp
theorem hd_3 (a b c : List Value) (ha : a.length = 8) (hb : b.length = 4) : ((Value.int .u8 82 :: (a ++ b ++ List.replicate 51 (Value.int .u8 0))).take 13 ++ c ++ (Value.int .u8 82 :: (a ++ b ++ List.replicate 51 (Value.int .u8 0))).drop (13 + 4)) = Value.int .u8 82 :: (a ++ b ++ c ++ List.replicate 47 (Value.int .u8 0)) := by
  rw [List.take_succ_cons, List.take_append_of_le_length (by rw [List.length_append]; omega), List.take_of_length_le (by rw [List.length_append]; omega), List.drop_succ_cons, List.drop_append, List.drop_eq_nil_of_le (by rw [List.length_append]; omega), List.length_append, ha, hb, List.drop_replicate]
  simp
theorem hd_cells (stamp : Nat) (body : List UInt8) : Value.int .u8 82 :: (bCells (be 8 stamp) ++ bCells (be 4 body.length) ++ bCells (be 4 (crcB body)) ++ List.replicate 47 (Value.int .u8 0)) = bCells (hdr stamp body) := by
  simp [hdr, bCells]

set_option maxRecDepth 20000 in
set_option maxHeartbeats 2000000 in
theorem header_any (stamp : Nat) (p : Option Addr) (c : Nat) (body : List UInt8) (hbl : body.length ≤ 1048576) (w : World) (hb : InAt w p body) :
    Calls Try.prog 64 #[.int .i64 stamp, .slice p body.length c] w fun e w' => e = .returned (.slice (some ⟨w.heap.size, 0, none⟩) 64 64) ∧ w'.heap[w.heap.size]? = some (.cells (bCells (hdr stamp body)).toArray 5 (0, 0)) ∧ Below w.heap.size w w' := by
  have HBY := Lib.hid hb
  have HCR := Lib.hid (show Crc.crc (octs body) = crcB body from rfl)
  have HCRL := Lib.hid (crcB_lt body)
  have HHD := Lib.hid (hd_cells stamp body)
  have HL4 := Lib.hid (show (bCells (be 4 body.length)).length = 4 by rw [bCells_len, be_len])
  have hoc := octs_len body
  have HOC := Lib.hid hoc
  obtain ⟨L, hL⟩ : ∃ L, L = body.length := ⟨_, rfl⟩
  have HLE := Lib.hid hL
  rw [← hL] at hbl HHD HL4 HOC ⊢
  have hmk := make_u8 w 64 (by decide)
  obtain ⟨w1, hw1⟩ : ∃ w1, w.alloc (.cells (List.replicate 64 (Value.int .u8 0)).toArray 5) = w1 := ⟨_, rfl⟩
  rw [hw1] at hmk
  have hmk' : (Instr.makeSlice 22 (.int .i64 64) (.int .i64 64)).run Try.prog w = .ok (.slice (some ⟨w.heap.size, 0, none⟩) 64 64) w1 := hmk
  have hB1 : w1.heap[w.heap.size]? = some (.cells (List.replicate 64 (Value.int .u8 0)).toArray 5 (0, 0)) := by rw [← hw1]; exact heap_new w _
  have hb1 : Below w.heap.size w w1 := by rw [← hw1]; exact bA (Below.refl _ _) _
  have kc : w1.cell? ⟨w.heap.size, 0, none⟩ = some (.int .u8 0) := by rw [cell_in hB1]; rfl
  have kf := frozen_in hB1 0
  have hB2 : (w1.setCell ⟨w.heap.size, 0, none⟩ (.int .u8 82)).heap[w.heap.size]? = some (.cells (Value.int .u8 82 :: List.replicate 63 (Value.int .u8 0)).toArray 5 (0, 0)) := by
    rw [setCell_eq_setRow w1 _ _ _ _ _ _ hB1, setRow_heap w1 _ _ _ _ _ hB1]
    rfl
  have hb2 : Below w.heap.size w (w1.setCell ⟨w.heap.size, 0, none⟩ (.int .u8 82)) := (Chg.setCell w1 ⟨w.heap.size, 0, none⟩ _).on hb1 hb1.size (fun k e => by show w.heap.size ≤ k; rw [e]; exact Nat.le_refl _)
  have HB2 := Lib.hid hB2
  have HW2 := Lib.hid hb2
  obtain ⟨B, hBE⟩ : ∃ B, w.heap.size = B := ⟨_, rfl⟩
  have HBE := Lib.hid hBE
  rw [hBE] at HB2 HW2 kc kf hmk' ⊢
  clear hb hB1 hB2 hb1 hb2 hw1 hmk hL hoc hBE
  go_enter Try.func64, Try.ntmps64
  go_wp2_with fail
  generalize w1.setCell ⟨B, 0, none⟩ (.int .u8 82) = w2 at *
  refine (put_any B 1 8 63 stamp (by decide) _ (by simp) w2 HB2.out).mono ?_
  rintro e w3 ⟨rfl, hB3, hc3⟩
  rw [hd_1 (bCells (be 8 stamp))] at hB3
  have HB3 := Lib.hid hB3
  have HW3 := Lib.hid (hc3.on HW2.out (Nat.le_of_lt (Array.getElem?_eq_some_iff.1 HB2.out).1) (fun k e => by rw [e]; exact Nat.le_refl _))
  clear hB3 hc3
  go_wp2_with fail
  refine (put_any B 9 4 55 L (by decide) _ (by simp [bCells_len, be_len]) w3 HB3.out).mono ?_
  rintro e w4 ⟨rfl, hB4, hc4⟩
  rw [hd_2 (bCells (be 8 stamp)) (bCells (be 4 L)) (by rw [bCells_len, be_len])] at hB4
  have HB4 := Lib.hid hB4
  have HW4 := Lib.hid (hc4.on HW3.out (Nat.le_of_lt (Array.getElem?_eq_some_iff.1 HB3.out).1) (fun k e => by rw [e]; exact Nat.le_refl _))
  clear hB4 hc4
  go_wp2
  obtain ⟨wA, hwA⟩ : ∃ wA, (w4.alloc (.cells #[.slice p L c] 22)).drew = wA := ⟨_, rfl⟩
  have hA1 : wA.heap[w4.heap.size]? = some (.cells #[.slice p L c] 22 (0, 0)) := by rw [← hwA]; exact heap_new w4 _
  have hAs : wA.heap.size = w4.heap.size + 1 := by rw [← hwA]; simp
  have hA2 : wA.heap[B]? = some (.cells (Value.int .u8 82 :: (bCells (be 8 stamp) ++ bCells (be 4 L) ++ List.replicate 51 (Value.int .u8 0))).toArray 5 (0, 0)) := by
    rw [← hwA]
    exact (Below.heap_alloc w4 _ _ (Array.getElem?_eq_some_iff.1 HB4.out).1).trans HB4.out
  have hA3 : Below B w wA := by
    rw [← hwA]
    exact (((Chg.alloc (fun _ => False) w4 _).trans (Chg.drew (fun _ => False) _)).on HW4.out (Nat.le_of_lt (Array.getElem?_eq_some_iff.1 HB4.out).1) (fun _ e => e.elim))
  have HWA := Lib.hid hwA
  have HA2 := Lib.hid hA2
  have HA3 := Lib.hid hA3
  have HA1 := Lib.hid hA1
  have hBl : B < w4.heap.size := (Array.getElem?_eq_some_iff.1 HB4.out).1
  clear hwA hA1 hA2 hA3
  refine wp_region_noPanic ?_
  refine wp_region_held_drew (S := fun _ => True) (by kernel_rfl) (trivial) (fun hHeld => ?_)
  refine wpAnyH_take (i := 0) (v := ?_) rfl (by kernel_rfl) (by kernel_rfl) (by kernel_rfl) (fun _ _ _ h => h) (Or.inl ⟨by rfl, ?_⟩) (by assumption) ?_
  rotate_left
  · (intro w hSw; (try dsimp only at hSw); go_simp; try (with_reducible rfl))
  try simp only [Act.put, List.setIfInBounds_toArray, List.set_cons_zero, List.set_cons_succ, List.getElem_toArray, List.getElem_cons_zero]
  refine wpAnyH_take (i := 1) (v := ?_) rfl (by kernel_rfl) (by kernel_rfl) (by kernel_rfl) (fun _ _ _ h => h) (Or.inl ⟨by rfl, ?_⟩) (by assumption) ?_
  rotate_left
  · (intro w hSw; (try dsimp only at hSw); go_simp; try (with_reducible rfl))
  try simp only [Act.put, List.setIfInBounds_toArray, List.set_cons_zero, List.set_cons_succ, List.getElem_toArray, List.getElem_cons_zero, List.getElem_cons_succ]
  refine wpAnyH_take (i := 2) (v := ?_) rfl (by kernel_rfl) (by kernel_rfl) (by kernel_rfl) (fun _ _ _ h => h) (Or.inl ⟨by rfl, ?_⟩) (by assumption) ?_
  rotate_left
  · (intro w hSw; (try dsimp only at hSw); go_simp; try (with_reducible rfl))
  try simp only [Act.put, List.setIfInBounds_toArray, List.set_cons_zero, List.set_cons_succ, List.getElem_toArray, List.getElem_cons_zero, List.getElem_cons_succ]
  refine wpAnyH_ready (rs := [3]) (by kernel_rfl) (by simp) ?_
  refine AllReadyH.cons rfl (fun K hK => ?_) AllReadyH.nil
  go_simp
  refine hK.out _ _ (trivial) (fun hHeld2 => ?_)
  clear hK K hHeld
  have hHeld := hHeld2
  clear hHeld2
  try simp only [Act.put, List.setIfInBounds_toArray, List.set_cons_zero, List.set_cons_succ, List.getElem_toArray, List.getElem_cons_zero, List.getElem_cons_succ]
  simp only [HWA.out]
  refine wpAnyH_ready (rs := [4]) (by kernel_rfl) (by simp) ?_
  refine AllReadyH.cons rfl (fun K hK => ?_) AllReadyH.nil
  go_simp
  go_at_call 75
  refine (sum_one (octs body) (octs_ok body) (by rw [HOC.out]; omega) p c w4.heap.size 0 1 wA (by omega) (by rw [HOC.out, cell_in HA1.out]; rfl) ?by4).mono ?_
  case by4 => exact (HBY.out.on (by rw [HBE.out]; exact HA3.out)).sum
  rintro e5 w5 ⟨rfl, hb5⟩
  rw [HCR.out]
  refine hK.out _ _ (trivial) (fun hHeld2 => ?_)
  clear hK K hHeld
  have hHeld := hHeld2
  clear hHeld2
  try simp only [Act.put, List.setIfInBounds_toArray, List.set_cons_zero, List.set_cons_succ, List.getElem_toArray, List.getElem_cons_zero, List.getElem_cons_succ]
  have hB5 := (Chg.below hb5 (fun _ => False)).box HA2.out (fun e => e)
  have hW5 : Below B w w5 := HA3.out.trans (hb5.mono (by omega))
  have hcw : IntKind.i64.wrap ((crcB body : Nat) : Int) = ((crcB body : Nat) : Int) := by
    have hcr := HCRL.out
    rw [IntKind.wrap_i64]
    omega
  refine wpAnyH_ready (rs := [5]) (by kernel_rfl) (by simp) ?_
  refine AllReadyH.cons rfl (fun K hK => ?_) AllReadyH.nil
  go_simp
  refine hK.out _ _ (trivial) (fun hHeld2 => ?_)
  clear hK K hHeld
  have hHeld := hHeld2
  clear hHeld2
  try simp only [Act.put, List.setIfInBounds_toArray, List.set_cons_zero, List.set_cons_succ, List.getElem_toArray, List.getElem_cons_zero, List.getElem_cons_succ]
  refine wpAnyH_ready (rs := [6]) (by kernel_rfl) (by simp) ?_
  refine AllReadyH.cons rfl (fun K hK => ?_) AllReadyH.nil
  go_simp
  go_at_call 76
  refine (put_any B 13 4 51 (crcB body) (by decide) _ (by simp [bCells_len, be_len]) w5 hB5).mono ?_
  rintro e6 w6 ⟨rfl, hB6, hc6⟩
  refine hK.out _ _ (trivial) (fun hHeld2 => ?_)
  clear hK K hHeld
  have hHeld := hHeld2
  clear hHeld2
  try simp only [Act.put, List.setIfInBounds_toArray, List.set_cons_zero, List.set_cons_succ, List.getElem_toArray, List.getElem_cons_zero, List.getElem_cons_succ]
  refine wpAnyH_done (by kernel_rfl) ?_ _
  have hW6 : Below B w w6 := hc6.on hW5 (Nat.le_of_lt (Array.getElem?_eq_some_iff.1 hB5).1) (fun k e => by rw [e]; exact Nat.le_refl _)
  have hE := hd_3 (bCells (be 8 stamp)) (bCells (be 4 L)) (bCells (be 4 (crcB body))) (by rw [bCells_len, be_len]) (by rw [bCells_len, be_len])
  rw [hE, HHD.out] at hB6
  have HB6 := Lib.hid hB6
  have HW6 := Lib.hid hW6
  clear hB6 hW6 hE hHeld
  refine NoPanic.normal ?_
  go_wp2
  go_ret
  exact ⟨rfl, HB6.out, HW6.out⟩
end Go.Proofs.Ytgcifhhbhoafcaa
