/-
  The reference: bytes cut into sectors.
-/
import Derived.Test.YtgcifhhbhoafcaaLogReplay
namespace Go.Proofs.Ytgcifhhbhoafcaa
open Go.RowKit Go.Shelf

/-- The sectors of bytes, the last one padded. -/
def cutAt (data : List UInt8) (k : Nat) : Sec := (data.drop (64 * k)).take 64 ++ List.replicate (64 - (data.length - 64 * k)) 0
def cutS (data : List UInt8) : List Sec := (List.range ((data.length + 63) / 64)).map (cutAt data)
theorem cutS_len (data : List UInt8) : (cutS data).length = (data.length + 63) / 64 := by simp [cutS]
theorem cutAt_len (data : List UInt8) (k : Nat) : (cutAt data k).length = 64 ∨ data.length ≤ 64 * k := by
  unfold cutAt
  rw [List.length_append, List.length_take, List.length_drop, List.length_replicate]
  omega
theorem cutS_64 (data : List UInt8) : ∀ s ∈ cutS data, s.length = 64 := fun s hs => by
  obtain ⟨k, hk, rfl⟩ := List.mem_map.1 hs
  have := List.mem_range.1 hk
  rcases cutAt_len data k with h | h
  · exact h
  · omega
def sCells (S : List Sec) : List Value := S.map fun s => .string (bs s)
theorem info_strs : (Try.prog.info? 9).map (fun i => (i.zero, i.size, i.bytes)) = some (some (.string ⟨#[]⟩), 1, 16) := by kernel_rfl
theorem bCells_take (l : List UInt8) (k : Nat) : bCells (l.take k) = (bCells l).take k := by simp [bCells, List.map_take]

set_option maxRecDepth 20000 in
set_option maxHeartbeats 4000000 in
theorem cut_any (b o c : Nat) (data : List UInt8) (hl : data.length ≤ 1000000) (hbc : data.length ≤ c) (hc : c ≤ 9223372036854775807) (w : World) (hr : w.rangeAt b o (bCells data)) (hbw : b < w.heap.size) :
    Calls Try.prog 8 #[.slice (some ⟨b, o, none⟩) data.length c] w fun e w' => ∃ v, e = .returned v ∧ w'.ownsRow w.heap.size 9 1 v (cutS data).length (sCells (cutS data)) ∧ Below w.heap.size w w' := by
  obtain ⟨L, hL⟩ : ∃ L, L = data.length := ⟨_, rfl⟩
  have HL := Lib.hid hL
  rw [← hL] at hl hbc ⊢
  obtain ⟨M, hM⟩ : ∃ M, M = (L + 63) / 64 := ⟨_, rfl⟩
  have HM := Lib.hid hM
  have HR := Lib.hid hr
  obtain ⟨i0, hi, hz0, hz1, hz2⟩ := info_parts info_strs
  clear hL hM hr
  have hmk := fun W => make_u8 W 64 (by decide)
  go_enter Try.func8, Try.ntmps8
  go_wp2
  go_loopw [0, 3] (fun s0 s3 wr => ∃ k q m d pv cv, k ≤ M ∧ s0 = .slice (some q) m d ∧ s3 = .slice pv k cv ∧ Hid (m = L - 64 * k ∧ (64 * k < L → d = c - 64 * k ∧ q = ⟨b, o + 64 * k, none⟩)) ∧ Hid (wr.ownsRow w.heap.size 9 1 (.slice pv k cv) k (sCells ((cutS data).take k))) ∧ Hid (Below w.heap.size w wr)) (fun _ s3 _ => M - lenOf s3)
  case atStart => exact ⟨0, ⟨b, o, none⟩, L, c, none, 0, Nat.zero_le _, rfl, rfl, Lib.hid ⟨by omega, fun _ => ⟨by omega, rfl⟩⟩, Lib.hid (World.ownsRow_nil _ _ _ _), Lib.hid (Below.refl _ _)⟩
  case round =>
    obtain ⟨k, q, m, d, pv, cv, hk, rfl, rfl, HQ, HROW, HB⟩ := hrel
    by_cases hlt : 64 * k < L
    · obtain ⟨hd, hq⟩ := HQ.out.2 hlt
      subst hq
      have hm := HQ.out.1
      have HD := Lib.hid hd
      have hm0 : 0 < m := by omega
      have hmL : m ≤ L := by omega
      have e1 : decide ((0 : Int) < (m : Int)) = true := decide_eq_true (by omega)
      have e1' : decide (0 < m) = true := decide_eq_true hm0
      have hmd : m ≤ d := by omega
      have hdb : d ≤ 9223372036854775807 := by omega
      clear hm hd
      have hs1 := heap_new wr (.cells (List.replicate 64 (Value.int .u8 0)).toArray 5)
      have hb1 : Below wr.heap.size wr (wr.alloc (.cells (List.replicate 64 (Value.int .u8 0)).toArray 5)) := bA (Below.refl _ _) _
      obtain ⟨W1, hW1⟩ : ∃ W1, wr.alloc (.cells (List.replicate 64 (Value.int .u8 0)).toArray 5) = W1 := ⟨_, rfl⟩
      rw [hW1] at hs1 hb1
      have HS1 := Lib.hid (show W1.heap[wr.heap.size]? = some (.cells (bCells ((data.drop (64 * k)).take 0) ++ List.replicate (64 - 0) (Value.int .u8 0)).toArray 5 (0, 0)) by rw [hs1]; simp [bCells])
      have HB1 := Lib.hid hb1
      clear hs1 hb1
      by_cases h64 : m < 64
      · have e2 : decide ((m : Int) < 64) = true := decide_eq_true (by omega)
        have e2' : decide (m < 64) = true := decide_eq_true h64
        have hmk' : (Instr.makeSlice 22 (.int .i64 64) (.int .i64 64)).run Try.prog wr = .ok (.slice (some ⟨wr.heap.size, 0, none⟩) 64 64) W1 := by rw [← hW1]; exact hmk wr
        clear hmk hW1
        obtain ⟨wo, hwo⟩ : ∃ wo, wo = wr := ⟨wr, rfl⟩
        subst hwo
        go_wp2
        go_loopw [6] (fun s6 wr => ∃ j : Nat, j ≤ m ∧ s6 = .int .i64 j ∧ Hid (wr.heap[wo.heap.size]? = some (.cells (bCells ((data.drop (64 * k)).take j) ++ List.replicate (64 - j) (Value.int .u8 0)).toArray 5 (0, 0))) ∧ Hid (Below wo.heap.size wo wr)) (fun s6 _ => m - (intOf s6).toNat)
        case atStart => exact ⟨0, Nat.zero_le _, rfl, HS1, HB1⟩
        case round =>
          obtain ⟨j, hj, rfl, HSJ, HBJ⟩ := hrel
          by_cases hjn : j < m
          · have f1 : decide ((j : Int) < (m : Int)) = true := decide_eq_true (by omega)
            have f1' : decide (j < m) = true := decide_eq_true hjn
            have hjl : 64 * k + j < data.length := by have := HL.out; have := HQ.out.1; omega
            obtain ⟨x, hxv⟩ : ∃ x, data[64 * k + j] = x := ⟨_, rfl⟩
            have hxc := HR.out (64 * k + j) (.int .u8 ((x.toNat : Nat) : Int)) (by rw [← hxv]; simp [bCells, List.getElem?_eq_getElem hjl])
            have hxw := ((HB.out.trans (HBJ.out.mono HB.out.size)).cell (p := ⟨b, o + (64 * k + j), none⟩) hbw).trans hxc
            rw [← Nat.add_assoc] at hxw
            have hlen : (bCells ((data.drop (64 * k)).take j)).length = j := by rw [bCells_len, List.length_take, List.length_drop]; omega
            have kc : wr.cell? ⟨wo.heap.size, j, none⟩ = some (.int .u8 0) := by
              rw [cell_in HSJ.out, List.getElem?_toArray, List.getElem?_append_right (by omega), hlen, Nat.sub_self, List.getElem?_replicate, if_pos (by omega)]
            have kf := frozen_in HSJ.out j
            have HSN := Lib.hid (show (wr.setCell ⟨wo.heap.size, j, none⟩ (.int .u8 ((x.toNat : Nat) : Int))).heap[wo.heap.size]? = some (.cells (bCells ((data.drop (64 * k)).take (j + 1)) ++ List.replicate (64 - (j + 1)) (Value.int .u8 0)).toArray 5 (0, 0)) by
              rw [setCell_eq_setRow wr _ _ _ _ _ _ HSJ.out, setRow_heap wr _ _ _ _ _ HSJ.out]
              congr 3
              apply Array.toList_inj.1
              rw [Array.toList_setIfInBounds, List.toList_toArray, List.set_append_right _ _ (by omega), hlen, Nat.sub_self, show 64 - j = (64 - (j + 1)) + 1 by omega, List.replicate_succ, List.set_cons_zero, List.take_succ_eq_append_getElem (by rw [List.length_drop]; omega), bCells_app, List.append_assoc, List.getElem_drop, hxv]
              rfl)
            have HBN := Lib.hid ((Chg.setCell wr ⟨wo.heap.size, j, none⟩ (.int .u8 ((x.toNat : Nat) : Int))).on HBJ.out HBJ.out.size (fun b e => by rw [show b = wo.heap.size from e]; exact Nat.le_refl _))
            have j0 : (0 : Int) ≤ (j : Int) := by omega
            have j1 : (j : Int) < (m : Int) := by omega
            have j2 : (j : Int) < 64 := by omega
            clear hxc hxv hlen
            generalize x.toNat = xn at *
            go_wp2
            go_roundw
            case rel => exact ⟨j + 1, by omega, by go_num, HSN, HBN⟩
            case measure => simp [intOf]; omega
          · have f1 : decide ((j : Int) < (m : Int)) = false := decide_eq_false (by omega)
            have f1' : decide (j < m) = false := decide_eq_false hjn
            obtain rfl : j = m := by omega
            have hsec : bCells ((data.drop (64 * k)).take j) ++ List.replicate (64 - j) (Value.int .u8 0) = bCells (cutAt data k) := by
              have hlt' := hlt
              have e1 : (data.drop (64 * k)).take 64 = (data.drop (64 * k)).take j := by
                rw [List.take_of_length_le (by rw [List.length_drop, ← HL.out]; have := HQ.out.1; omega), List.take_of_length_le (by rw [List.length_drop, ← HL.out]; have := HQ.out.1; omega)]
              unfold cutAt
              rw [e1, bCells_app, show 64 - (data.length - 64 * k) = 64 - j by rw [← HL.out]; have := HQ.out.1; omega]
              simp [bCells]
            have hsj := HSJ.out
            rw [hsec] at hsj
            have hc64 : (cutAt data k).length = 64 := by
              rcases cutAt_len data k with h | h
              · exact h
              · have := HL.out
                omega
            have hcv := run_str (c := 64) (in_block hsj)
            rw [hc64] at hcv
            have hlit : ∀ st, (wr.alloc (.cells #[.string st] 9)).ownsRow wr.heap.size 9 1 (.slice (some ⟨wr.heap.size, 0, none⟩) 1 1) 1 [.string st] := fun st => World.ownsRow_lit wr #[.string st] 1 (Nat.le_refl _) (by decide) rfl
            have hrw : ∀ st, (wr.alloc (.cells #[.string st] 9)).ownsRow w.heap.size 9 1 (.slice pv k cv) k (sCells ((cutS data).take k)) := fun st => (Chg.below (HBJ.out.alloc HBJ.out.size _) (fun _ => False)).own HROW.out (fun _ _ e => e)
            have hbs : ∀ st : ByteArray, w.heap.size ≤ (wr.alloc (.cells #[.string st] 9)).heap.size := fun st => by
              have := HB.out.size
              have := HBJ.out.size
              simp
              omega
            have HRW := Lib.hid hrw
            have HBS := Lib.hid hbs
            have hkl : k < (cutS data).length := by rw [cutS_len, ← HL.out]; omega
            have HNX := Lib.hid (show sCells ((cutS data).take (k + 1)) = sCells ((cutS data).take k) ++ [.string (bs (cutAt data k))] by
              rw [List.take_succ_eq_append_getElem hkl]
              simp [sCells, cutS])
            obtain ⟨st, hst⟩ : ∃ st, bs (cutAt data k) = st := ⟨_, rfl⟩
            rw [hst] at hcv
            have HST := Lib.hid hst
            obtain ⟨q', hq'⟩ : ∃ q', (if d = j then (some ⟨b, o + 64 * k, none⟩ : Option Addr) else some ⟨b, o + 64 * k + j, none⟩) = some q' := by
              by_cases h : d = j
              · exact ⟨_, if_pos h⟩
              · exact ⟨_, if_neg h⟩
            have HQ' := Lib.hid hq'
            have hjd : (j : Int) ≤ (d : Int) := by omega
            have hj0 : (0 : Int) ≤ (j : Int) := by omega
            have hkb : k ≤ 20000 := by omega
            have HHIT := Lib.hid (hlit st)
            clear hsec hsj hst hrw hbs hlit hc64
            go_wp2_with (at_builtin; refine wpList_append_lies _ rfl (.tmp 28) (.tmp 31) 24 rfl w.heap.size 9 i0 (.string ⟨#[]⟩) 1 16 Try.underlying24 hi hz0 hz1 hz2 rfl (by decide) _ k _ rfl (HRW.out st) ⟨wr.heap.size, 0, none⟩ 1 1 [.string st] rfl rfl (HHIT.out.cells rfl) (by simp; rfl) (by decide) (by unfold maxLen; omega) (by omega) (HBS.out st) _ rfl ?_; intro g7 cap7 w7 hrow7 hg7 _ _; have hb7 : Below w.heap.size w w7 := (Chg.grown hg7).on ((HB.out.trans (HBJ.out.mono HB.out.size)).alloc (by have := HB.out.size; have := HBJ.out.size; omega) _) (HBS.out st) (fun x hx => ((HRW.out st).lt x hx.symm).1); have HR7 := Lib.hid (show _ ∧ _ from ⟨hrow7, hb7⟩); clear hrow7 hg7 hb7)
            go_roundw
            case rel =>
              refine ⟨k + 1, q', _, _, some ⟨g7, 0, none⟩, cap7, by have := HM.out; have := HQ.out.1; omega, rfl, rfl, Lib.hid ⟨by have := HQ.out.1; omega, fun h => ⟨by have := HQ.out.1; have := HD.out; omega, ?_⟩⟩, Lib.hid ?_, Lib.hid HR7.out.2⟩
              · have h3 := HQ'.out
                rw [if_neg (by have := HQ.out.1; have := HD.out; omega)] at h3
                have h4 : q' = ⟨b, o + 64 * k + j, none⟩ := (Option.some.injEq _ _ ▸ h3).symm
                rw [h4]
                have h5 : j = 64 := by have := HQ.out.1; omega
                congr 1
                omega
              · have h := HR7.out.1
                rw [HNX.out, HST.out]
                exact h
            case measure => simp [lenOf]; have := HM.out; omega
      · have e2 : decide ((m : Int) < 64) = false := decide_eq_false (by omega)
        have e2' : decide (m < 64) = false := decide_eq_false h64
        have hmk' : (Instr.makeSlice 22 (.int .i64 64) (.int .i64 64)).run Try.prog wr = .ok (.slice (some ⟨wr.heap.size, 0, none⟩) 64 64) W1 := by rw [← hW1]; exact hmk wr
        clear hmk hW1
        obtain ⟨wo, hwo⟩ : ∃ wo, wo = wr := ⟨wr, rfl⟩
        subst hwo
        go_wp2
        go_loopw [6] (fun s6 wr => ∃ j : Nat, j ≤ 64 ∧ s6 = .int .i64 j ∧ Hid (wr.heap[wo.heap.size]? = some (.cells (bCells ((data.drop (64 * k)).take j) ++ List.replicate (64 - j) (Value.int .u8 0)).toArray 5 (0, 0))) ∧ Hid (Below wo.heap.size wo wr)) (fun s6 _ => 64 - (intOf s6).toNat)
        case atStart => exact ⟨0, Nat.zero_le _, rfl, HS1, HB1⟩
        case round =>
          obtain ⟨j, hj, rfl, HSJ, HBJ⟩ := hrel
          by_cases hjn : j < 64
          · have f1 : decide ((j : Int) < 64) = true := decide_eq_true (by omega)
            have f1' : decide (j < 64) = true := decide_eq_true hjn
            have hjl : 64 * k + j < data.length := by have := HL.out; have := HQ.out.1; omega
            obtain ⟨x, hxv⟩ : ∃ x, data[64 * k + j] = x := ⟨_, rfl⟩
            have hxc := HR.out (64 * k + j) (.int .u8 ((x.toNat : Nat) : Int)) (by rw [← hxv]; simp [bCells, List.getElem?_eq_getElem hjl])
            have hxw := ((HB.out.trans (HBJ.out.mono HB.out.size)).cell (p := ⟨b, o + (64 * k + j), none⟩) hbw).trans hxc
            rw [← Nat.add_assoc] at hxw
            have hlen : (bCells ((data.drop (64 * k)).take j)).length = j := by rw [bCells_len, List.length_take, List.length_drop]; omega
            have kc : wr.cell? ⟨wo.heap.size, j, none⟩ = some (.int .u8 0) := by
              rw [cell_in HSJ.out, List.getElem?_toArray, List.getElem?_append_right (by omega), hlen, Nat.sub_self, List.getElem?_replicate, if_pos (by omega)]
            have kf := frozen_in HSJ.out j
            have HSN := Lib.hid (show (wr.setCell ⟨wo.heap.size, j, none⟩ (.int .u8 ((x.toNat : Nat) : Int))).heap[wo.heap.size]? = some (.cells (bCells ((data.drop (64 * k)).take (j + 1)) ++ List.replicate (64 - (j + 1)) (Value.int .u8 0)).toArray 5 (0, 0)) by
              rw [setCell_eq_setRow wr _ _ _ _ _ _ HSJ.out, setRow_heap wr _ _ _ _ _ HSJ.out]
              congr 3
              apply Array.toList_inj.1
              rw [Array.toList_setIfInBounds, List.toList_toArray, List.set_append_right _ _ (by omega), hlen, Nat.sub_self, show 64 - j = (64 - (j + 1)) + 1 by omega, List.replicate_succ, List.set_cons_zero, List.take_succ_eq_append_getElem (by rw [List.length_drop]; omega), bCells_app, List.append_assoc, List.getElem_drop, hxv]
              rfl)
            have HBN := Lib.hid ((Chg.setCell wr ⟨wo.heap.size, j, none⟩ (.int .u8 ((x.toNat : Nat) : Int))).on HBJ.out HBJ.out.size (fun b e => by rw [show b = wo.heap.size from e]; exact Nat.le_refl _))
            have j0 : (0 : Int) ≤ (j : Int) := by omega
            have j1 : (j : Int) < (m : Int) := by omega
            have j2 : (j : Int) < 64 := by omega
            clear hxc hxv hlen
            generalize x.toNat = xn at *
            go_wp2
            go_roundw
            case rel => exact ⟨j + 1, by omega, by go_num, HSN, HBN⟩
            case measure => simp [intOf]; omega
          · have f1 : decide ((j : Int) < 64) = false := decide_eq_false (by omega)
            have f1' : decide (j < 64) = false := decide_eq_false hjn
            obtain rfl : j = 64 := by omega
            have hsec : bCells ((data.drop (64 * k)).take 64) ++ List.replicate (64 - 64) (Value.int .u8 0) = bCells (cutAt data k) := by
              have hlt' := hlt
              have e1 : (data.drop (64 * k)).take 64 = (data.drop (64 * k)).take 64 := rfl
              unfold cutAt
              rw [e1, bCells_app, show 64 - (data.length - 64 * k) = 64 - 64 by rw [← HL.out]; have := HQ.out.1; omega]
              simp [bCells]
            have hsj := HSJ.out
            rw [hsec] at hsj
            have hc64 : (cutAt data k).length = 64 := by
              rcases cutAt_len data k with h | h
              · exact h
              · have := HL.out
                omega
            have hcv := run_str (c := 64) (in_block hsj)
            rw [hc64] at hcv
            have hlit : ∀ st, (wr.alloc (.cells #[.string st] 9)).ownsRow wr.heap.size 9 1 (.slice (some ⟨wr.heap.size, 0, none⟩) 1 1) 1 [.string st] := fun st => World.ownsRow_lit wr #[.string st] 1 (Nat.le_refl _) (by decide) rfl
            have hrw : ∀ st, (wr.alloc (.cells #[.string st] 9)).ownsRow w.heap.size 9 1 (.slice pv k cv) k (sCells ((cutS data).take k)) := fun st => (Chg.below (HBJ.out.alloc HBJ.out.size _) (fun _ => False)).own HROW.out (fun _ _ e => e)
            have hbs : ∀ st : ByteArray, w.heap.size ≤ (wr.alloc (.cells #[.string st] 9)).heap.size := fun st => by
              have := HB.out.size
              have := HBJ.out.size
              simp
              omega
            have HRW := Lib.hid hrw
            have HBS := Lib.hid hbs
            have hkl : k < (cutS data).length := by rw [cutS_len, ← HL.out]; omega
            have HNX := Lib.hid (show sCells ((cutS data).take (k + 1)) = sCells ((cutS data).take k) ++ [.string (bs (cutAt data k))] by
              rw [List.take_succ_eq_append_getElem hkl]
              simp [sCells, cutS])
            obtain ⟨st, hst⟩ : ∃ st, bs (cutAt data k) = st := ⟨_, rfl⟩
            rw [hst] at hcv
            have HST := Lib.hid hst
            obtain ⟨q', hq'⟩ : ∃ q', (if d = 64 then (some ⟨b, o + 64 * k, none⟩ : Option Addr) else some ⟨b, o + 64 * k + 64, none⟩) = some q' := by
              by_cases h : d = 64
              · exact ⟨_, if_pos h⟩
              · exact ⟨_, if_neg h⟩
            have HQ' := Lib.hid hq'
            have hjd : 64 ≤ (d : Int) := by omega
            have hj0 : (0 : Int) ≤ 64 := by omega
            have hkb : k ≤ 20000 := by omega
            have HHIT := Lib.hid (hlit st)
            clear hsec hsj hst hrw hbs hlit hc64
            go_wp2_with (at_builtin; refine wpList_append_lies _ rfl (.tmp 28) (.tmp 31) 24 rfl w.heap.size 9 i0 (.string ⟨#[]⟩) 1 16 Try.underlying24 hi hz0 hz1 hz2 rfl (by decide) _ k _ rfl (HRW.out st) ⟨wr.heap.size, 0, none⟩ 1 1 [.string st] rfl rfl (HHIT.out.cells rfl) (by simp; rfl) (by decide) (by unfold maxLen; omega) (by omega) (HBS.out st) _ rfl ?_; intro g7 cap7 w7 hrow7 hg7 _ _; have hb7 : Below w.heap.size w w7 := (Chg.grown hg7).on ((HB.out.trans (HBJ.out.mono HB.out.size)).alloc (by have := HB.out.size; have := HBJ.out.size; omega) _) (HBS.out st) (fun x hx => ((HRW.out st).lt x hx.symm).1); have HR7 := Lib.hid (show _ ∧ _ from ⟨hrow7, hb7⟩); clear hrow7 hg7 hb7)
            go_roundw
            case rel =>
              refine ⟨k + 1, q', _, _, some ⟨g7, 0, none⟩, cap7, by have := HM.out; have := HQ.out.1; omega, rfl, rfl, Lib.hid ⟨by have := HQ.out.1; omega, fun h => ⟨by have := HQ.out.1; have := HD.out; omega, ?_⟩⟩, Lib.hid ?_, Lib.hid HR7.out.2⟩
              · have h3 := HQ'.out
                rw [if_neg (by have := HQ.out.1; have := HD.out; omega)] at h3
                have h4 : q' = ⟨b, o + 64 * k + 64, none⟩ := (Option.some.injEq _ _ ▸ h3).symm
                rw [h4]
                congr 1
              · have h := HR7.out.1
                rw [HNX.out, HST.out]
                exact h
            case measure => simp [lenOf]; have := HM.out; omega
    · have hm : m = 0 := by have := HQ.out.1; omega
      subst hm
      have hkM : k = M := by have := HM.out; omega
      have HFIN := Lib.hid (show ((cutS data).take k) = cutS data from List.take_of_length_le (by rw [cutS_len, ← HL.out]; have := HM.out; omega))
      have HLEN := Lib.hid (show k = (cutS data).length by rw [cutS_len, ← HL.out, hkM]; exact HM.out)
      clear hkM
      go_wp2
      go_ret
      exact ⟨_, rfl, by have h := HROW.out; rw [HFIN.out] at h; rw [← HLEN.out]; exact h, HB.out⟩
end Go.Proofs.Ytgcifhhbhoafcaa
