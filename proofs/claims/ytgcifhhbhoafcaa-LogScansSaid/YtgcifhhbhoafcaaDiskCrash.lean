/-
  Crash.
-/
import Derived.Test.YtgcifhhbhoafcaaDiskKept
namespace Go.Proofs.Ytgcifhhbhoafcaa
open Go.RowKit Go.Shelf
attribute [local go_sem] Oper.semAt_some

set_option maxRecDepth 100000 in
set_option maxHeartbeats 8000000 in
theorem crash_any (D g : Nat) (S : List Sec) (v : Value) (ws : List Wq) (hws : ws.length ≤ 1000000) (p : Option Addr) (c : Nat) (ks : List Int) (hkl : ks.length ≤ 1000000) (lc : Int) (w : World) (H : DiskAt w D g S v ws lc) (hDg : D ≠ g) (hks : IntsAt w p ks) :
    Calls Try.prog 27 #[.pointer (some ⟨D, 0, none⟩), .slice p ks.length c] w fun e w' => e = .returned (.int .i64 ((keptOf (isKept ks) ws H.a64).length : Int)) ∧ DiskAt w' D g (doneS S (keptOf (isKept ks) ws H.a64)) (.slice none 0 0) [] (-1) ∧ Chg (fun k => k = D ∨ k = g) w w' := by
  have HH := Lib.hid H
  have hDl : D < w.heap.size := (Array.getElem?_eq_some_iff.1 H.box).1
  have hgl : g < w.heap.size := (Array.getElem?_eq_some_iff.1 H.dur).1
  have HREC := Lib.hid (fun (W : World) (hW : Below w.heap.size w W) => (H.on hW).box)
  obtain ⟨pv, cv, hv⟩ : ∃ pv cv, v = .slice pv ws.length cv := by
    rcases H.row.2 with ⟨rfl, h⟩ | ⟨gr, cap, cur, rfl, _⟩
    · exact ⟨none, 0, by rw [h]⟩
    · exact ⟨_, _, rfl⟩
  obtain ⟨M, hM⟩ : ∃ M, M = ws.length := ⟨_, rfl⟩
  obtain ⟨m, hm⟩ : ∃ m, m = ks.length := ⟨_, rfl⟩
  rw [← hM] at hv hws
  rw [← hm] at hkl ⊢
  have HM := Lib.hid hM
  have HV := Lib.hid hv
  have HMK := Lib.hid hm
  have HKS := Lib.hid hks
  have ha := H.a64
  obtain ⟨OUT, hout⟩ : ∃ OUT, OUT = keptOf (isKept ks) ws ha := ⟨_, rfl⟩
  rw [show keptOf (isKept ks) ws H.a64 = OUT from hout.symm]
  have HOUT := Lib.hid hout
  clear H hM hv hm hks hout
  have hmk := fun W => make_bools W M hws
  refine (callsIn_wide (n := 5)).1 ?_
  refine callsIn_of_wp_marks Try.func27 rfl trivial ?_ rfl
  simp only [Try.ntmps27, List.size_toArray, List.length_cons, List.length_nil, Nat.reduceAdd, Nat.reduceSub, Array.replicate_succ, Array.replicate_zero, List.push_toArray, List.append_toArray, List.nil_append, List.cons_append]
  have hb1 : Below w.heap.size w (w.alloc (.cells #[.pointer (some ⟨D, 0, none⟩)] 26)) := bA (Below.refl _ _) _
  have hB1 := heap_new w (.cells #[.pointer (some ⟨D, 0, none⟩)] 26)
  obtain ⟨_, kD1, _⟩ := (HREC.out _ hb1).cells
  rw [HV.out] at kD1
  have kB1 : (w.alloc (.cells #[.pointer (some ⟨D, 0, none⟩)] 26)).cell? ⟨w.heap.size, 0, none⟩ = some (.pointer (some ⟨D, 0, none⟩)) := by rw [cell_in hB1]; rfl
  have HB1 := Lib.hid hb1
  have HX1 := Lib.hid hB1
  have hs1 : (w.alloc (.cells #[.pointer (some ⟨D, 0, none⟩)] 26)).heap.size = w.heap.size + 1 := by simp
  have HS1 := Lib.hid hs1
  clear hb1 hB1 hs1
  gi_wp2
  have hb3 : Below w.heap.size w (((w.alloc (.cells #[.pointer (some ⟨D, 0, none⟩)] 26)).alloc (.cells (kCells (isKept []) M).toArray 4)).alloc (.cells #[.slice (some ⟨w.heap.size + 1, 0, none⟩) M M] 102)) := bA (bA HB1.out _) _
  have hB3 : (((w.alloc (.cells #[.pointer (some ⟨D, 0, none⟩)] 26)).alloc (.cells (kCells (isKept []) M).toArray 4)).alloc (.cells #[.slice (some ⟨w.heap.size + 1, 0, none⟩) M M] 102)).heap[w.heap.size]? = some (.cells #[.pointer (some ⟨D, 0, none⟩)] 26 (0, 0)) := (Below.heap_alloc _ _ _ (by simp; omega)).trans ((Below.heap_alloc _ _ _ (by simp)).trans HX1.out)
  have hK3 : (((w.alloc (.cells #[.pointer (some ⟨D, 0, none⟩)] 26)).alloc (.cells (kCells (isKept []) M).toArray 4)).alloc (.cells #[.slice (some ⟨w.heap.size + 1, 0, none⟩) M M] 102)).heap[w.heap.size + 1]? = some (.cells (kCells (isKept []) M).toArray 4 (0, 0)) := (Below.heap_alloc _ _ _ (by simp)).trans (by simpa using heap_new (w.alloc (.cells #[.pointer (some ⟨D, 0, none⟩)] 26)) (.cells (kCells (isKept []) M).toArray 4))
  have hT3 : (((w.alloc (.cells #[.pointer (some ⟨D, 0, none⟩)] 26)).alloc (.cells (kCells (isKept []) M).toArray 4)).alloc (.cells #[.slice (some ⟨w.heap.size + 1, 0, none⟩) M M] 102)).heap[w.heap.size + 1 + 1]? = some (.cells #[.slice (some ⟨w.heap.size + 1, 0, none⟩) M M] 102 (0, 0)) := by simpa using heap_new ((w.alloc (.cells #[.pointer (some ⟨D, 0, none⟩)] 26)).alloc (.cells (kCells (isKept []) M).toArray 4)) (.cells #[.slice (some ⟨w.heap.size + 1, 0, none⟩) M M] 102)
  have hs3 : (((w.alloc (.cells #[.pointer (some ⟨D, 0, none⟩)] 26)).alloc (.cells (kCells (isKept []) M).toArray 4)).alloc (.cells #[.slice (some ⟨w.heap.size + 1, 0, none⟩) M M] 102)).heap.size = w.heap.size + 3 := by simp
  clear kB1 kD1 HX1 HB1 HS1 hmk
  generalize ((w.alloc (.cells #[.pointer (some ⟨D, 0, none⟩)] 26)).alloc (.cells (kCells (isKept []) M).toArray 4)).alloc (.cells #[.slice (some ⟨w.heap.size + 1, 0, none⟩) M M] 102) = w3 at *
  obtain ⟨B, hB⟩ : ∃ B, w.heap.size = B := ⟨_, rfl⟩
  have HBE := Lib.hid hB
  rw [hB] at hb3 hB3 hK3 hT3 hs3 hDl hgl ⊢
  clear hB
  have HB3 := Lib.hid hb3
  have HX3 := Lib.hid hB3
  have HK3 := Lib.hid hK3
  have HT3 := Lib.hid hT3
  have HS3 := Lib.hid hs3
  clear hb3 hB3 hK3 hT3 hs3
  gi_loopw [19] (fun s19 wr => ∃ i : Nat, i ≤ m ∧ s19 = .int .i64 i ∧ Hid (wr.heap[B + 1]? = some (.cells (kCells (isKept (ks.take i)) M).toArray 4 (0, 0))) ∧ Hid (Chg (fun k => k = B + 1) w3 wr)) (fun s19 _ => m - (intOf s19).toNat)
  case atStart => exact ⟨0, Nat.zero_le _, rfl, Lib.hid (by rw [List.take_zero]; exact HK3.out), Lib.hid (Chg.refl _ _)⟩
  case round =>
    obtain ⟨i, hi, rfl, HKR, HCH⟩ := hrel
    by_cases hlt : i < m
    · have d1 : decide ((i : Int) < (m : Int)) = true := decide_eq_true (by omega)
      have d1' : decide (i < m) = true := decide_eq_true hlt
      have hik : i < ks.length := by have := HMK.out; omega
      obtain ⟨b, o, hp, kk0⟩ := HKS.out i hik
      subst hp
      have hbw := World.block_lt_of_cell? w _ kk0
      have hbB : b < B := by rw [HBE.out] at hbw; exact hbw
      have kk : wr.cell? ⟨b, o + i, none⟩ = some (.int .i64 ks[i]) := (World.cell?_of_block (w := w3) (a := ⟨b, o + i, none⟩) (HCH.out.block b (by have := HS3.out; omega) (by omega))).trans ((World.cell?_of_block (w := w) (a := ⟨b, o + i, none⟩) (HB3.out.block b hbB)).trans kk0)
      have kT : wr.cell? ⟨B + 1 + 1, 0, none⟩ = some (.slice (some ⟨B + 1, 0, none⟩) M M) := by rw [cell_in (HCH.out.box HT3.out (by omega))]; rfl
      have HSKIP := Lib.hid (kCells_skip ks i hik M)
      have HSET := Lib.hid (kCells_set ks i hik M)
      obtain ⟨z, hz⟩ : ∃ z, ks[i] = z := ⟨_, rfl⟩
      rw [hz] at kk HSKIP HSET
      clear kk0 hz hbw
      by_cases hz0 : z < 0 ∨ (M : Int) ≤ z
      · have HNX := Lib.hid (HSKIP.out hz0)
        by_cases hz1 : z < 0
        · have e1 : decide ((0 : Int) ≤ z) = false := decide_eq_false (by omega)
          clear hz0
          gi_wp2
          go_roundw
          case rel => exact ⟨i + 1, by omega, by go_num, Lib.hid (by rw [HNX.out]; exact HKR.out), HCH⟩
          case measure => simp [intOf]; omega
        · have e1 : decide ((0 : Int) ≤ z) = true := decide_eq_true (by omega)
          have e2 : decide (z < (M : Int)) = false := decide_eq_false (by omega)
          clear hz0
          gi_wp2
          go_roundw
          case rel => exact ⟨i + 1, by omega, by go_num, Lib.hid (by rw [HNX.out]; exact HKR.out), HCH⟩
          case measure => simp [intOf]; omega
      · obtain ⟨n, rfl⟩ : ∃ n : Nat, z = (n : Int) := ⟨z.toNat, by omega⟩
        have hnM : n < M := by omega
        have e1 : decide ((0 : Int) ≤ (n : Int)) = true := decide_eq_true (by omega)
        have e2 : decide ((n : Int) < (M : Int)) = true := decide_eq_true (by omega)
        have e3 : decide (n < M) = true := decide_eq_true hnM
        have j0 : (0 : Int) ≤ (n : Int) := by omega
        have j1 : (n : Int) < (M : Int) := by omega
        have kN : wr.cell? ⟨B + 1, n, none⟩ = some (.bool (isKept (ks.take i) n)) := by rw [cell_in HKR.out, List.getElem?_toArray]; exact kCells_at _ _ _ hnM
        have fN := frozen_in HKR.out n
        have HNX := Lib.hid (show (wr.setCell ⟨B + 1, n, none⟩ (.bool true)).heap[B + 1]? = some (.cells (kCells (isKept (ks.take (i + 1))) M).toArray 4 (0, 0)) by
          rw [setCell_eq_setRow wr (B + 1) n _ _ _ _ HKR.out, setRow_heap wr (B + 1) _ _ _ _ HKR.out, List.setIfInBounds_toArray, HSET.out n rfl])
        have HC2 := Lib.hid (HCH.out.trans (Chg.setCell wr ⟨B + 1, n, none⟩ (.bool true)))
        clear hz0
        gi_wp2
        go_roundw
        case rel => exact ⟨i + 1, by omega, by go_num, HNX, HC2⟩
        case measure => simp [intOf]; omega
    · have d1 : decide ((i : Int) < (m : Int)) = false := decide_eq_false (by omega)
      have d1' : decide (i < m) = false := decide_eq_false hlt
      have hki : ks.take i = ks := List.take_of_length_le (by have := HMK.out; omega)
      have HKR2 := Lib.hid (show wr.heap[B + 1]? = some (.cells (kCells (isKept ks) M).toArray 4 (0, 0)) by rw [← hki]; rw [hki]; have := HKR.out; rw [hki] at this; exact this)
      clear hki
      gi_wp2
      have hP5 : (wr.alloc (.cells #[.int .i64 0] 3)).heap[wr.heap.size]? = some (.cells #[.int .i64 0] 3 (0, 0)) := heap_new wr _
      have hC5 : Chg (fun k => k = B + 1) w3 (wr.alloc (.cells #[.int .i64 0] 3)) := HCH.out.trans (Chg.alloc _ wr _)
      have hK5 : (wr.alloc (.cells #[.int .i64 0] 3)).heap[B + 1]? = some (.cells (kCells (isKept ks) M).toArray 4 (0, 0)) := (Chg.alloc (fun _ => False) wr (.cells #[.int .i64 0] 3)).box HKR2.out (fun e => e)
      have hs5 : (wr.alloc (.cells #[.int .i64 0] 3)).heap.size = wr.heap.size + 1 := by simp
      have hPB : B + 3 ≤ wr.heap.size := by have := HCH.out.size; have := HS3.out; omega
      generalize wr.alloc (.cells #[.int .i64 0] 3) = w5 at *
      generalize wr.heap.size = P at *
      have hb5 : Below w.heap.size w w5 := hC5.on (by rw [HBE.out]; exact HB3.out) (by rw [HBE.out]; have := HS3.out; omega) (fun k hk => by rw [hk, HBE.out]; omega)
      have hB5 := hC5.box HX3.out (by omega)
      have hT5 := hC5.box HT3.out (by omega)
      have c5 : w5.cell? ⟨B, 0, none⟩ = some (.pointer (some ⟨D, 0, none⟩)) := by rw [cell_in hB5]; rfl
      have HC5 := Lib.hid (fun W (hW : Below w5.heap.size w5 W) => ((hW.cell (p := ⟨B, 0, none⟩) (by rw [hs5]; show B < _; omega)).trans c5 : W.cell? ⟨B, 0, none⟩ = _))
      have HB5 := Lib.hid hb5
      have HP5 := Lib.hid hP5
      have HK5 := Lib.hid hK5
      have HX5 := Lib.hid hB5
      have HT5 := Lib.hid hT5
      have HS5 := Lib.hid hs5
      clear hb5 hP5 hK5 hB5 hT5 hC5 HCH HKR HKR2 HX3 HK3 HT3 HS3 HB3
      refine wpIn_wide.2 ?_
      refine wp_region_noPanic ?_
      refine wp_region_held_drew (S := fun W => Below w5.heap.size w5 W ∧ W.cell? ⟨B, 0, none⟩ = some (.pointer (some ⟨D, 0, none⟩))) (by kernel_rfl) (⟨bD (Below.refl _ _), HC5.out _ (bD (Below.refl _ _))⟩) (fun hHeld => ?_)
      refine wpAnyH_take (i := 0) (v := ?_) rfl (by kernel_rfl) (by kernel_rfl) (by kernel_rfl) (fun _ _ _ h => h) (Or.inl ⟨by rfl, ?_⟩) (by assumption) ?_
      rotate_left
      · (intro w hSw; (try dsimp only at hSw); go_simp; try (with_reducible rfl))
      try simp only [Act.put, List.setIfInBounds_toArray, List.set_cons_zero, List.set_cons_succ, List.getElem_toArray, List.getElem_cons_zero]
      refine wpAnyH_take (i := 1) (v := ?_) rfl (by kernel_rfl) (by kernel_rfl) (by kernel_rfl) (fun _ _ _ h => h) (Or.inl ⟨by rfl, ?_⟩) (by assumption) ?_
      rotate_left
      · (intro w hSw; (try dsimp only at hSw); go_simp; try (with_reducible rfl))
      try simp only [Act.put, List.setIfInBounds_toArray, List.set_cons_zero, List.set_cons_succ, List.getElem_toArray, List.getElem_cons_zero, List.getElem_cons_succ]
      refine wpAnyH_ready (rs := [2]) (by kernel_rfl) (by simp) ?_
      refine AllReadyH.cons rfl (fun K hK => ?_) AllReadyH.nil
      go_simp
      go_at_call 47
      refine (size_any D g S.length v lc _ (HREC.out _ (bT HB5.out (bD (Below.refl _ _))))).mono ?_
      rintro e3 w3' ⟨rfl, rfl⟩
      refine hK.out _ _ (⟨bD (Below.refl _ _), HC5.out _ (bD (Below.refl _ _))⟩) (fun hHeld2 => ?_)
      clear hK K hHeld
      have hHeld := hHeld2
      clear hHeld2
      try simp only [Act.put, List.setIfInBounds_toArray, List.set_cons_zero, List.set_cons_succ, List.getElem_toArray, List.getElem_cons_zero, List.getElem_cons_succ]
      refine wpAnyH_ready (rs := [3]) (by kernel_rfl) (by simp) ?_
      refine AllReadyH.cons rfl (fun K hK => ?_) AllReadyH.nil
      go_simp
      go_at_call 46
      refine (pending_any D 0 S.length _).mono ?_
      rintro e4 w6 ⟨rfl, hw6⟩
      have hwl : Below w5.heap.size w5 w6 := by rw [hw6]; exact bA (bA (bA (bD (Below.refl _ _)) _) _) _
      refine hK.out _ _ (⟨hwl, HC5.out _ hwl⟩) (fun hHeld2 => ?_)
      clear hK K hHeld
      have hHeld := hHeld2
      clear hHeld2
      try simp only [Act.put, List.setIfInBounds_toArray, List.set_cons_zero, List.set_cons_succ, List.getElem_toArray, List.getElem_cons_zero, List.getElem_cons_succ]
      refine wpAnyH_done (by kernel_rfl) ?_ _
      refine NoPanic.normal ?_
      simp only [World.size_drew, HS5.out]
      have hs5' : w5.drew.heap.size = P + 1 := by rw [World.size_drew, HS5.out]
      have hbD : w6.heap[P + 1]? = some (.cells #[.pointer (some ⟨D, 0, none⟩)] 26 (0, 0)) := by
        rw [hw6, ← hs5']
        exact (Below.heap_alloc _ _ _ (by simp; omega)).trans ((Below.heap_alloc _ _ _ (by simp)).trans (heap_new w5.drew _))
      have hbA : w6.heap[P + 1 + 1]? = some (.cells #[.int .i64 0] 3 (0, 0)) := by
        rw [hw6, ← hs5']
        exact (Below.heap_alloc _ _ _ (by simp)).trans (by simpa using heap_new (w5.drew.alloc (.cells #[.pointer (some ⟨D, 0, none⟩)] 26)) (.cells #[.int .i64 0] 3))
      have hbN : w6.heap[P + 1 + 1 + 1]? = some (.cells #[.int .i64 (S.length : Int)] 3 (0, 0)) := by
        rw [hw6, ← hs5']
        simpa using heap_new ((w5.drew.alloc (.cells #[.pointer (some ⟨D, 0, none⟩)] 26)).alloc (.cells #[.int .i64 0] 3)) (.cells #[.int .i64 (S.length : Int)] 3)
      have hs6 : w6.heap.size = P + 4 := by rw [hw6]; simp; have := HS5.out; omega
      have hb06 : Below w.heap.size w w6 := bT HB5.out hwl
      have hc6 := Chg.below hwl (fun _ => False)
      have HD6 := Lib.hid (HH.out.on hb06)
      have HX6 := Lib.hid (hc6.box HX5.out (fun e => e))
      have HT6 := Lib.hid (hc6.box HT5.out (fun e => e))
      have HK6 := Lib.hid (hc6.box HK5.out (fun e => e))
      have HP6 := Lib.hid (hc6.box HP5.out (fun e => e))
      have HBD := Lib.hid hbD
      have HBA := Lib.hid hbA
      have HBN := Lib.hid hbN
      have HS6 := Lib.hid hs6
      have HB6 := Lib.hid hb06
      clear hbD hbA hbN hs6 hb06 hc6 hw6 hwl hHeld HC5 HX5 HT5 HK5 HP5 HB5 hs5' c5
      gi_wp2
      obtain ⟨Z, hZs, hz⟩ := zero_wr
      have hwM : ws.length ≤ 1000000 := by have := HM.out; omega
      have hkl6 : ∀ k, k = P + 1 ∨ k = P + 1 + 1 ∨ k = P + 1 + 1 + 1 ∨ v.ownBlock = some k → k < w6.heap.size := fun k hk => by
        have := HS6.out
        rcases hk with rfl | rfl | rfl | hk
        · omega
        · omega
        · omega
        · exact (HD6.out.row.lt k hk).2
      have hvw : ∀ k, v.ownBlock = some k → k < B := fun k hk => by
        have := (HH.out.row.lt k hk).2
        rw [HBE.out] at this
        exact this
      refine wpIn_rangeFunc_ownH (n := 5) (α := Pw S.length ws.length) rfl (by decide) (gf := 61) (lb := #[.pointer (some ⟨P + 1, 0, none⟩), .pointer (some ⟨P + 1 + 1, 0, none⟩), .pointer (some ⟨P + 1 + 1 + 1, 0, none⟩)]) rfl trivial (enters_of Try.func61 (by kernel_rfl) rfl)
        (pend_stops 4 (P + 1) (P + 1 + 1) (P + 1 + 1 + 1) D g S.length 0 S.length lc v ws (fun x hx => ⟨Nat.zero_le _, by have := (ha x hx).1; omega⟩) (by have := HD6.out.few; omega) ha hwM HD6.out.few w6 HBD.out HBA.out HBN.out HD6.out.box (D + 1) HD6.out.row) KeepB.trans
        (fun W l o o' hl ho _ _ => ⟨by simp, fun k hk => World.putObj_heap_other (fun e => by have := hkl6 k hk; omega)⟩) (Below.refl _ _) (fun _ => rfl)
        (fun pre W => (W.heap[g]? = some (.cells (dCells (doneS S (kp ks pre))).toArray 82 (0, 0)) ∧ W.heap[P]? = some (.cells #[.int .i64 ((kp ks pre).length : Int)] 3 (0, 0))) ∧ Chg (fun k => k = g ∨ k = P) w6 W)
        (fun _ _ _ => False)
        (OwnFrom.and (OwnFrom.and (Own.from (cells_own g (fun pre : List (Pw S.length ws.length) => .cells (dCells (doneS S (kp ks pre))).toArray 82 (0, 0)) (fun _ => rfl)) _) (Own.from (cells_own P (fun pre : List (Pw S.length ws.length) => .cells #[.int .i64 ((kp ks pre).length : Int)] 3 (0, 0)) (fun _ => rfl)) _)) (ownFrom_chg (Nat.le_refl _)))
        (fun _ _ _ _ _ hs _ _ => hs)
        ⟨⟨HD6.out.dur, HP6.out⟩, Chg.refl _ _⟩
        (fun x a' W => ∃ Bx, P + 4 ≤ Bx ∧ W.heap[Bx]? = some (.cells (wCell x.1.2).toArray 84 (0, 0)) ∧ a' = { tmps := #[ .pointer (some ⟨D, 0, none⟩), .slice p m c, .pointer (some ⟨B, 0, none⟩), undef, .int .i64 0, .pointer (some ⟨B + 1 + 1, 0, none⟩), undef, u7, .pointer (some ⟨P, 0, none⟩), .int .i64 (x.1.1 : Int), .pointer (some ⟨Bx, 0, none⟩), .pointer (some ⟨D, 0, none⟩), .pointer (some ⟨D, 0, none⟩), .pointer (some ⟨D, 1, none⟩), .slice pv M cv, .int .i64 M, .slice (some ⟨B + 1, 0, none⟩) M M, .slice p m c, .int .i64 m, .int .i64 i, .bool false, u21, u22, u23, u24, u25, u26, u27, u28, u29, u30, u31, u32, u33, u34, .pointer (some ⟨D, 0, none⟩), .pointer (some ⟨D, 0, none⟩), .int .i64 (S.length : Int), .func (.func 61) #[] #[.pointer (some ⟨P + 1, 0, none⟩), .pointer (some ⟨P + 1 + 1, 0, none⟩), .pointer (some ⟨P + 1 + 1 + 1, 0, none⟩)], .int .i64 (x.1.1 : Int), .agg (wCell x.1.2).toArray, undef, undef, undef, undef, undef, undef, undef, undef, undef, undef, undef, undef, undef, undef, undef, undef, undef, undef, undef, undef, undef, undef], defers := [] })
        (fun x a' _ W W' row hs hg hr => by
          obtain ⟨Bx, h1, h2, h3⟩ := hs
          refine ⟨Bx, h1, (hg.block Bx (Array.getElem?_eq_some_iff.1 h2).1 (fun e => ?_)).trans h2, h3⟩
          obtain ⟨_, o, ho, hc⟩ := hr Bx e.symm
          rw [h2] at ho
          cases ho
          cases hc) ?assign ?body ?done ?stop
      case assign =>
        intro l pre x W K hI hK
        obtain ⟨⟨num, xw⟩, hx1, hx2, hx3⟩ := x
        have hx64 : xw.2.length = 64 := hx3
        have hcl : (wCell xw).length = 65 := wCell_len hx64
        have hi65 : (Try.prog.info? 84).map (·.size) = some (wCell xw).length := by rw [hcl]; exact size_wr
        have hall : (wCell xw).toArray.all (·.oneCell') = true := all_oneCell_toArray (wCell_one xw)
        have HI := Lib.hid hI
        have HI65 := Lib.hid hi65
        have HALL := Lib.hid hall
        have HCL := Lib.hid hcl
        have HZS := Lib.hid hZs
        have HK := Lib.hid hK
        clear hI hi65 hall hcl hZs hx64 hK
        simp only [encP]
        gi_wp2_with (refine list_in (ro := some l) (by simp) rfl (fun K hK => ?_); refine wp_store_new 84 (.tmp 10) (.tmp 40) rfl Z (wCell xw).toArray rfl rfl (by rw [HI65.out]; simp) (by rw [HZS.out]; simp [HCL.out]) HALL.out (hK _ _ ?_))
        refine HK.out _ _ ((KeepsOthers.alloc _ _).from _) (KeepB.chg (Chg.alloc (fun _ => False) W _) (fun k hk => ⟨Nat.lt_of_lt_of_le (hkl6 k hk) HI.out.2.size, fun e => e⟩)) ⟨⟨(Chg.alloc (fun _ => False) W _).box HI.out.1.1 (fun e => e), (Chg.alloc (fun _ => False) W _).box HI.out.1.2 (fun e => e)⟩, HI.out.2.trans (Chg.alloc _ W _)⟩ ⟨W.heap.size, by have := HI.out.2.size; have := HS6.out; omega, heap_new W _, rfl⟩
      case body =>
        rintro l pre x a' W hl hr ⟨⟨hdur, hper⟩, hchg⟩ ⟨Bx, hB4, hbx, rfl⟩ hlt
        obtain ⟨⟨num, xw⟩, hx1, hx2, hx3⟩ := x
        have hx1' : num < M := by have := HM.out; have h : num < ws.length := hx1; omega
        have hx2' : xw.1 < S.length := hx2
        have hx3' : xw.2.length = 64 := hx3
        have hXB := hchg.box HX6.out (by omega)
        have hXT := hchg.box HT6.out (by omega)
        have hXK := hchg.box HK6.out (by omega)
        have hRD : Rec W D g S.length v lc := hchg.box HD6.out.box (by omega)
        have kT : W.cell? ⟨B + 1 + 1, 0, none⟩ = some (.slice (some ⟨B + 1, 0, none⟩) M M) := by rw [cell_in hXT]; rfl
        have kK : W.cell? ⟨B + 1, num, none⟩ = some (.bool (isKept ks num)) := by rw [cell_in hXK, List.getElem?_toArray]; exact kCells_at _ _ _ hx1'
        have q0 : (0 : Int) ≤ (num : Int) := by omega
        have q1 : (num : Int) < (M : Int) := by omega
        have HDUR := Lib.hid hdur
        have HPER := Lib.hid hper
        have HCHG := Lib.hid hchg
        have hKeep : ∀ (W' : World), Chg (fun k => k = g ∨ k = P) W W' → KeepB (fun k => k = P + 1 ∨ k = P + 1 + 1 ∨ k = P + 1 + 1 + 1 ∨ v.ownBlock = some k) W W' := fun W' hc => KeepB.chg hc (fun k hk => ⟨Nat.lt_of_lt_of_le (hkl6 k hk) HCHG.out.size, fun e => by
          rcases e with e | e
          · subst e
            rcases hk with h | h | h | h
            · omega
            · omega
            · omega
            · exact own_ne HD6.out.row HD6.out.dur (by decide) h
          · subst e
            rcases hk with h | h | h | h
            · omega
            · omega
            · omega
            · have := hvw _ h
              omega⟩)
        have HKEEP := Lib.hid hKeep
        cases hkn : isKept ks num with
        | false =>
          have HNX := Lib.hid (show kp ks (pre ++ [(⟨(num, xw), hx1, hx2, hx3⟩ : Pw S.length ws.length)]) = kp ks pre by simp [kp, hkn])
          rw [hkn] at kK
          clear hdur hper hchg hXB hXT hXK hRD hbx hKeep
          gi_wp2
          exact ⟨(KeepsOthers.refl W).from _, HKEEP.out W (Chg.refl _ _), by rw [HNX.out]; exact ⟨HDUR.out, HPER.out⟩, HCHG.out⟩
        | true =>
          rw [hkn] at kK
          have HNX := Lib.hid (show kp ks (pre ++ [(⟨(num, xw), hx1, hx2, hx3⟩ : Pw S.length ws.length)]) = kp ks pre ++ [xw] by simp [kp, hkn])
          have hcnt : (kp ks pre).length ≤ 1000000 := by
            have h1 : (kp ks pre).length ≤ pre.length := by unfold kp; rw [List.length_map]; exact List.length_filter_le _ _
            omega
          have kB : W.drew.cell? ⟨B, 0, none⟩ = some (.pointer (some ⟨D, 0, none⟩)) := by show W.cell? _ = _; rw [cell_in hXB]; rfl
          have kD : W.drew.cell? ⟨D, 0, none⟩ = some (.slice (some ⟨g, 0, none⟩) S.length S.length) := hRD.cells.1
          have kX : W.drew.cell? ⟨Bx, 0, none⟩ = some (.int .i64 (xw.1 : Int)) := by show W.cell? _ = _; rw [cell_in hbx]; rfl
          have kR : W.drew.rangeAt Bx 1 (bCells xw.2) := fun j u hj => by
            show W.cell? _ = _
            rw [cell_in hbx, List.getElem?_toArray, Nat.add_comm 1 j]
            exact hj
          have hSl : (doneS S (kp ks pre)).length = S.length := doneS_len _ _
          have hS64 : ∀ s ∈ doneS S (kp ks pre), s.length = 64 := doneS_64 HD6.out.s64 (fun y hy => by
            obtain ⟨z, _, rfl⟩ := List.mem_map.1 hy
            exact z.2.2.2)
          have hth : W.drew.there g (xw.1 * 64) (bCells xw.2).toArray.size := by
            refine there_in (W := W.drew) hdur _ _ ?_
            rw [List.size_toArray, List.size_toArray, dCells_len hS64, hSl, bCells_len, hx3']
            omega
          have hgX : Bx ≠ g := by omega
          have hgB : B ≠ g := by omega
          have hgP : P ≠ g := by omega
          have j0 : (0 : Int) ≤ (xw.1 : Int) := by omega
          have j1 : (xw.1 : Int) < (S.length : Int) := by omega
          have HTH := Lib.hid hth
          have HSL := Lib.hid hSl
          have HS64 := Lib.hid hS64
          have HX3 := Lib.hid hx3'
          have HCNT := Lib.hid hcnt
          clear hdur hper hchg hth hSl hS64 hXB hXT hXK hRD hbx hKeep
          gi_wp2
          refine region_round (S := fun X => X.cell? ⟨B, 0, none⟩ = some (.pointer (some ⟨D, 0, none⟩)) ∧ X.cell? ⟨D, 0, none⟩ = some (.slice (some ⟨g, 0, none⟩) S.length S.length) ∧ X.cell? ⟨Bx, 0, none⟩ = some (.int .i64 (xw.1 : Int)) ∧ X.rangeAt Bx 1 (bCells xw.2)) (by kernel_rfl) (by rintro ⟨_, _, h⟩; exact h) (by kernel_rfl) (⟨kB, kD, kX, kR⟩) (fun hHeld => ?_)
          refine wpAnyH_take (i := 0) (v := ?_) rfl (by kernel_rfl) (by kernel_rfl) (by kernel_rfl) (fun _ _ _ h => h) (Or.inl ⟨by rfl, ?_⟩) (by assumption) ?_
          rotate_left
          · (intro w hSw; (try dsimp only at hSw); go_simp; try (with_reducible rfl))
          try simp only [Act.put, List.setIfInBounds_toArray, List.set_cons_zero, List.set_cons_succ, List.getElem_toArray, List.getElem_cons_zero]
          refine wpAnyH_take (i := 1) (v := ?_) rfl (by kernel_rfl) (by kernel_rfl) (by kernel_rfl) (fun _ _ _ h => h) (Or.inl ⟨by rfl, ?_⟩) (by assumption) ?_
          rotate_left
          · (intro w hSw; (try dsimp only at hSw); go_simp; try (with_reducible rfl))
          try simp only [Act.put, List.setIfInBounds_toArray, List.set_cons_zero, List.set_cons_succ, List.getElem_toArray, List.getElem_cons_zero, List.getElem_cons_succ]
          refine wpAnyH_take (i := 2) (v := ?_) rfl (by kernel_rfl) (by kernel_rfl) (by kernel_rfl) (fun _ _ _ h => h) (Or.inl ⟨by rfl, ?_⟩) (by assumption) ?_
          rotate_left
          · (intro w hSw; (try dsimp only at hSw); go_simp; try (with_reducible rfl))
          try simp only [Act.put, List.setIfInBounds_toArray, List.set_cons_zero, List.set_cons_succ, List.getElem_toArray, List.getElem_cons_zero, List.getElem_cons_succ]
          refine wpAnyH_take (i := 3) (v := ?_) rfl (by kernel_rfl) (by kernel_rfl) (by kernel_rfl) (fun _ _ _ h => h) (Or.inl ⟨by rfl, ?_⟩) (by assumption) ?_
          rotate_left
          · (intro w hSw; (try dsimp only at hSw); go_simp; try (with_reducible rfl))
          try simp only [Act.put, List.setIfInBounds_toArray, List.set_cons_zero, List.set_cons_succ, List.getElem_toArray, List.getElem_cons_zero, List.getElem_cons_succ]
          refine wpAnyH_take (i := 4) (v := ?_) rfl (by kernel_rfl) (by kernel_rfl) (by kernel_rfl) (fun _ _ _ h => h) (Or.inl ⟨by rfl, ?_⟩) (by assumption) ?_
          rotate_left
          · (intro w hSw; (try dsimp only at hSw); go_simp; try (with_reducible rfl))
          try simp only [Act.put, List.setIfInBounds_toArray, List.set_cons_zero, List.set_cons_succ, List.getElem_toArray, List.getElem_cons_zero, List.getElem_cons_succ]
          refine wpAnyH_take (i := 5) (v := ?_) rfl (by kernel_rfl) (by kernel_rfl) (by kernel_rfl) (fun _ _ _ h => h) (Or.inl ⟨by rfl, ?_⟩) (by assumption) ?_
          rotate_left
          · (intro w hSw; (try dsimp only at hSw); go_simp; try (with_reducible rfl))
          try simp only [Act.put, List.setIfInBounds_toArray, List.set_cons_zero, List.set_cons_succ, List.getElem_toArray, List.getElem_cons_zero, List.getElem_cons_succ]
          refine wpAnyH_take (i := 6) (v := ?_) rfl (by kernel_rfl) (by kernel_rfl) (by kernel_rfl) (fun _ _ _ h => h) (Or.inl ⟨by rfl, ?_⟩) (by assumption) ?_
          rotate_left
          · (intro w hSw; (try dsimp only at hSw); go_simp; try (with_reducible rfl))
          try simp only [Act.put, List.setIfInBounds_toArray, List.set_cons_zero, List.set_cons_succ, List.getElem_toArray, List.getElem_cons_zero, List.getElem_cons_succ]
          refine wpAnyH_take (i := 7) (v := .agg (bCells xw.2).toArray) rfl (by kernel_rfl) (by kernel_rfl) (by kernel_rfl) (fun _ _ _ h => h) (yieldsIf_load_mid (by rfl) 82 (.tmp 51) rfl Bx (1) rfl (bCells xw.2) _ (fun X hX => hX.2.2.2) Try.underlying82 rfl (by rw [bCells_len, HX3.out]; exact size_sec)) (by assumption) ?_
          try simp only [Act.put, List.setIfInBounds_toArray, List.set_cons_zero, List.set_cons_succ, List.getElem_toArray, List.getElem_cons_zero, List.getElem_cons_succ]
          refine wpAnyH_take (i := 8) (v := ?_) rfl (by kernel_rfl) (by kernel_rfl) (by kernel_rfl) (fun _ _ _ h => h) (Or.inl ⟨by rfl, ?_⟩) (by assumption) ?_
          rotate_left
          · (intro w hSw; (try dsimp only at hSw); go_simp; try (with_reducible rfl))
          try simp only [Act.put, List.setIfInBounds_toArray, List.set_cons_zero, List.set_cons_succ, List.getElem_toArray, List.getElem_cons_zero, List.getElem_cons_succ]
          refine wpAnyH_ready (rs := [9]) (by kernel_rfl) (by simp) ?_
          refine AllReadyH.cons rfl (fun K hK => ?_) AllReadyH.nil
          rw [if_pos (by rfl)]
          refine wp_store_mid 82 (.tmp 53) (.tmp 52) rfl g (xw.1 * 64) (bCells xw.2).toArray rfl rfl HTH.out (by rw [List.size_toArray, bCells_len, HX3.out]; exact size_sec) (all_oneCell_toArray (bCells_one _)) ?_
          rw [List.toList_toArray]
          have hout : ∀ q : Addr, q.block ≠ g → (W.drew.setCells g (xw.1 * 64) (bCells xw.2)).cell? q = W.drew.cell? q := fun q hq => World.cell?_setCells_out g _ _ _ q (fun e _ => absurd e hq)
          refine hK.out _ _ (⟨(hout _ hgB).trans kB, (hout _ hDg).trans kD, (hout _ hgX).trans kX, World.rangeAt_setCells_apart kR g _ _ (.inl hgX)⟩) (fun hHeld2 => ?_)
          clear hK K hHeld
          have hHeld := hHeld2
          clear hHeld2
          refine wpAnyH_done (by kernel_rfl) ?_ _
          have hcs := (Chg.drew (fun k => k = g) W).trans (chg_setCells g (bCells xw.2) (xw.1 * 64) W.drew)
          have hP7 : (W.drew.setCells g (xw.1 * 64) (bCells xw.2)).heap[P]? = some (.cells #[.int .i64 ((kp ks pre).length : Int)] 3 (0, 0)) := hcs.box HPER.out hgP
          have hG7 : (W.drew.setCells g (xw.1 * 64) (bCells xw.2)).heap[g]? = some (.cells (dCells ((doneS S (kp ks pre)).set xw.1 xw.2)).toArray 82 (0, 0)) := dur_set (W := W.drew) HDUR.out HS64.out xw.1 (by rw [HSL.out]; exact hx2') xw.2 HX3.out
          have hO7 := (KeepsOthers.drew W).trans (keeps_setCells g (bCells xw.2) (xw.1 * 64) W.drew)
          generalize W.drew.setCells g (xw.1 * 64) (bCells xw.2) = W7 at *
          have kP7 : W7.cell? ⟨P, 0, none⟩ = some (.int .i64 ((kp ks pre).length : Int)) := by rw [cell_in hP7]; rfl
          have fP7 := frozen_in hP7 0
          have HP7 := Lib.hid (show (W7.setCell ⟨P, 0, none⟩ (.int .i64 ((kp ks pre).length + 1 : Int))).heap[P]? = some (.cells #[.int .i64 ((kp ks pre).length + 1 : Int)] 3 (0, 0)) by
            rw [setCell_eq_setRow W7 P 0 _ _ _ _ hP7, setRow_heap W7 P _ _ _ _ hP7]
            rfl)
          have HG7 := Lib.hid hG7
          have HO7 := Lib.hid hO7
          have HCS := Lib.hid hcs
          obtain ⟨cnt, hcn⟩ : ∃ cnt, cnt = (kp ks pre).length := ⟨_, rfl⟩
          rw [← hcn] at kP7 HP7
          have hcb : cnt ≤ 1000000 := by rw [hcn]; exact HCNT.out
          have HCN := Lib.hid hcn
          clear hP7 hG7 hO7 hcs kB kD kX kR hcn hHeld hout
          gi_wp2
          have hc8 := (HCS.out.weaken (fun k _ e => .inl e) : Chg (fun k => k = g ∨ k = P) W W7).trans ((Chg.setCell W7 ⟨P, 0, none⟩ (.int .i64 ((cnt : Int) + 1))).weaken (fun k _ e => .inr e))
          refine ⟨(HO7.out.trans (KeepsOthers.setCell W7 ⟨P, 0, none⟩ _)).from _, HKEEP.out _ hc8, ?_, HCHG.out.trans hc8⟩
          rw [HNX.out, doneS_snoc, List.length_append, List.length_singleton]
          refine ⟨(Chg.setCell W7 ⟨P, 0, none⟩ _).box HG7.out (fun e => hgP e.symm), ?_⟩
          rw [← HCN.out]
          exact HP7.out
      case done =>
        rintro Dd ys W hD rfl ⟨⟨hdur, hper⟩, hchg⟩ hKd
        have hXB := hchg.box HX6.out (by omega)
        have hRD : Rec W D g S.length v lc := hchg.box HD6.out.box (by omega)
        have kB : W.drew.cell? ⟨B, 0, none⟩ = some (.pointer (some ⟨D, 0, none⟩)) := by show W.cell? _ = _; rw [cell_in hXB]; rfl
        have kD : W.drew.cell? ⟨D, 1, none⟩ = some v := hRD.cells.2.1
        have fD : W.drew.frozen? ⟨D, 1, none⟩ = false := frozen_in (W := W) hRD 1
        have hR2 : Rec (W.setCell ⟨D, 1, none⟩ (.slice none 0 0)).drew D g S.length (.slice none 0 0) lc := rec_set (W := W) hRD _
        have kB2 : (W.setCell ⟨D, 1, none⟩ (.slice none 0 0)).drew.cell? ⟨B, 0, none⟩ = some (.pointer (some ⟨D, 0, none⟩)) := by
          show (W.setCell ⟨D, 1, none⟩ (.slice none 0 0)).cell? _ = _
          rw [cell_in ((Chg.setCell W ⟨D, 1, none⟩ (.slice none 0 0)).box hXB (fun e => by have : B = D := e; omega))]; rfl
        have kD2 := hR2.cells.2.2
        have fD2 := frozen_in hR2 2
        have hDg' : D ≠ g := hDg
        have hkp : kp ks (pend S.length ws ha) = OUT := HOUT.out.symm
        rw [hkp] at hdur hper
        have HDUR := Lib.hid hdur
        have HPER := Lib.hid hper
        have HCHG := Lib.hid hchg
        have HR2 := Lib.hid hR2
        have HKD := Lib.hid hKd
        clear hdur hper hchg hRD hKd hXB hR2 hkp
        gi_wp2
        refine wpIn_wide.2 ?_
        refine Code.wp_mono (Q := fun e a' w' => e = Exit.normal ∧ a' = { tmps := #[ .pointer (some ⟨D, 0, none⟩), .slice p m c, .pointer (some ⟨B, 0, none⟩), undef, .int .i64 0, .pointer (some ⟨B + 1 + 1, 0, none⟩), undef, u7, .pointer (some ⟨P, 0, none⟩), undef, undef, .pointer (some ⟨D, 0, none⟩), .pointer (some ⟨D, 0, none⟩), .pointer (some ⟨D, 1, none⟩), .slice pv M cv, .int .i64 M, .slice (some ⟨B + 1, 0, none⟩) M M, .slice p m c, .int .i64 m, .int .i64 i, .bool false, u21, u22, u23, u24, u25, u26, u27, u28, u29, u30, u31, u32, u33, u34, .pointer (some ⟨D, 0, none⟩), .pointer (some ⟨D, 0, none⟩), .int .i64 (S.length : Int), .func (.func 61) #[] #[.pointer (some ⟨P + 1, 0, none⟩), .pointer (some ⟨P + 1 + 1, 0, none⟩), .pointer (some ⟨P + 1 + 1 + 1, 0, none⟩)], undef, undef, undef, undef, undef, undef, undef, undef, undef, undef, undef, undef, undef, undef, undef, undef, undef, .pointer (some ⟨D, 0, none⟩), .pointer (some ⟨D, 0, none⟩), .pointer (some ⟨D, 0, none⟩), .pointer (some ⟨D, 1, none⟩), .pointer (some ⟨D, 0, none⟩), .pointer (some ⟨D, 2, none⟩), undef], defers := [{ target := .collected Dd, args := #[] }] } ∧ w' = ((W.setCell ⟨D, 1, none⟩ (.slice none 0 0)).setCell ⟨D, 2, none⟩ (.int .i64 (-1))).drew) ?go15 ?reg15
        case reg15 =>
          refine wp_region_noPanic ?_
          refine wp_region_held_drew (S := fun X => X.cell? ⟨B, 0, none⟩ = some (.pointer (some ⟨D, 0, none⟩))) (by kernel_rfl) (kB) (fun hHeld => ?_)
          refine wpAnyH_take (i := 0) (v := ?_) rfl (by kernel_rfl) (by kernel_rfl) (by kernel_rfl) (fun _ _ _ h => h) (Or.inl ⟨by rfl, ?_⟩) (by assumption) ?_
          rotate_left
          · (intro w hSw; (try dsimp only at hSw); go_simp; try (with_reducible rfl))
          try simp only [Act.put, List.setIfInBounds_toArray, List.set_cons_zero, List.set_cons_succ, List.getElem_toArray, List.getElem_cons_zero]
          refine wpAnyH_take (i := 2) (v := ?_) rfl (by kernel_rfl) (by kernel_rfl) (by kernel_rfl) (fun _ _ _ h => h) (Or.inl ⟨by rfl, ?_⟩) (by assumption) ?_
          rotate_left
          · (intro w hSw; (try dsimp only at hSw); go_simp; try (with_reducible rfl))
          try simp only [Act.put, List.setIfInBounds_toArray, List.set_cons_zero, List.set_cons_succ, List.getElem_toArray, List.getElem_cons_zero, List.getElem_cons_succ]
          refine wpAnyH_take (i := 3) (v := ?_) rfl (by kernel_rfl) (by kernel_rfl) (by kernel_rfl) (fun _ _ _ h => h) (Or.inl ⟨by rfl, ?_⟩) (by assumption) ?_
          rotate_left
          · (intro w hSw; (try dsimp only at hSw); go_simp; try (with_reducible rfl))
          try simp only [Act.put, List.setIfInBounds_toArray, List.set_cons_zero, List.set_cons_succ, List.getElem_toArray, List.getElem_cons_zero, List.getElem_cons_succ]
          refine wpAnyH_ready (rs := [1, 4]) (by kernel_rfl) (by simp) ?_
          refine AllReadyH.cons rfl (fun K hK => ?_) (AllReadyH.cons rfl (fun K hK => ?_) AllReadyH.nil)
          · go_simp
            refine hK.out _ _ kB (fun hHeld2 => ?_)
            clear hK K hHeld
            have hHeld := hHeld2
            clear hHeld2
            try simp only [Act.put, List.setIfInBounds_toArray, List.set_cons_zero, List.set_cons_succ, List.getElem_toArray, List.getElem_cons_zero, List.getElem_cons_succ]
            refine wpAnyH_ready (rs := [4]) (by kernel_rfl) (by simp) ?_
            refine AllReadyH.cons rfl (fun K hK => ?_) AllReadyH.nil
            go_simp
            refine hK.out _ _ (kB2) (fun hHeld2 => ?_)
            clear hK K hHeld
            have hHeld := hHeld2
            clear hHeld2
            refine wpAnyH_take (i := 5) (v := ?_) rfl (by kernel_rfl) (by kernel_rfl) (by kernel_rfl) (fun _ _ _ h => h) (Or.inl ⟨by rfl, ?_⟩) (by assumption) ?_
            rotate_left
            · (intro w hSw; (try dsimp only at hSw); go_simp; try (with_reducible rfl))
            try simp only [Act.put, List.setIfInBounds_toArray, List.set_cons_zero, List.set_cons_succ, List.getElem_toArray, List.getElem_cons_zero, List.getElem_cons_succ]
            refine wpAnyH_take (i := 6) (v := ?_) rfl (by kernel_rfl) (by kernel_rfl) (by kernel_rfl) (fun _ _ _ h => h) (Or.inl ⟨by rfl, ?_⟩) (by assumption) ?_
            rotate_left
            · (intro w hSw; (try dsimp only at hSw); go_simp; try (with_reducible rfl))
            try simp only [Act.put, List.setIfInBounds_toArray, List.set_cons_zero, List.set_cons_succ, List.getElem_toArray, List.getElem_cons_zero, List.getElem_cons_succ]
            refine wpAnyH_ready (rs := [7]) (by kernel_rfl) (by simp) ?_
            refine AllReadyH.cons rfl (fun K hK => ?_) AllReadyH.nil
            go_simp
            have hHeld8 : ((W.setCell ⟨D, 1, none⟩ (.slice none 0 0)).setCell ⟨D, 2, none⟩ (.int .i64 (-1))).drew.cell? ⟨B, 0, none⟩ = some (.pointer (some ⟨D, 0, none⟩)) := (World.cell?_setCell_other (W.setCell ⟨D, 1, none⟩ (.slice none 0 0)) _ _ _ (fun e => by have : D = B := congrArg Addr.block e; omega)).trans kB2
            refine hK.out _ _ (hHeld8) (fun hHeld2 => ?_)
            clear hK K hHeld
            have hHeld := hHeld2
            clear hHeld2
            refine wpAnyH_done (by kernel_rfl) ?_ _
            exact ⟨rfl, rfl, rfl⟩
          · go_simp
            refine hK.out _ _ kB2 (fun hHeld2 => ?_)
            clear hK K hHeld
            have hHeld := hHeld2
            clear hHeld2
            try simp only [Act.put, List.setIfInBounds_toArray, List.set_cons_zero, List.set_cons_succ, List.getElem_toArray, List.getElem_cons_zero, List.getElem_cons_succ]
            refine wpAnyH_ready (rs := [1]) (by kernel_rfl) (by simp) ?_
            refine AllReadyH.cons rfl (fun K hK => ?_) AllReadyH.nil
            go_simp
            refine hK.out _ _ (kB2) (fun hHeld2 => ?_)
            clear hK K hHeld
            have hHeld := hHeld2
            clear hHeld2
            try simp only [Act.put, List.setIfInBounds_toArray, List.set_cons_zero, List.set_cons_succ, List.getElem_toArray, List.getElem_cons_zero, List.getElem_cons_succ]
            refine wpAnyH_take (i := 5) (v := ?_) rfl (by kernel_rfl) (by kernel_rfl) (by kernel_rfl) (fun _ _ _ h => h) (Or.inl ⟨by rfl, ?_⟩) (by assumption) ?_
            rotate_left
            · (intro w hSw; (try dsimp only at hSw); go_simp; try (with_reducible rfl))
            try simp only [Act.put, List.setIfInBounds_toArray, List.set_cons_zero, List.set_cons_succ, List.getElem_toArray, List.getElem_cons_zero, List.getElem_cons_succ]
            refine wpAnyH_take (i := 6) (v := ?_) rfl (by kernel_rfl) (by kernel_rfl) (by kernel_rfl) (fun _ _ _ h => h) (Or.inl ⟨by rfl, ?_⟩) (by assumption) ?_
            rotate_left
            · (intro w hSw; (try dsimp only at hSw); go_simp; try (with_reducible rfl))
            try simp only [Act.put, List.setIfInBounds_toArray, List.set_cons_zero, List.set_cons_succ, List.getElem_toArray, List.getElem_cons_zero, List.getElem_cons_succ]
            refine wpAnyH_ready (rs := [7]) (by kernel_rfl) (by simp) ?_
            refine AllReadyH.cons rfl (fun K hK => ?_) AllReadyH.nil
            go_simp
            have hHeld8 : ((W.setCell ⟨D, 1, none⟩ (.slice none 0 0)).setCell ⟨D, 2, none⟩ (.int .i64 (-1))).drew.cell? ⟨B, 0, none⟩ = some (.pointer (some ⟨D, 0, none⟩)) := (World.cell?_setCell_other (W.setCell ⟨D, 1, none⟩ (.slice none 0 0)) _ _ _ (fun e => by have : D = B := congrArg Addr.block e; omega)).trans kB2
            refine hK.out _ _ (hHeld8) (fun hHeld2 => ?_)
            clear hK K hHeld
            have hHeld := hHeld2
            clear hHeld2
            refine wpAnyH_done (by kernel_rfl) ?_ _
            exact ⟨rfl, rfl, rfl⟩
        rintro e a' w' ⟨rfl, rfl, rfl⟩
        have hR3 : Rec ((W.setCell ⟨D, 1, none⟩ (.slice none 0 0)).setCell ⟨D, 2, none⟩ (.int .i64 (-1))).drew D g S.length (.slice none 0 0) (-1) := rec_set2 (W := (W.setCell ⟨D, 1, none⟩ (.slice none 0 0))) HR2.out (-1)
        have HR3 := Lib.hid hR3
        have hW8 : Chg (fun k => k = D) W ((W.setCell ⟨D, 1, none⟩ (.slice none 0 0)).setCell ⟨D, 2, none⟩ (.int .i64 (-1))).drew := ((Chg.setCell W ⟨D, 1, none⟩ (.slice none 0 0)).trans (Chg.setCell (W.setCell ⟨D, 1, none⟩ (.slice none 0 0)) ⟨D, 2, none⟩ (.int .i64 (-1)))).trans (Chg.drew _ _)
        have hO8 := ((KeepsOthers.setCell W ⟨D, 1, none⟩ (.slice none 0 0)).trans (KeepsOthers.setCell (W.setCell ⟨D, 1, none⟩ (.slice none 0 0)) ⟨D, 2, none⟩ (.int .i64 (-1)))).trans (KeepsOthers.drew _)
        clear hR3
        generalize ((W.setCell ⟨D, 1, none⟩ (.slice none 0 0)).setCell ⟨D, 2, none⟩ (.int .i64 (-1))).drew = W8 at *
        have hP8 := hW8.box HPER.out (by omega)
        have kP8 : W8.cell? ⟨P, 0, none⟩ = some (.int .i64 (OUT.length : Int)) := by rw [cell_in hP8]; rfl
        have HW8 := Lib.hid hW8
        have HO8 := Lib.hid hO8
        clear hW8 hO8 hP8 kB kD fD kB2 kD2 fD2
        gi_wp2
        refine ⟨by simp, .inl ⟨_, _, rfl, run_takeDeferred (HO8.out.same Dd _ HKD.out rfl), ?_⟩⟩
        have hDd := HS6.out
        have hdl := doneS_len S OUT
        have hc1 : Chg (fun k => k = Dd) W8 (W8.putObj Dd (.deferred none)) := (Chg.grown (grownBy_putObj' _ Dd _)).weaken (fun k _ e => by cases e; rfl)
        have hbe := HBE.out
        have hBw := HB6.out
        have hO64 : ∀ x ∈ OUT, x.2.length = 64 := fun x hx => by
          rw [HOUT.out] at hx
          obtain ⟨z, _, rfl⟩ := List.mem_map.1 hx
          exact z.2.2.2
        refine ⟨_, results_tmp rfl _ _ _, rfl, ⟨?_, ?_, World.ownsRow_nil _ _ _ _, doneS_64 HD6.out.s64 hO64, fun x hx => by simp at hx, by rw [hdl]; exact HD6.out.few⟩, ?_⟩
        · unfold Rec
          rw [hdl]
          exact hc1.box HR3.out (by omega)
        · exact hc1.box (HW8.out.box HDUR.out (by omega)) (by omega)
        · exact (((Chg.below hBw (fun k => k = D ∨ k = g)).trans2 HCHG.out (fun k hk e => by rcases e with e | e; exact .inr e; rw [hbe] at hk; omega)).trans (HW8.out.weaken (fun k _ e => .inl e))).trans2 hc1 (fun k hk e => by rw [hbe] at hk; omega)
      case stop =>
        rintro Dd cc pre W _ _ h _
        exact h.elim
end Go.Proofs.Ytgcifhhbhoafcaa
