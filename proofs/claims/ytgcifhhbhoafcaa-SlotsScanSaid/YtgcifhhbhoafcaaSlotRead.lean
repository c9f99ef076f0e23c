/-
  The checkpoint in a slot.
-/
import Derived.Test.YtgcifhhbhoafcaaSlotHead
import Derived.Test.YtgcifhhbhoafcaaSlotClone
import Derived.Test.YtgcifhhbhoafcaaLogRead
import Derived.Stop.BytesEq
namespace Go.Proofs.Ytgcifhhbhoafcaa
open Go.RowKit Go.Shelf
attribute [local go_sem] Oper.semAt_some

theorem sc_eq (a b : Sec) (ha : a.length = 64) (hb : b.length = 64) (w : World) : (Op.equalIn 10000 115 (.agg (bCells a).toArray) (.agg (bCells b).toArray)).run Try.prog w = .ok (decide (a = b)) w := by
  have h := run_equalIn_bytes (P := Try.prog) w 9998 115 5 64 Try.underlying115 Try.underlying5 (fun w => Try.sizeOf5 w) a b ha hb
  have e : (a == b) = decide (a = b) := by rw [Bool.eq_iff_iff]; simp
  rw [← e]
  exact h
theorem size_ck : (Try.prog.info? 93).map (·.size) = some 3 := by kernel_rfl
/-- Three cells stored. -/
def set3 (w : World) (b : Nat) (v0 v1 v2 : Value) : World := ((w.setCell ⟨b, 0, none⟩ v0).setCell ⟨b, 1, none⟩ v1).setCell ⟨b, 2, none⟩ v2
theorem set3_heap {w : World} {b : Nat} {z0 z1 z2 : Value} {T : TypeId} (hb : w.heap[b]? = some (.cells #[z0, z1, z2] T (0, 0))) (v0 v1 v2 : Value) : (set3 w b v0 v1 v2).heap[b]? = some (.cells #[v0, v1, v2] T (0, 0)) := by
  have h1 : (w.setCell ⟨b, 0, none⟩ v0).heap[b]? = some (.cells #[v0, z1, z2] T (0, 0)) := by
    rw [setCell_eq_setRow w _ _ _ _ _ _ hb, setRow_heap w _ _ _ _ _ hb]
    rfl
  have h2 : ((w.setCell ⟨b, 0, none⟩ v0).setCell ⟨b, 1, none⟩ v1).heap[b]? = some (.cells #[v0, v1, z2] T (0, 0)) := by
    rw [setCell_eq_setRow _ _ _ _ _ _ _ h1, setRow_heap _ _ _ _ _ _ h1]
    rfl
  unfold set3
  rw [setCell_eq_setRow _ _ _ _ _ _ _ h2, setRow_heap _ _ _ _ _ _ h2]
  rfl
theorem set3_chg (w : World) (b : Nat) (v0 v1 v2 : Value) : Chg (fun k => k = b) w (set3 w b v0 v1 v2) := ((Chg.setCell w ⟨b, 0, none⟩ v0).trans (Chg.setCell _ ⟨b, 1, none⟩ v1)).trans (Chg.setCell _ ⟨b, 2, none⟩ v2)
theorem load3 {w : World} {b : Nat} {v0 v1 v2 : Value} (h : w.heap[b]? = some (.cells #[v0, v1, v2] 93 (0, 0))) : (loadVar 93 ⟨b, 0, none⟩).run Try.prog w = .ok (.agg #[v0, v1, v2]) w := by
  have hr : w.rangeAt b 0 [v0, v1, v2] := fun j u hj => by
    rw [Nat.zero_add, cell_in h, ← hj]
    exact List.getElem?_toArray ..
  exact run_loadVar_mid (P := Try.prog) w b 0 93 [v0, v1, v2] _ hr Try.underlying93 rfl size_ck

theorem in_blockT {w : World} {b : Nat} {l : List UInt8} {t : TypeId} (h : w.heap[b]? = some (.cells (bCells l).toArray t (0, 0))) : w.rangeAt b 0 (bCells l) := fun j u hj => by
  rw [Nat.zero_add, cell_in h, List.getElem?_toArray]
  exact hj
theorem Chg.inat {w w' : World} {p : Option Addr} {l : List UInt8} (h : Chg (fun _ => False) w w') (H : InAt w p l) : InAt w' p l := H.chg h (fun _ _ _ e => e)
theorem wrap_nat {n : Nat} (h : n < 9223372036854775808) : IntKind.i64.wrap (n : Int) = (n : Int) := by rw [IntKind.wrap_i64]; omega
/-- What read answers. -/
def SReadR (w : World) (slot : Nat) (B : List Sec) (e : Ending) (w' : World) : Prop := ∃ v ok, e = .returned (.tuple #[.agg v, .bool ok]) ∧ Below w.heap.size w w' ∧ (match chk slot B with
  | none => ok = false ∧ v = #[.int .i64 0, .int .i64 0, .slice none 0 0]
  | some c => ok = true ∧ ∃ q cap, v = #[.int .i64 c.g, .int .i64 c.st, .slice q c.body.length cap] ∧ NewAt w.heap.size w' q cap c.body)

set_option maxRecDepth 20000 in
set_option maxHeartbeats 4000000 in
theorem sread_any (slot R o : Nat) (h : Sec) (rest : List Sec) (L cap : Nat) (hs : slot < 2) (hL : L = (rest.length + 1) * 64) (hcap : L ≤ cap) (hc63 : cap ≤ 100000000) (hRl : rest.length ≤ 70000) (hh : h.length = 64) (h64 : ∀ s ∈ rest, s.length = 64) (w : World) (hr : w.rangeAt R o (dCells (h :: rest))) :
    Calls Try.prog 55 #[.int .i64 slot, .slice (some ⟨R, o, none⟩) L cap] w fun e w' => SReadR w slot (h :: rest) e w' := by
  rw [dCells_flat] at hr
  have hRw : R < w.heap.size := (by
    refine World.block_lt_of_cell? w _ (hr 0 _ (List.getElem?_eq_getElem ?_))
    rw [bCells_len, List.flatten_cons, List.length_append]
    omega)
  obtain ⟨m, hm⟩ : ∃ m, m = rest.length + 1 := ⟨_, rfl⟩
  have hmb : m ≤ 70001 := by omega
  have hm1 : 1 ≤ m := by omega
  rw [← hm] at hL
  obtain ⟨data, hdata⟩ : ∃ data, data = rest.flatten := ⟨_, rfl⟩
  have hdl : data.length = (m - 1) * 64 := by rw [hdata, flat_64 rest h64, hm]; omega
  have HCK := Lib.hid (show chk slot (h :: rest) = chkB slot h data m by rw [hdata, hm]; rfl)
  have hrh : w.rangeAt R o (bCells h) := by
    have := in_part hr 0 64
    rwa [head_part h rest hh 0 64 (by omega), List.drop_zero, List.take_of_length_le (by omega)] at this
  have hrd : ∀ n, w.rangeAt R (o + 64) (bCells (data.take n)) := fun n => by
    have := in_part hr 64 n
    rwa [List.flatten_cons, ← hh, List.drop_left, hh, ← hdata] at this
  obtain ⟨n, hn⟩ : ∃ n, n = hN h := ⟨_, rfl⟩
  obtain ⟨gz, hgz⟩ : ∃ gz : Int, gz = IntKind.i64.wrap (hG h : Int) := ⟨_, rfl⟩
  obtain ⟨sz, hsz⟩ : ∃ sz : Int, sz = IntKind.i64.wrap (hS h : Int) := ⟨_, rfl⟩
  have hnl : n < 4294967296 := by
    have := num_lt ((h.drop 17).take 4)
    rw [List.length_take, List.length_drop, hh] at this
    rw [hn]
    exact this
  have hgl : hG h < 18446744073709551616 := by
    have := num_lt ((h.drop 1).take 8)
    rw [List.length_take, List.length_drop, hh] at this
    exact this
  have hsl : hS h < 18446744073709551616 := by
    have := num_lt ((h.drop 9).take 8)
    rw [List.length_take, List.length_drop, hh] at this
    exact this
  have HGL := Lib.hid hgl
  have HSL := Lib.hid hsl
  have HGZ := Lib.hid hgz
  have HSZ := Lib.hid hsz
  have HN := Lib.hid hn
  have HH := Lib.hid hh
  obtain ⟨r, hr0⟩ : ∃ r, r = roomS m := ⟨_, rfl⟩
  have hroom := fun w => sroom_any m hm1 (by omega) w
  rw [← hr0] at hroom
  have HRM := Lib.hid hr0
  have HRH := Lib.hid hrh
  have HRD := Lib.hid hrd
  have HDL := Lib.hid hdl
  have hLq : ((L : Int)).tdiv 64 = (m : Int) := by rw [Int.tdiv_eq_ediv_of_nonneg (by omega)]; omega
  have HLm := Lib.hid hL
  -- the memory: the result, the first sector
  obtain ⟨Z, hZ⟩ : ∃ Z, Z = (List.replicate 64 (Value.int .u8 0)).toArray := ⟨_, rfl⟩
  have hz := zero_sc
  rw [← hZ] at hz
  obtain ⟨w1, hw1⟩ : ∃ w1, (w.alloc (.cells #[.int .i64 0, .int .i64 0, .slice none 0 0] 93)).alloc (.cells Z 115) = w1 := ⟨_, rfl⟩
  have hX1 : w1.heap[w.heap.size]? = some (.cells #[.int .i64 0, .int .i64 0, .slice none 0 0] 93 (0, 0)) := by
    rw [← hw1, Below.heap_alloc _ _ _ (by simp)]
    exact heap_new w _
  have hF1 : w1.heap[w.heap.size + 1]? = some (.cells Z 115 (0, 0)) := by
    rw [← hw1]
    have := heap_new (w.alloc (.cells #[.int .i64 0, .int .i64 0, .slice none 0 0] 93)) (.cells Z 115)
    simpa using this
  have hb1 : Below w.heap.size w w1 := by rw [← hw1]; exact bA (bA (Below.refl _ _) _) _
  have hZs : Z.size = 64 := by rw [hZ]; rfl
  have hbl : (bCells h).length = 64 := by rw [bCells_len]; exact hh
  have hth : w1.there (w.heap.size + 1) 0 (bCells h).length := fun j hj => by
    rw [hbl] at hj
    refine ⟨?_, ?_⟩
    · rw [Nat.zero_add, cell_in hF1, Array.getElem?_eq_getElem (by omega)]
      rfl
    · exact frozen_in hF1 _
  have hst := heap_setCells (w.heap.size + 1) (bCells h) 0 w1 Z _ _ hF1 (by omega)
  have hF2 : (w1.setCells (w.heap.size + 1) 0 (bCells h)).heap[w.heap.size + 1]? = some (.cells (bCells h).toArray 115 (0, 0)) := by
    rw [hst, List.take_zero, List.nil_append, List.drop_eq_nil_of_le (by rw [Array.length_toList]; omega), List.append_nil]
  have hc2 := chg_setCells (w.heap.size + 1) (bCells h) 0 w1
  have hX2 := hc2.box hX1 (by omega)
  have hb2 : Below w.heap.size w (w1.setCells (w.heap.size + 1) 0 (bCells h)) := hc2.on hb1 hb1.size (fun k e => by rw [e]; omega)
  have HTH := Lib.hid hth
  have HW1R := Lib.hid (show w1.rangeAt R o (bCells h) from (Chg.below hb1 (fun _ => False)).range hrh (fun e => e))
  have HF2 := Lib.hid hF2
  have HX2 := Lib.hid hX2
  have HB2 := Lib.hid hb2
  have HBL := Lib.hid hbl
  clear hr hm hdl hrh hrd hn hgz hsz hgl hsl hX1 hF1 hb1 hth hst hF2 hc2 hX2 hb2 hbl hZs hL hdata hr0 hh h64 hZ
  go_enter Try.func55, Try.ntmps55
  go_wp2_with (refine wpList_plain rfl (fun _ hK => ?_); refine wp_copy_cells (.tmp 9) (.tmp 10) 22 22 5 rfl (w.heap.size + 1) 0 64 64 ⟨R, o, none⟩ L cap (bCells h) rfl rfl Try.underlying22 size_u8 (by rw [HBL.out]; have := HLm.out; show _ = min _ _; omega) (fun j u hj => by rw [Go.WideShapes.add_plain]; exact HW1R.out j u hj) HTH.out (bCells_one h) (hK _ _ ?_); clear hK; generalize w1.setCells (w.heap.size + 1) 0 (bCells h) = w2 at *)
  have hnum := snumber_any (w.heap.size + 1) 17 47 ((h.drop 17).take 4) (by rw [List.length_take]; omega) w2 (by have := in_part (in_blockT HF2.out) 17 4; rwa [Nat.zero_add] at this)
  have hnum1 := fun W (hW : Below w2.heap.size w2 W) => snumber_any (w.heap.size + 1) 1 63 ((h.drop 1).take 8) (by rw [List.length_take]; omega) W (by have := in_part (in_blockT ((Chg.below hW (fun _ => False)).box HF2.out (fun e => e))) 1 8; rwa [Nat.zero_add] at this)
  have hnum9 := fun W (hW : Below w2.heap.size w2 W) => snumber_any (w.heap.size + 1) 9 55 ((h.drop 9).take 8) (by rw [List.length_take]; omega) W (by have := in_part (in_blockT ((Chg.below hW (fun _ => False)).box HF2.out (fun e => e))) 9 8; rwa [Nat.zero_add] at this)
  rw [show IntKind.i64.wrap (num ((h.drop 17).take 4) : Int) = (n : Int) by rw [show num ((h.drop 17).take 4) = n from HN.out.symm]; exact wrap_nat (by omega), show ((h.drop 17).take 4).length = 4 by rw [List.length_take, List.length_drop, HH.out]; rfl] at hnum
  rw [show IntKind.i64.wrap (num ((h.drop 1).take 8) : Int) = gz from HGZ.out.symm, show ((h.drop 1).take 8).length = 8 by rw [List.length_take, List.length_drop, HH.out]; rfl] at hnum1
  rw [show IntKind.i64.wrap (num ((h.drop 9).take 8) : Int) = sz from HSZ.out.symm, show ((h.drop 9).take 8).length = 8 by rw [List.length_take, List.length_drop, HH.out]; rfl] at hnum9
  refine hnum.mono ?_
  rintro e w3 ⟨rfl, rfl⟩
  have HN1 := Lib.hid hnum1
  have HN9 := Lib.hid hnum9
  clear hnum hnum1 hnum9
  go_wp2_with fail
  refine (hroom w2).mono ?_
  rintro e w3 ⟨rfl, rfl⟩
  clear hroom
  have kx0 : w2.cell? ⟨w.heap.size, 0, none⟩ = some (.int .i64 0) := by rw [cell_in HX2.out]; rfl
  have kx1 : w2.cell? ⟨w.heap.size, 1, none⟩ = some (.int .i64 0) := by rw [cell_in HX2.out]; rfl
  have kx2 : w2.cell? ⟨w.heap.size, 2, none⟩ = some (.slice none 0 0) := by rw [cell_in HX2.out]; rfl
  have fx0 := frozen_in HX2.out 0
  have fx1 := frozen_in HX2.out 1
  have fx2 := frozen_in HX2.out 2
  by_cases hbig : r < n
  · have d1 : decide ((r : Int) < (n : Int)) = true := decide_eq_true (by omega)
    have d1' : decide (r < n) = true := decide_eq_true hbig
    have HNO := Lib.hid (show chk slot (h :: rest) = none by rw [HCK.out]; unfold chkB; rw [if_neg (fun e => by have := e.1; have := HRM.out; have := HN.out; omega)])
    clear hbig
    go_wp2
    show bodyPost _ _ _ _ _ (set3 w2 w.heap.size (.int .i64 0) (.int .i64 0) (.slice none 0 0))
    refine bodyPost_ret (results_cell_tmp rfl _ _ _ ⟨w.heap.size, 0, none⟩ _ rfl (load3 (set3_heap HX2.out _ _ _))) rfl ?_
    exact ⟨_, false, rfl, (set3_chg _ _ _ _ _).on HB2.out HB2.out.size (fun k e => by rw [e]; exact Nat.le_refl _), by rw [HNO.out]; exact ⟨rfl, rfl⟩⟩
  · have d1 : decide ((r : Int) < (n : Int)) = false := decide_eq_false (by omega)
    have d1' : decide (r < n) = false := decide_eq_false hbig
    have hbA : Below w2.heap.size w2 (w2.alloc (.cells #[.int .i64 gz, .int .i64 0, .slice none 0 0] 93)) := bA (Below.refl _ _) _
    have hn9 := HN9.out _ hbA
    have hA := heap_new w2 (.cells #[.int .i64 gz, .int .i64 0, .slice none 0 0] 93)
    have kc1 : (w2.alloc (.cells #[.int .i64 gz, .int .i64 0, .slice none 0 0] 93)).cell? ⟨w2.heap.size, 1, none⟩ = some (.int .i64 0) := by rw [cell_in hA]; rfl
    have fc1 := frozen_in hA 1
    have HBA := Lib.hid hbA
    clear hA hbA
    have hnr : n ≤ 1048576 ∧ n ≤ (m - 1) * 64 := by have := HRM.out; unfold roomS at this; omega
    have hLL : L = (m - 1) * 64 + 64 := by have := HLm.out; omega
    have i1 : (64 : Int) ≤ (L : Int) := by omega
    have i2 : (n : Int) ≤ (L : Int) - 64 := by omega
    have i3 : n ≤ L - 64 := by omega
    have i4 : n ≤ cap - 64 := by omega
    have i5 : (n : Int) ≤ (cap : Int) - 64 := by omega
    have i6 : 64 ≤ cap := by omega
    obtain ⟨ra, hra⟩ : ∃ ra, (if cap = 64 then (some ⟨R, o, none⟩ : Option Addr) else some ⟨R, o + 64, none⟩) = some ⟨R, ra, none⟩ := by
      by_cases h64e : cap = 64
      · exact ⟨o, if_pos h64e⟩
      · exact ⟨o + 64, if_neg h64e⟩
    have HRA := Lib.hid hra
    have hHn := HN1.out w2 (Below.refl _ _)
    have HLL := Lib.hid hLL
    clear hLL hbig
    go_wp2_with fail
    refine hHn.mono ?_
    rintro e w3 ⟨rfl, rfl⟩
    go_wp2_with fail
    refine hn9.mono ?_
    rintro e w3 ⟨rfl, hw3⟩
    obtain rfl := hw3
    have hA3 := heap_new w2 (.cells #[.int .i64 gz, .int .i64 sz, .slice none 0 0] 93)
    have hbA3 : Below w2.heap.size w2 (w2.alloc (.cells #[.int .i64 gz, .int .i64 sz, .slice none 0 0] 93)) := bA (Below.refl _ _) _
    obtain ⟨body, hbody⟩ : ∃ body, data.take n = body := ⟨_, rfl⟩
    have hbl : body.length = n := by rw [← hbody, List.length_take, HDL.out]; omega
    have HBY := Lib.hid hbody
    obtain ⟨w3, hw3⟩ : ∃ w3, w2.alloc (.cells #[.int .i64 gz, .int .i64 sz, .slice none 0 0] 93) = w3 := ⟨_, rfl⟩
    rw [hw3] at hA3 hbA3
    have hcl := clone_any R ra (cap - 64) body (by omega) w3 (by
      by_cases hcz : cap = 64
      · have hn0 : n = 0 := by omega
        intro j u hj
        have := (List.getElem?_eq_some_iff.1 hj).1
        rw [bCells_len, hbl] at this
        omega
      · have e := HRA.out
        rw [if_neg hcz] at e
        simp only [Option.some.injEq, Addr.mk.injEq, true_and, and_true] at e
        rw [← e, ← hbody]
        exact (Chg.below (HB2.out.trans (hbA3.mono HB2.out.size)) (fun _ => False)).range (HRD.out n) (fun e => e))
    rw [hbl] at hcl
    have HA3 := Lib.hid hA3
    have HBA3 := Lib.hid hbA3
    have HBL2 := Lib.hid hbl
    have HW3 := Lib.hid hw3
    obtain ⟨C, hC⟩ : ∃ C, w2.heap.size = C := ⟨_, rfl⟩
    have HC := Lib.hid hC
    rw [hC] at HA3
    clear hA3 hbA3 hbody hbl kc1 fc1 hC
    go_wp2_with fail
    rw [HC.out]
    clear hw3
    refine hcl.mono ?_
    rintro e w4 ⟨q, cq, rfl, hq, hb4⟩
    have hb34 := Chg.below hb4 (fun _ => False)
    have hA4 := hb34.box HA3.out (fun e => e)
    have kc2 : w4.cell? ⟨C, 2, none⟩ = some (.slice none 0 0) := by rw [cell_in hA4]; rfl
    have fc2 := frozen_in hA4 2
    have hF4 : w4.heap[w.heap.size + 1]? = some (.cells (bCells h).toArray 115 (0, 0)) := hb34.box ((Chg.below HBA3.out (fun _ => False)).box HF2.out (fun e => e)) (fun e => e)
    have hX4 := hb34.box ((Chg.below HBA3.out (fun _ => False)).box HX2.out (fun e => e)) (fun e => e)
    have hb4w : Below w.heap.size w w4 := HB2.out.trans ((HBA3.out.trans (hb4.mono HBA3.out.size)).mono HB2.out.size)
    obtain ⟨w5, hw5⟩ : ∃ w5, w4.setCell ⟨C, 2, none⟩ (.slice q n cq) = w5 := ⟨_, rfl⟩
    have hc5 : Chg (fun k => k = C) w4 w5 := by rw [← hw5]; exact Chg.setCell w4 ⟨C, 2, none⟩ _
    have hC2 : w.heap.size + 1 < C := by rw [← HC.out]; exact (Array.getElem?_eq_some_iff.1 HF2.out).1
    have hA5 : w5.heap[C]? = some (.cells #[.int .i64 gz, .int .i64 sz, .slice q n cq] 93 (0, 0)) := by
      rw [← hw5, setCell_eq_setRow w4 _ _ _ _ _ _ hA4, setRow_heap w4 _ _ _ _ _ hA4]
      rfl
    have hF5 := hc5.box hF4 (by omega)
    have hX5 := hc5.box hX4 (by omega)
    have hb5 : Below w.heap.size w w5 := hc5.on hb4w hb4w.size (fun k e => by rw [e]; omega)
    have hq5 : NewAt w.heap.size w5 q cq body := by
      obtain ⟨h1, ⟨b, hqb, hlo, cs, fr, hh⟩, h2⟩ := hq
      have hCw3 : C < w3.heap.size := (Array.getElem?_eq_some_iff.1 HA3.out).1
      refine ⟨h1.chg hc5 (fun b' o' e' => ?_), ⟨b, hqb, ?_, cs, fr, hc5.box hh ?_⟩, h2⟩
      · rw [hqb] at e'
        cases e'
        omega
      · omega
      · omega
    have HA5 := Lib.hid hA5
    have HF5 := Lib.hid hF5
    have HX5 := Lib.hid hX5
    have HB5 := Lib.hid hb5
    have HQ5 := Lib.hid hq5
    have HW5 := Lib.hid hw5
    have hSof : ∀ W, Below w5.heap.size w5 W → W.cell? ⟨C, 0, none⟩ = some (.int .i64 gz) ∧ W.cell? ⟨C, 1, none⟩ = some (.int .i64 sz) ∧ W.cell? ⟨C, 2, none⟩ = some (.slice q n cq) ∧ W.rangeAt (w.heap.size + 1) 0 (bCells h) := fun W hW => by
      have h1 := (Chg.below hW (fun _ => False)).box HA5.out (fun e => e)
      exact ⟨by rw [cell_in h1]; rfl, by rw [cell_in h1]; rfl, by rw [cell_in h1]; rfl, in_blockT ((Chg.below hW (fun _ => False)).box HF5.out (fun e => e))⟩
    have HSOF := Lib.hid hSof
    have hend : ∀ W, Below w5.heap.size w5 W → W.heap[w.heap.size]? = some (.cells #[.int .i64 0, .int .i64 0, .slice none 0 0] 93 (0, 0)) ∧ Below w.heap.size w W := fun W hW => ⟨(Chg.below hW (fun _ => False)).box HX5.out (fun e => e), HB5.out.trans (hW.mono HB5.out.size)⟩
    have HEND := Lib.hid hend
    clear hq hb4 hb34 hA4 hF4 hX4 hb4w hc5 hA5 hF5 hX5 hb5 hq5 hw5 hcl hSof hend hC2 kx0 kx1 kx2 fx0 fx1 fx2
    by_cases hg0 : gz < 1
    · have f0 : decide (gz < 1) = true := decide_eq_true hg0
      have HNO := Lib.hid (show chk slot (h :: rest) = none by
        rw [HCK.out]
        unfold chkB
        rw [if_neg (fun e => ?_)]
        have := HGZ.out
        rw [wrap_nat e.2.2.1] at this
        have := e.2.1
        omega)
      clear hg0
      go_wp2_with fail
      rw [HW5.out]
      refine wp_region_noPanic ?_
      refine wp_region_held_drew (S := fun W => W.cell? ⟨C, 0, none⟩ = some (.int .i64 gz) ∧ W.cell? ⟨C, 1, none⟩ = some (.int .i64 sz) ∧ W.cell? ⟨C, 2, none⟩ = some (.slice q n cq) ∧ W.rangeAt (w.heap.size + 1) 0 (bCells h)) (by kernel_rfl) ((by exact HSOF.out _ (bD (Below.refl _ _)))) (fun hHeld => ?_)
      refine wpAnyH_take (i := 0) (v := ?_) rfl (by kernel_rfl) (by kernel_rfl) (by kernel_rfl) (fun _ _ _ h => h) (Or.inl ⟨by rfl, ?_⟩) (by assumption) ?_
      rotate_left
      · (intro w hSw; (try dsimp only at hSw); go_simp; try (with_reducible rfl))
      try simp only [Act.put, List.setIfInBounds_toArray, List.set_cons_zero, List.set_cons_succ, List.getElem_toArray, List.getElem_cons_zero]
      refine wpAnyH_take (i := 1) (v := ?_) rfl (by kernel_rfl) (by kernel_rfl) (by kernel_rfl) (fun _ _ _ h => h) (Or.inl ⟨by rfl, ?_⟩) (by assumption) ?_
      rotate_left
      · (intro w hSw; (try dsimp only at hSw); go_simp; try (with_reducible rfl))
      try simp only [Act.put, List.setIfInBounds_toArray, List.set_cons_zero, List.set_cons_succ, List.getElem_toArray, List.getElem_cons_zero, List.getElem_cons_succ]
      refine wpAnyH_take (i := 2) (v := ?_) rfl (by kernel_rfl) (by kernel_rfl) (by kernel_rfl) (fun _ _ _ h => h) (Or.inl ⟨by rfl, ?_⟩) (by assumption) ?_
      rotate_left
      · (intro w hSw; (try dsimp only at hSw); go_simp; try (with_reducible rfl))
      try simp only [Act.put, List.setIfInBounds_toArray, List.set_cons_zero, List.set_cons_succ, List.getElem_toArray, List.getElem_cons_zero, List.getElem_cons_succ]
      refine wpAnyH_take (i := 3) (v := ?_) rfl (by kernel_rfl) (by kernel_rfl) (by kernel_rfl) (fun _ _ _ h => h) (Or.inl ⟨by rfl, ?_⟩) (by assumption) ?_
      rotate_left
      · (intro w hSw; (try dsimp only at hSw); go_simp; try (with_reducible rfl))
      try simp only [Act.put, List.setIfInBounds_toArray, List.set_cons_zero, List.set_cons_succ, List.getElem_toArray, List.getElem_cons_zero, List.getElem_cons_succ]
      try simp only [f0]
      refine wpAnyH_take (i := 4) (v := undef) rfl (by kernel_rfl) (by kernel_rfl) (by kernel_rfl) (fun _ _ _ h => h) (Or.inr ⟨by rfl, rfl⟩) (by assumption) ?_
      try simp only [Act.put, List.setIfInBounds_toArray, List.set_cons_zero, List.set_cons_succ, List.getElem_toArray, List.getElem_cons_zero, List.getElem_cons_succ]
      refine wpAnyH_take (i := 5) (v := undef) rfl (by kernel_rfl) (by kernel_rfl) (by kernel_rfl) (fun _ _ _ h => h) (Or.inr ⟨by rfl, rfl⟩) (by assumption) ?_
      try simp only [Act.put, List.setIfInBounds_toArray, List.set_cons_zero, List.set_cons_succ, List.getElem_toArray, List.getElem_cons_zero, List.getElem_cons_succ]
      refine wpAnyH_take (i := 6) (v := undef) rfl (by kernel_rfl) (by kernel_rfl) (by kernel_rfl) (fun _ _ _ h => h) (Or.inr ⟨by rfl, rfl⟩) (by assumption) ?_
      try simp only [Act.put, List.setIfInBounds_toArray, List.set_cons_zero, List.set_cons_succ, List.getElem_toArray, List.getElem_cons_zero, List.getElem_cons_succ]
      refine wpAnyH_take (i := 7) (v := undef) rfl (by kernel_rfl) (by kernel_rfl) (by kernel_rfl) (fun _ _ _ h => h) (Or.inr ⟨by rfl, rfl⟩) (by assumption) ?_
      try simp only [Act.put, List.setIfInBounds_toArray, List.set_cons_zero, List.set_cons_succ, List.getElem_toArray, List.getElem_cons_zero, List.getElem_cons_succ]
      refine wpAnyH_take (i := 8) (v := ?_) rfl (by kernel_rfl) (by kernel_rfl) (by kernel_rfl) (fun _ _ _ h => h) (Or.inl ⟨by rfl, ?_⟩) (by assumption) ?_
      rotate_left
      · (intro w hSw; (try dsimp only at hSw); go_simp; try (with_reducible rfl))
      try simp only [Act.put, List.setIfInBounds_toArray, List.set_cons_zero, List.set_cons_succ, List.getElem_toArray, List.getElem_cons_zero, List.getElem_cons_succ]
      refine wpAnyH_take (i := 9) (v := ?_) rfl (by kernel_rfl) (by kernel_rfl) (by kernel_rfl) (fun _ _ _ h => h) (Or.inl ⟨by rfl, ?_⟩) (by assumption) ?_
      rotate_left
      · (intro w hSw; (try dsimp only at hSw); go_simp; try (with_reducible rfl))
      try simp only [Act.put, List.setIfInBounds_toArray, List.set_cons_zero, List.set_cons_succ, List.getElem_toArray, List.getElem_cons_zero, List.getElem_cons_succ]
      refine wpAnyH_take (i := 10) (v := undef) rfl (by kernel_rfl) (by kernel_rfl) (by kernel_rfl) (fun _ _ _ h => h) (Or.inr ⟨by rfl, rfl⟩) (by assumption) ?_
      try simp only [Act.put, List.setIfInBounds_toArray, List.set_cons_zero, List.set_cons_succ, List.getElem_toArray, List.getElem_cons_zero, List.getElem_cons_succ]
      refine wpAnyH_take (i := 11) (v := undef) rfl (by kernel_rfl) (by kernel_rfl) (by kernel_rfl) (fun _ _ _ h => h) (Or.inr ⟨by rfl, rfl⟩) (by assumption) ?_
      try simp only [Act.put, List.setIfInBounds_toArray, List.set_cons_zero, List.set_cons_succ, List.getElem_toArray, List.getElem_cons_zero, List.getElem_cons_succ]
      refine wpAnyH_take (i := 12) (v := undef) rfl (by kernel_rfl) (by kernel_rfl) (by kernel_rfl) (fun _ _ _ h => h) (Or.inr ⟨by rfl, rfl⟩) (by assumption) ?_
      try simp only [Act.put, List.setIfInBounds_toArray, List.set_cons_zero, List.set_cons_succ, List.getElem_toArray, List.getElem_cons_zero, List.getElem_cons_succ]
      refine wpAnyH_take (i := 13) (v := undef) rfl (by kernel_rfl) (by kernel_rfl) (by kernel_rfl) (fun _ _ _ h => h) (Or.inr ⟨by rfl, rfl⟩) (by assumption) ?_
      try simp only [Act.put, List.setIfInBounds_toArray, List.set_cons_zero, List.set_cons_succ, List.getElem_toArray, List.getElem_cons_zero, List.getElem_cons_succ]
      refine wpAnyH_take (i := 14) (v := ?_) rfl (by kernel_rfl) (by kernel_rfl) (by kernel_rfl) (fun _ _ _ h => h) (Or.inl ⟨by rfl, ?_⟩) (by assumption) ?_
      rotate_left
      · (intro w hSw; (try dsimp only at hSw); go_simp; try (with_reducible rfl))
      try simp only [Act.put, List.setIfInBounds_toArray, List.set_cons_zero, List.set_cons_succ, List.getElem_toArray, List.getElem_cons_zero, List.getElem_cons_succ]
      refine wpAnyH_take (i := 15) (v := ?_) rfl (by kernel_rfl) (by kernel_rfl) (by kernel_rfl) (fun _ _ _ h => h) (Or.inl ⟨by rfl, ?_⟩) (by assumption) ?_
      rotate_left
      · (intro w hSw; (try dsimp only at hSw); go_simp; try (with_reducible rfl))
      try simp only [Act.put, List.setIfInBounds_toArray, List.set_cons_zero, List.set_cons_succ, List.getElem_toArray, List.getElem_cons_zero, List.getElem_cons_succ]
      refine wpAnyH_take (i := 16) (v := undef) rfl (by kernel_rfl) (by kernel_rfl) (by kernel_rfl) (fun _ _ _ h => h) (Or.inr ⟨by rfl, rfl⟩) (by assumption) ?_
      try simp only [Act.put, List.setIfInBounds_toArray, List.set_cons_zero, List.set_cons_succ, List.getElem_toArray, List.getElem_cons_zero, List.getElem_cons_succ]
      refine wpAnyH_take (i := 17) (v := undef) rfl (by kernel_rfl) (by kernel_rfl) (by kernel_rfl) (fun _ _ _ h => h) (Or.inr ⟨by rfl, rfl⟩) (by assumption) ?_
      try simp only [Act.put, List.setIfInBounds_toArray, List.set_cons_zero, List.set_cons_succ, List.getElem_toArray, List.getElem_cons_zero, List.getElem_cons_succ]
      refine wpAnyH_take (i := 18) (v := undef) rfl (by kernel_rfl) (by kernel_rfl) (by kernel_rfl) (fun _ _ _ h => h) (Or.inr ⟨by rfl, rfl⟩) (by assumption) ?_
      try simp only [Act.put, List.setIfInBounds_toArray, List.set_cons_zero, List.set_cons_succ, List.getElem_toArray, List.getElem_cons_zero, List.getElem_cons_succ]
      refine wpAnyH_take (i := 19) (v := undef) rfl (by kernel_rfl) (by kernel_rfl) (by kernel_rfl) (fun _ _ _ h => h) (Or.inr ⟨by rfl, rfl⟩) (by assumption) ?_
      try simp only [Act.put, List.setIfInBounds_toArray, List.set_cons_zero, List.set_cons_succ, List.getElem_toArray, List.getElem_cons_zero, List.getElem_cons_succ]
      refine wpAnyH_take (i := 20) (v := ?_) rfl (by kernel_rfl) (by kernel_rfl) (by kernel_rfl) (fun _ _ _ h => h) (Or.inl ⟨by rfl, ?_⟩) (by assumption) ?_
      rotate_left
      · (intro w hSw; (try dsimp only at hSw); go_simp; try (with_reducible rfl))
      try simp only [Act.put, List.setIfInBounds_toArray, List.set_cons_zero, List.set_cons_succ, List.getElem_toArray, List.getElem_cons_zero, List.getElem_cons_succ]
      refine wpAnyH_done (by kernel_rfl) ?_ _
      have hbE : Below w5.heap.size w5 w5.drew := bD (Below.refl _ _)
      obtain ⟨wE, hwE⟩ : ∃ wE, w5.drew = wE := ⟨_, rfl⟩
      rw [hwE] at hbE ⊢
      have hEnd := HEND.out wE hbE
      have HE := Lib.hid hEnd
      have kx0 : wE.cell? ⟨w.heap.size, 0, none⟩ = some (.int .i64 0) := by rw [cell_in hEnd.1]; rfl
      have kx1 : wE.cell? ⟨w.heap.size, 1, none⟩ = some (.int .i64 0) := by rw [cell_in hEnd.1]; rfl
      have kx2 : wE.cell? ⟨w.heap.size, 2, none⟩ = some (.slice none 0 0) := by rw [cell_in hEnd.1]; rfl
      have fx0 := frozen_in hEnd.1 0
      have fx1 := frozen_in hEnd.1 1
      have fx2 := frozen_in hEnd.1 2
      clear hEnd hbE hHeld hwE
      refine NoPanic.normal ?_
      go_wp2
      show bodyPost _ _ _ _ _ (set3 wE w.heap.size (.int .i64 0) (.int .i64 0) (.slice none 0 0))
      refine bodyPost_ret (results_cell_tmp rfl _ _ _ ⟨w.heap.size, 0, none⟩ _ rfl (load3 (set3_heap HE.out.1 _ _ _))) rfl ?_
      exact ⟨_, false, rfl, (set3_chg _ _ _ _ _).on HE.out.2 HE.out.2.size (fun k e => by rw [e]; exact Nat.le_refl _), by rw [HNO.out]; exact ⟨rfl, rfl⟩⟩
    obtain ⟨G, hG0⟩ : ∃ G : Nat, gz = (G : Int) := ⟨gz.toNat, by omega⟩
    subst hG0
    have hGb : 1 ≤ G ∧ G < 9223372036854775808 ∧ G = hG h := by
      have h1 := HGZ.out
      have h2 := HGL.out
      rw [IntKind.wrap_i64] at h1
      omega
    have f0 : decide ((G : Int) < 1) = false := decide_eq_false hg0
    clear hg0
    by_cases hsl : G % 2 = slot
    · have f1 : ((slot : Int) != (slot : Int)) = false := by simp
      have hslot := fun W => slot_any G hGb.2.1 (.int .i64 sz) (.slice q n cq) W
      simp only [hsl] at hslot
      cases hst : stampOk sz
      · have HNO := Lib.hid (show chk slot (h :: rest) = none by
          rw [HCK.out]
          unfold chkB
          rw [if_neg (fun e => ?_)]
          have h1 := HSZ.out
          have h2 := e.2.2.2.2.1
          rw [wrap_nat (by omega)] at h1
          unfold stampOk at hst
          rw [decide_eq_true (show (0 : Int) ≤ sz by omega), decide_eq_true (show sz ≤ 1152921504606846975 by omega)] at hst
          cases hst)
        have hstp := fun W => stamped_any sz (.slice q n cq) W
        simp only [hst] at hstp
        clear hGb hsl hst
        go_wp2_with fail
        rw [HW5.out]
        refine wp_region_noPanic ?_
        refine wp_region_held_drew (S := fun W => W.cell? ⟨C, 0, none⟩ = some (.int .i64 (G : Int)) ∧ W.cell? ⟨C, 1, none⟩ = some (.int .i64 sz) ∧ W.cell? ⟨C, 2, none⟩ = some (.slice q n cq) ∧ W.rangeAt (w.heap.size + 1) 0 (bCells h)) (by kernel_rfl) ((by exact HSOF.out _ (bD (Below.refl _ _)))) (fun hHeld => ?_)
        refine wpAnyH_take (i := 0) (v := ?_) rfl (by kernel_rfl) (by kernel_rfl) (by kernel_rfl) (fun _ _ _ h => h) (Or.inl ⟨by rfl, ?_⟩) (by assumption) ?_
        rotate_left
        · (intro w hSw; (try dsimp only at hSw); go_simp; try (with_reducible rfl))
        try simp only [Act.put, List.setIfInBounds_toArray, List.set_cons_zero, List.set_cons_succ, List.getElem_toArray, List.getElem_cons_zero]
        refine wpAnyH_take (i := 1) (v := ?_) rfl (by kernel_rfl) (by kernel_rfl) (by kernel_rfl) (fun _ _ _ h => h) (Or.inl ⟨by rfl, ?_⟩) (by assumption) ?_
        rotate_left
        · (intro w hSw; (try dsimp only at hSw); go_simp; try (with_reducible rfl))
        try simp only [Act.put, List.setIfInBounds_toArray, List.set_cons_zero, List.set_cons_succ, List.getElem_toArray, List.getElem_cons_zero, List.getElem_cons_succ]
        refine wpAnyH_take (i := 2) (v := ?_) rfl (by kernel_rfl) (by kernel_rfl) (by kernel_rfl) (fun _ _ _ h => h) (Or.inl ⟨by rfl, ?_⟩) (by assumption) ?_
        rotate_left
        · (intro w hSw; (try dsimp only at hSw); go_simp; try (with_reducible rfl))
        try simp only [Act.put, List.setIfInBounds_toArray, List.set_cons_zero, List.set_cons_succ, List.getElem_toArray, List.getElem_cons_zero, List.getElem_cons_succ]
        refine wpAnyH_take (i := 3) (v := ?_) rfl (by kernel_rfl) (by kernel_rfl) (by kernel_rfl) (fun _ _ _ h => h) (Or.inl ⟨by rfl, ?_⟩) (by assumption) ?_
        rotate_left
        · (intro w hSw; (try dsimp only at hSw); go_simp; try (with_reducible rfl))
        try simp only [Act.put, List.setIfInBounds_toArray, List.set_cons_zero, List.set_cons_succ, List.getElem_toArray, List.getElem_cons_zero, List.getElem_cons_succ]
        try simp only [f0]
        refine wpAnyH_take (i := 4) (v := ?_) rfl (by kernel_rfl) (by kernel_rfl) (by kernel_rfl) (fun _ _ _ h => h) (Or.inl ⟨by rfl, ?_⟩) (by assumption) ?_
        rotate_left
        · (intro w hSw; (try dsimp only at hSw); go_simp; try (with_reducible rfl))
        try simp only [Act.put, List.setIfInBounds_toArray, List.set_cons_zero, List.set_cons_succ, List.getElem_toArray, List.getElem_cons_zero, List.getElem_cons_succ]
        refine wpAnyH_take (i := 6) (v := ?_) rfl (by kernel_rfl) (by kernel_rfl) (by kernel_rfl) (fun _ _ _ h => h) (Or.inl ⟨by rfl, ?_⟩) (by assumption) ?_
        rotate_left
        · (intro w hSw; (try dsimp only at hSw); go_simp; try (with_reducible rfl))
        try simp only [Act.put, List.setIfInBounds_toArray, List.set_cons_zero, List.set_cons_succ, List.getElem_toArray, List.getElem_cons_zero, List.getElem_cons_succ]
        refine wpAnyH_ready (rs := [5]) (by kernel_rfl) (by simp) ?_
        refine AllReadyH.cons rfl (fun K hK => ?_) AllReadyH.nil
        go_simp
        go_at_call 58
        refine (hslot _).mono ?_
        rintro e6 w6 ⟨rfl, hb6⟩
        have hbE6 : Below w5.heap.size w5 w6 := (bD (Below.refl w5.heap.size w5)).trans hb6
        refine hK.out _ _ ((by exact HSOF.out _ hbE6)) (fun hHeld2 => ?_)
        clear hK K hHeld
        have hHeld := hHeld2
        clear hHeld2
        try simp only [Act.put, List.setIfInBounds_toArray, List.set_cons_zero, List.set_cons_succ, List.getElem_toArray, List.getElem_cons_zero, List.getElem_cons_succ]
        refine wpAnyH_take (i := 7) (v := ?_) rfl (by kernel_rfl) (by kernel_rfl) (by kernel_rfl) (fun _ _ _ h => h) (Or.inl ⟨by rfl, ?_⟩) (by assumption) ?_
        rotate_left
        · (intro w hSw; (try dsimp only at hSw); go_simp; try (with_reducible rfl))
        try simp only [Act.put, List.setIfInBounds_toArray, List.set_cons_zero, List.set_cons_succ, List.getElem_toArray, List.getElem_cons_zero, List.getElem_cons_succ]
        try simp only [f1]
        refine wpAnyH_take (i := 8) (v := ?_) rfl (by kernel_rfl) (by kernel_rfl) (by kernel_rfl) (fun _ _ _ h => h) (Or.inl ⟨by rfl, ?_⟩) (by assumption) ?_
        rotate_left
        · (intro w hSw; (try dsimp only at hSw); go_simp; try (with_reducible rfl))
        try simp only [Act.put, List.setIfInBounds_toArray, List.set_cons_zero, List.set_cons_succ, List.getElem_toArray, List.getElem_cons_zero, List.getElem_cons_succ]
        refine wpAnyH_take (i := 9) (v := ?_) rfl (by kernel_rfl) (by kernel_rfl) (by kernel_rfl) (fun _ _ _ h => h) (Or.inl ⟨by rfl, ?_⟩) (by assumption) ?_
        rotate_left
        · (intro w hSw; (try dsimp only at hSw); go_simp; try (with_reducible rfl))
        try simp only [Act.put, List.setIfInBounds_toArray, List.set_cons_zero, List.set_cons_succ, List.getElem_toArray, List.getElem_cons_zero, List.getElem_cons_succ]
        refine wpAnyH_take (i := 10) (v := ?_) rfl (by kernel_rfl) (by kernel_rfl) (by kernel_rfl) (fun _ _ _ h => h) (Or.inl ⟨by rfl, ?_⟩) (by assumption) ?_
        rotate_left
        · (intro w hSw; (try dsimp only at hSw); go_simp; try (with_reducible rfl))
        try simp only [Act.put, List.setIfInBounds_toArray, List.set_cons_zero, List.set_cons_succ, List.getElem_toArray, List.getElem_cons_zero, List.getElem_cons_succ]
        refine wpAnyH_take (i := 11) (v := ?_) rfl (by kernel_rfl) (by kernel_rfl) (by kernel_rfl) (fun _ _ _ h => h) (Or.inl ⟨by rfl, ?_⟩) (by assumption) ?_
        rotate_left
        · (intro w hSw; (try dsimp only at hSw); go_simp; try (with_reducible rfl))
        try simp only [Act.put, List.setIfInBounds_toArray, List.set_cons_zero, List.set_cons_succ, List.getElem_toArray, List.getElem_cons_zero, List.getElem_cons_succ]
        refine wpAnyH_ready (rs := [12]) (by kernel_rfl) (by simp) ?_
        refine AllReadyH.cons rfl (fun K hK => ?_) AllReadyH.nil
        go_simp
        go_at_call 44
        refine (hstp _).mono ?_
        rintro e7 w7 ⟨rfl, hb7⟩
        have hbE7 : Below w5.heap.size w5 w7 := hbE6.trans (hb7.mono hbE6.size)
        refine hK.out _ _ ((by exact HSOF.out _ hbE7)) (fun hHeld2 => ?_)
        clear hK K hHeld
        have hHeld := hHeld2
        clear hHeld2
        try simp only [Act.put, List.setIfInBounds_toArray, List.set_cons_zero, List.set_cons_succ, List.getElem_toArray, List.getElem_cons_zero, List.getElem_cons_succ]
        refine wpAnyH_take (i := 13) (v := ?_) rfl (by kernel_rfl) (by kernel_rfl) (by kernel_rfl) (fun _ _ _ h => h) (Or.inl ⟨by rfl, ?_⟩) (by assumption) ?_
        rotate_left
        · (intro w hSw; (try dsimp only at hSw); go_simp; try (with_reducible rfl))
        try simp only [Act.put, List.setIfInBounds_toArray, List.set_cons_zero, List.set_cons_succ, List.getElem_toArray, List.getElem_cons_zero, List.getElem_cons_succ]
        refine wpAnyH_take (i := 14) (v := ?_) rfl (by kernel_rfl) (by kernel_rfl) (by kernel_rfl) (fun _ _ _ h => h) (Or.inl ⟨by rfl, ?_⟩) (by assumption) ?_
        rotate_left
        · (intro w hSw; (try dsimp only at hSw); go_simp; try (with_reducible rfl))
        try simp only [Act.put, List.setIfInBounds_toArray, List.set_cons_zero, List.set_cons_succ, List.getElem_toArray, List.getElem_cons_zero, List.getElem_cons_succ]
        refine wpAnyH_take (i := 15) (v := ?_) rfl (by kernel_rfl) (by kernel_rfl) (by kernel_rfl) (fun _ _ _ h => h) (Or.inl ⟨by rfl, ?_⟩) (by assumption) ?_
        rotate_left
        · (intro w hSw; (try dsimp only at hSw); go_simp; try (with_reducible rfl))
        try simp only [Act.put, List.setIfInBounds_toArray, List.set_cons_zero, List.set_cons_succ, List.getElem_toArray, List.getElem_cons_zero, List.getElem_cons_succ]
        refine wpAnyH_take (i := 16) (v := undef) rfl (by kernel_rfl) (by kernel_rfl) (by kernel_rfl) (fun _ _ _ h => h) (Or.inr ⟨by rfl, rfl⟩) (by assumption) ?_
        try simp only [Act.put, List.setIfInBounds_toArray, List.set_cons_zero, List.set_cons_succ, List.getElem_toArray, List.getElem_cons_zero, List.getElem_cons_succ]
        refine wpAnyH_take (i := 17) (v := undef) rfl (by kernel_rfl) (by kernel_rfl) (by kernel_rfl) (fun _ _ _ h => h) (Or.inr ⟨by rfl, rfl⟩) (by assumption) ?_
        try simp only [Act.put, List.setIfInBounds_toArray, List.set_cons_zero, List.set_cons_succ, List.getElem_toArray, List.getElem_cons_zero, List.getElem_cons_succ]
        refine wpAnyH_take (i := 18) (v := undef) rfl (by kernel_rfl) (by kernel_rfl) (by kernel_rfl) (fun _ _ _ h => h) (Or.inr ⟨by rfl, rfl⟩) (by assumption) ?_
        try simp only [Act.put, List.setIfInBounds_toArray, List.set_cons_zero, List.set_cons_succ, List.getElem_toArray, List.getElem_cons_zero, List.getElem_cons_succ]
        refine wpAnyH_take (i := 19) (v := undef) rfl (by kernel_rfl) (by kernel_rfl) (by kernel_rfl) (fun _ _ _ h => h) (Or.inr ⟨by rfl, rfl⟩) (by assumption) ?_
        try simp only [Act.put, List.setIfInBounds_toArray, List.set_cons_zero, List.set_cons_succ, List.getElem_toArray, List.getElem_cons_zero, List.getElem_cons_succ]
        refine wpAnyH_take (i := 20) (v := ?_) rfl (by kernel_rfl) (by kernel_rfl) (by kernel_rfl) (fun _ _ _ h => h) (Or.inl ⟨by rfl, ?_⟩) (by assumption) ?_
        rotate_left
        · (intro w hSw; (try dsimp only at hSw); go_simp; try (with_reducible rfl))
        try simp only [Act.put, List.setIfInBounds_toArray, List.set_cons_zero, List.set_cons_succ, List.getElem_toArray, List.getElem_cons_zero, List.getElem_cons_succ]
        refine wpAnyH_done (by kernel_rfl) ?_ _
        have hbE := hbE7
        obtain ⟨wE, hwE⟩ : ∃ wE, w7 = wE := ⟨_, rfl⟩
        rw [hwE] at hbE ⊢
        have hEnd := HEND.out wE hbE
        have HE := Lib.hid hEnd
        have kx0 : wE.cell? ⟨w.heap.size, 0, none⟩ = some (.int .i64 0) := by rw [cell_in hEnd.1]; rfl
        have kx1 : wE.cell? ⟨w.heap.size, 1, none⟩ = some (.int .i64 0) := by rw [cell_in hEnd.1]; rfl
        have kx2 : wE.cell? ⟨w.heap.size, 2, none⟩ = some (.slice none 0 0) := by rw [cell_in hEnd.1]; rfl
        have fx0 := frozen_in hEnd.1 0
        have fx1 := frozen_in hEnd.1 1
        have fx2 := frozen_in hEnd.1 2
        clear hEnd hbE hHeld hwE
        refine NoPanic.normal ?_
        go_wp2
        show bodyPost _ _ _ _ _ (set3 wE w.heap.size (.int .i64 0) (.int .i64 0) (.slice none 0 0))
        refine bodyPost_ret (results_cell_tmp rfl _ _ _ ⟨w.heap.size, 0, none⟩ _ rfl (load3 (set3_heap HE.out.1 _ _ _))) rfl ?_
        exact ⟨_, false, rfl, (set3_chg _ _ _ _ _).on HE.out.2 HE.out.2.size (fun k e => by rw [e]; exact Nat.le_refl _), by rw [HNO.out]; exact ⟨rfl, rfl⟩⟩
      · have hsz0 : 0 ≤ sz ∧ sz ≤ 1152921504606846975 := by
          unfold stampOk at hst
          simpa using hst
        obtain ⟨st, hst0⟩ : ∃ st : Nat, sz = (st : Int) := ⟨sz.toNat, by omega⟩
        have hstp := fun W => stamped_any sz (.slice q n cq) W
        simp only [hst] at hstp
        subst hst0
        have hstb : st ≤ 1152921504606846975 ∧ st = hS h := by
          have h1 := HSZ.out
          have h2 := HSL.out
          rw [IntKind.wrap_i64] at h1
          omega
        have HCHK := Lib.hid (show chk slot (h :: rest) = if h = hdrS G st body then some ⟨G, st, body⟩ else none by
          rw [HCK.out]
          unfold chkB
          rw [← hGb.2.2, ← hstb.2, ← HN.out, HBY.out]
          by_cases he : h = hdrS G st body
          · rw [if_pos ⟨by unfold roomS; omega, hGb.1, hGb.2.1, hsl, hstb.1, he⟩, if_pos he]
          · rw [if_neg (fun e => he e.2.2.2.2.2), if_neg he])
        have hhd := fun W hin => sheader_any G st q cq body (by rw [HBL2.out]; omega) W hin
        simp only [HBL2.out] at hhd
        have HHD := Lib.hid hhd
        have heq := fun W => sc_eq (hdrS G st body) h (hdrS_len G st body) HH.out W
        have HEQB := Lib.hid (show decide (hdrS G st body = h) = decide (h = hdrS G st body) by
          rw [decide_eq_decide]
          exact eq_comm)
        simp only [HEQB.out] at heq
        have HLH := Lib.hid (show (bCells (hdrS G st body)).length = 64 by rw [bCells_len, hdrS_len])
        obtain ⟨Hd, hHd⟩ : ∃ Hd, Hd = hdrS G st body := ⟨_, rfl⟩
        rw [← hHd] at HCHK HHD heq HEQB
        have HLH2 := Lib.hid (show Hd = hdrS G st body from hHd)
        clear hGb hsl hst hsz0 hstb hhd hHd
        cases hEQ : decide (h = Hd)
        · have HNO := Lib.hid (show chk slot (h :: rest) = none by
            rw [HCHK.out, if_neg (of_decide_eq_false hEQ)])
          have heq2 := heq
          simp only [hEQ] at heq2
          clear heq
          go_wp2_with fail
          rw [HW5.out]
          refine wp_region_noPanic ?_
          refine wp_region_held_drew (S := fun W => W.cell? ⟨C, 0, none⟩ = some (.int .i64 (G : Int)) ∧ W.cell? ⟨C, 1, none⟩ = some (.int .i64 (st : Int)) ∧ W.cell? ⟨C, 2, none⟩ = some (.slice q n cq) ∧ W.rangeAt (w.heap.size + 1) 0 (bCells h)) (by kernel_rfl) ((by exact HSOF.out _ (bD (Below.refl _ _)))) (fun hHeld => ?_)
          refine wpAnyH_take (i := 0) (v := ?_) rfl (by kernel_rfl) (by kernel_rfl) (by kernel_rfl) (fun _ _ _ h => h) (Or.inl ⟨by rfl, ?_⟩) (by assumption) ?_
          rotate_left
          · (intro w hSw; (try dsimp only at hSw); go_simp; try (with_reducible rfl))
          try simp only [Act.put, List.setIfInBounds_toArray, List.set_cons_zero, List.set_cons_succ, List.getElem_toArray, List.getElem_cons_zero]
          refine wpAnyH_take (i := 1) (v := ?_) rfl (by kernel_rfl) (by kernel_rfl) (by kernel_rfl) (fun _ _ _ h => h) (Or.inl ⟨by rfl, ?_⟩) (by assumption) ?_
          rotate_left
          · (intro w hSw; (try dsimp only at hSw); go_simp; try (with_reducible rfl))
          try simp only [Act.put, List.setIfInBounds_toArray, List.set_cons_zero, List.set_cons_succ, List.getElem_toArray, List.getElem_cons_zero, List.getElem_cons_succ]
          refine wpAnyH_take (i := 2) (v := ?_) rfl (by kernel_rfl) (by kernel_rfl) (by kernel_rfl) (fun _ _ _ h => h) (Or.inl ⟨by rfl, ?_⟩) (by assumption) ?_
          rotate_left
          · (intro w hSw; (try dsimp only at hSw); go_simp; try (with_reducible rfl))
          try simp only [Act.put, List.setIfInBounds_toArray, List.set_cons_zero, List.set_cons_succ, List.getElem_toArray, List.getElem_cons_zero, List.getElem_cons_succ]
          refine wpAnyH_take (i := 3) (v := ?_) rfl (by kernel_rfl) (by kernel_rfl) (by kernel_rfl) (fun _ _ _ h => h) (Or.inl ⟨by rfl, ?_⟩) (by assumption) ?_
          rotate_left
          · (intro w hSw; (try dsimp only at hSw); go_simp; try (with_reducible rfl))
          try simp only [Act.put, List.setIfInBounds_toArray, List.set_cons_zero, List.set_cons_succ, List.getElem_toArray, List.getElem_cons_zero, List.getElem_cons_succ]
          try simp only [f0]
          refine wpAnyH_take (i := 4) (v := ?_) rfl (by kernel_rfl) (by kernel_rfl) (by kernel_rfl) (fun _ _ _ h => h) (Or.inl ⟨by rfl, ?_⟩) (by assumption) ?_
          rotate_left
          · (intro w hSw; (try dsimp only at hSw); go_simp; try (with_reducible rfl))
          try simp only [Act.put, List.setIfInBounds_toArray, List.set_cons_zero, List.set_cons_succ, List.getElem_toArray, List.getElem_cons_zero, List.getElem_cons_succ]
          refine wpAnyH_take (i := 6) (v := ?_) rfl (by kernel_rfl) (by kernel_rfl) (by kernel_rfl) (fun _ _ _ h => h) (Or.inl ⟨by rfl, ?_⟩) (by assumption) ?_
          rotate_left
          · (intro w hSw; (try dsimp only at hSw); go_simp; try (with_reducible rfl))
          try simp only [Act.put, List.setIfInBounds_toArray, List.set_cons_zero, List.set_cons_succ, List.getElem_toArray, List.getElem_cons_zero, List.getElem_cons_succ]
          refine wpAnyH_ready (rs := [5]) (by kernel_rfl) (by simp) ?_
          refine AllReadyH.cons rfl (fun K hK => ?_) AllReadyH.nil
          go_simp
          go_at_call 58
          refine (hslot _).mono ?_
          rintro e6 w6 ⟨rfl, hb6⟩
          have hbE6 : Below w5.heap.size w5 w6 := (bD (Below.refl w5.heap.size w5)).trans hb6
          refine hK.out _ _ ((by exact HSOF.out _ hbE6)) (fun hHeld2 => ?_)
          clear hK K hHeld
          have hHeld := hHeld2
          clear hHeld2
          try simp only [Act.put, List.setIfInBounds_toArray, List.set_cons_zero, List.set_cons_succ, List.getElem_toArray, List.getElem_cons_zero, List.getElem_cons_succ]
          refine wpAnyH_take (i := 7) (v := ?_) rfl (by kernel_rfl) (by kernel_rfl) (by kernel_rfl) (fun _ _ _ h => h) (Or.inl ⟨by rfl, ?_⟩) (by assumption) ?_
          rotate_left
          · (intro w hSw; (try dsimp only at hSw); go_simp; try (with_reducible rfl))
          try simp only [Act.put, List.setIfInBounds_toArray, List.set_cons_zero, List.set_cons_succ, List.getElem_toArray, List.getElem_cons_zero, List.getElem_cons_succ]
          try simp only [f1]
          refine wpAnyH_take (i := 8) (v := ?_) rfl (by kernel_rfl) (by kernel_rfl) (by kernel_rfl) (fun _ _ _ h => h) (Or.inl ⟨by rfl, ?_⟩) (by assumption) ?_
          rotate_left
          · (intro w hSw; (try dsimp only at hSw); go_simp; try (with_reducible rfl))
          try simp only [Act.put, List.setIfInBounds_toArray, List.set_cons_zero, List.set_cons_succ, List.getElem_toArray, List.getElem_cons_zero, List.getElem_cons_succ]
          refine wpAnyH_take (i := 9) (v := ?_) rfl (by kernel_rfl) (by kernel_rfl) (by kernel_rfl) (fun _ _ _ h => h) (Or.inl ⟨by rfl, ?_⟩) (by assumption) ?_
          rotate_left
          · (intro w hSw; (try dsimp only at hSw); go_simp; try (with_reducible rfl))
          try simp only [Act.put, List.setIfInBounds_toArray, List.set_cons_zero, List.set_cons_succ, List.getElem_toArray, List.getElem_cons_zero, List.getElem_cons_succ]
          refine wpAnyH_take (i := 10) (v := ?_) rfl (by kernel_rfl) (by kernel_rfl) (by kernel_rfl) (fun _ _ _ h => h) (Or.inl ⟨by rfl, ?_⟩) (by assumption) ?_
          rotate_left
          · (intro w hSw; (try dsimp only at hSw); go_simp; try (with_reducible rfl))
          try simp only [Act.put, List.setIfInBounds_toArray, List.set_cons_zero, List.set_cons_succ, List.getElem_toArray, List.getElem_cons_zero, List.getElem_cons_succ]
          refine wpAnyH_take (i := 11) (v := ?_) rfl (by kernel_rfl) (by kernel_rfl) (by kernel_rfl) (fun _ _ _ h => h) (Or.inl ⟨by rfl, ?_⟩) (by assumption) ?_
          rotate_left
          · (intro w hSw; (try dsimp only at hSw); go_simp; try (with_reducible rfl))
          try simp only [Act.put, List.setIfInBounds_toArray, List.set_cons_zero, List.set_cons_succ, List.getElem_toArray, List.getElem_cons_zero, List.getElem_cons_succ]
          refine wpAnyH_ready (rs := [12]) (by kernel_rfl) (by simp) ?_
          refine AllReadyH.cons rfl (fun K hK => ?_) AllReadyH.nil
          go_simp
          go_at_call 44
          refine (hstp _).mono ?_
          rintro e7 w7 ⟨rfl, hb7⟩
          have hbE7 : Below w5.heap.size w5 w7 := hbE6.trans (hb7.mono hbE6.size)
          refine hK.out _ _ ((by exact HSOF.out _ hbE7)) (fun hHeld2 => ?_)
          clear hK K hHeld
          have hHeld := hHeld2
          clear hHeld2
          try simp only [Act.put, List.setIfInBounds_toArray, List.set_cons_zero, List.set_cons_succ, List.getElem_toArray, List.getElem_cons_zero, List.getElem_cons_succ]
          refine wpAnyH_take (i := 13) (v := ?_) rfl (by kernel_rfl) (by kernel_rfl) (by kernel_rfl) (fun _ _ _ h => h) (Or.inl ⟨by rfl, ?_⟩) (by assumption) ?_
          rotate_left
          · (intro w hSw; (try dsimp only at hSw); go_simp; try (with_reducible rfl))
          try simp only [Act.put, List.setIfInBounds_toArray, List.set_cons_zero, List.set_cons_succ, List.getElem_toArray, List.getElem_cons_zero, List.getElem_cons_succ]
          refine wpAnyH_take (i := 14) (v := ?_) rfl (by kernel_rfl) (by kernel_rfl) (by kernel_rfl) (fun _ _ _ h => h) (Or.inl ⟨by rfl, ?_⟩) (by assumption) ?_
          rotate_left
          · (intro w hSw; (try dsimp only at hSw); go_simp; try (with_reducible rfl))
          try simp only [Act.put, List.setIfInBounds_toArray, List.set_cons_zero, List.set_cons_succ, List.getElem_toArray, List.getElem_cons_zero, List.getElem_cons_succ]
          refine wpAnyH_take (i := 15) (v := ?_) rfl (by kernel_rfl) (by kernel_rfl) (by kernel_rfl) (fun _ _ _ h => h) (Or.inl ⟨by rfl, ?_⟩) (by assumption) ?_
          rotate_left
          · (intro w hSw; (try dsimp only at hSw); go_simp; try (with_reducible rfl))
          try simp only [Act.put, List.setIfInBounds_toArray, List.set_cons_zero, List.set_cons_succ, List.getElem_toArray, List.getElem_cons_zero, List.getElem_cons_succ]
          refine wpAnyH_take (i := 16) (v := ?_) rfl (by kernel_rfl) (by kernel_rfl) (by kernel_rfl) (fun _ _ _ h => h) (Or.inl ⟨by rfl, ?_⟩) (by assumption) ?_
          rotate_left
          · (intro w hSw; (try dsimp only at hSw); go_simp; try (with_reducible rfl))
          try simp only [Act.put, List.setIfInBounds_toArray, List.set_cons_zero, List.set_cons_succ, List.getElem_toArray, List.getElem_cons_zero, List.getElem_cons_succ]
          refine wpAnyH_take (i := 18) (v := .agg (bCells h).toArray) rfl (by kernel_rfl) (by kernel_rfl) (by kernel_rfl) (fun _ _ _ h => h) (yieldsIf_load_mid (by rfl) 115 (.tmp 6) rfl (w.heap.size + 1) (0) rfl (bCells h) _ (fun W hW => hW.2.2.2) Try.underlying115 rfl (by rw [HBL.out]; exact size_sc)) (by assumption) ?_
          try simp only [Act.put, List.setIfInBounds_toArray, List.set_cons_zero, List.set_cons_succ, List.getElem_toArray, List.getElem_cons_zero, List.getElem_cons_succ]
          refine wpAnyH_ready (rs := [17]) (by kernel_rfl) (by simp) ?_
          refine AllReadyH.cons rfl (fun K hK => ?_) AllReadyH.nil
          go_simp
          go_at_call 60
          refine (HHD.out _ ((Chg.below hbE7 (fun _ => False)).inat HQ5.out.1)).mono ?_
          rintro e8 w8 ⟨rfl, hb8⟩
          have hbE : Below w5.heap.size w5 w8 := hbE7.trans (hb8.mono hbE7.size)
          refine hK.out _ _ ((by exact HSOF.out _ hbE)) (fun hHeld2 => ?_)
          clear hK K hHeld
          have hHeld := hHeld2
          clear hHeld2
          try simp only [Act.put, List.setIfInBounds_toArray, List.set_cons_zero, List.set_cons_succ, List.getElem_toArray, List.getElem_cons_zero, List.getElem_cons_succ]
          refine wpAnyH_take (i := 19) (v := ?_) rfl (by kernel_rfl) (by kernel_rfl) (by kernel_rfl) (fun _ _ _ h => h) (Or.inl ⟨by rfl, ?_⟩) (by assumption) ?_
          rotate_left
          · (intro w hSw; (try dsimp only at hSw); go_simp; try (with_reducible rfl))
          try simp only [Act.put, List.setIfInBounds_toArray, List.set_cons_zero, List.set_cons_succ, List.getElem_toArray, List.getElem_cons_zero, List.getElem_cons_succ]
          refine wpAnyH_take (i := 20) (v := ?_) rfl (by kernel_rfl) (by kernel_rfl) (by kernel_rfl) (fun _ _ _ h => h) (Or.inl ⟨by rfl, ?_⟩) (by assumption) ?_
          rotate_left
          · (intro w hSw; (try dsimp only at hSw); go_simp; try (with_reducible rfl))
          try simp only [Act.put, List.setIfInBounds_toArray, List.set_cons_zero, List.set_cons_succ, List.getElem_toArray, List.getElem_cons_zero, List.getElem_cons_succ]
          refine wpAnyH_done (by kernel_rfl) ?_ _
          obtain ⟨wE, hwE⟩ : ∃ wE, w8 = wE := ⟨_, rfl⟩
          rw [hwE] at hbE ⊢
          have hEnd := HEND.out wE hbE
          have HE := Lib.hid hEnd
          have kx0 : wE.cell? ⟨w.heap.size, 0, none⟩ = some (.int .i64 0) := by rw [cell_in hEnd.1]; rfl
          have kx1 : wE.cell? ⟨w.heap.size, 1, none⟩ = some (.int .i64 0) := by rw [cell_in hEnd.1]; rfl
          have kx2 : wE.cell? ⟨w.heap.size, 2, none⟩ = some (.slice none 0 0) := by rw [cell_in hEnd.1]; rfl
          have fx0 := frozen_in hEnd.1 0
          have fx1 := frozen_in hEnd.1 1
          have fx2 := frozen_in hEnd.1 2
          clear hEnd hbE hHeld hwE
          refine NoPanic.normal ?_
          go_wp2
          show bodyPost _ _ _ _ _ (set3 wE w.heap.size (.int .i64 0) (.int .i64 0) (.slice none 0 0))
          refine bodyPost_ret (results_cell_tmp rfl _ _ _ ⟨w.heap.size, 0, none⟩ _ rfl (load3 (set3_heap HE.out.1 _ _ _))) rfl ?_
          exact ⟨_, false, rfl, (set3_chg _ _ _ _ _).on HE.out.2 HE.out.2.size (fun k e => by rw [e]; exact Nat.le_refl _), by rw [HNO.out]; exact ⟨rfl, rfl⟩⟩
        · have HYES := Lib.hid (show chk slot (h :: rest) = some ⟨G, st, body⟩ by
            rw [HCHK.out, if_pos (of_decide_eq_true hEQ)])
          have heq2 := heq
          simp only [hEQ] at heq2
          clear heq
          go_wp2_with fail
          rw [HW5.out]
          refine wp_region_noPanic ?_
          refine wp_region_held_drew (S := fun W => W.cell? ⟨C, 0, none⟩ = some (.int .i64 (G : Int)) ∧ W.cell? ⟨C, 1, none⟩ = some (.int .i64 (st : Int)) ∧ W.cell? ⟨C, 2, none⟩ = some (.slice q n cq) ∧ W.rangeAt (w.heap.size + 1) 0 (bCells h)) (by kernel_rfl) ((by exact HSOF.out _ (bD (Below.refl _ _)))) (fun hHeld => ?_)
          refine wpAnyH_take (i := 0) (v := ?_) rfl (by kernel_rfl) (by kernel_rfl) (by kernel_rfl) (fun _ _ _ h => h) (Or.inl ⟨by rfl, ?_⟩) (by assumption) ?_
          rotate_left
          · (intro w hSw; (try dsimp only at hSw); go_simp; try (with_reducible rfl))
          try simp only [Act.put, List.setIfInBounds_toArray, List.set_cons_zero, List.set_cons_succ, List.getElem_toArray, List.getElem_cons_zero]
          refine wpAnyH_take (i := 1) (v := ?_) rfl (by kernel_rfl) (by kernel_rfl) (by kernel_rfl) (fun _ _ _ h => h) (Or.inl ⟨by rfl, ?_⟩) (by assumption) ?_
          rotate_left
          · (intro w hSw; (try dsimp only at hSw); go_simp; try (with_reducible rfl))
          try simp only [Act.put, List.setIfInBounds_toArray, List.set_cons_zero, List.set_cons_succ, List.getElem_toArray, List.getElem_cons_zero, List.getElem_cons_succ]
          refine wpAnyH_take (i := 2) (v := ?_) rfl (by kernel_rfl) (by kernel_rfl) (by kernel_rfl) (fun _ _ _ h => h) (Or.inl ⟨by rfl, ?_⟩) (by assumption) ?_
          rotate_left
          · (intro w hSw; (try dsimp only at hSw); go_simp; try (with_reducible rfl))
          try simp only [Act.put, List.setIfInBounds_toArray, List.set_cons_zero, List.set_cons_succ, List.getElem_toArray, List.getElem_cons_zero, List.getElem_cons_succ]
          refine wpAnyH_take (i := 3) (v := ?_) rfl (by kernel_rfl) (by kernel_rfl) (by kernel_rfl) (fun _ _ _ h => h) (Or.inl ⟨by rfl, ?_⟩) (by assumption) ?_
          rotate_left
          · (intro w hSw; (try dsimp only at hSw); go_simp; try (with_reducible rfl))
          try simp only [Act.put, List.setIfInBounds_toArray, List.set_cons_zero, List.set_cons_succ, List.getElem_toArray, List.getElem_cons_zero, List.getElem_cons_succ]
          try simp only [f0]
          refine wpAnyH_take (i := 4) (v := ?_) rfl (by kernel_rfl) (by kernel_rfl) (by kernel_rfl) (fun _ _ _ h => h) (Or.inl ⟨by rfl, ?_⟩) (by assumption) ?_
          rotate_left
          · (intro w hSw; (try dsimp only at hSw); go_simp; try (with_reducible rfl))
          try simp only [Act.put, List.setIfInBounds_toArray, List.set_cons_zero, List.set_cons_succ, List.getElem_toArray, List.getElem_cons_zero, List.getElem_cons_succ]
          refine wpAnyH_take (i := 6) (v := ?_) rfl (by kernel_rfl) (by kernel_rfl) (by kernel_rfl) (fun _ _ _ h => h) (Or.inl ⟨by rfl, ?_⟩) (by assumption) ?_
          rotate_left
          · (intro w hSw; (try dsimp only at hSw); go_simp; try (with_reducible rfl))
          try simp only [Act.put, List.setIfInBounds_toArray, List.set_cons_zero, List.set_cons_succ, List.getElem_toArray, List.getElem_cons_zero, List.getElem_cons_succ]
          refine wpAnyH_ready (rs := [5]) (by kernel_rfl) (by simp) ?_
          refine AllReadyH.cons rfl (fun K hK => ?_) AllReadyH.nil
          go_simp
          go_at_call 58
          refine (hslot _).mono ?_
          rintro e6 w6 ⟨rfl, hb6⟩
          have hbE6 : Below w5.heap.size w5 w6 := (bD (Below.refl w5.heap.size w5)).trans hb6
          refine hK.out _ _ ((by exact HSOF.out _ hbE6)) (fun hHeld2 => ?_)
          clear hK K hHeld
          have hHeld := hHeld2
          clear hHeld2
          try simp only [Act.put, List.setIfInBounds_toArray, List.set_cons_zero, List.set_cons_succ, List.getElem_toArray, List.getElem_cons_zero, List.getElem_cons_succ]
          refine wpAnyH_take (i := 7) (v := ?_) rfl (by kernel_rfl) (by kernel_rfl) (by kernel_rfl) (fun _ _ _ h => h) (Or.inl ⟨by rfl, ?_⟩) (by assumption) ?_
          rotate_left
          · (intro w hSw; (try dsimp only at hSw); go_simp; try (with_reducible rfl))
          try simp only [Act.put, List.setIfInBounds_toArray, List.set_cons_zero, List.set_cons_succ, List.getElem_toArray, List.getElem_cons_zero, List.getElem_cons_succ]
          try simp only [f1]
          refine wpAnyH_take (i := 8) (v := ?_) rfl (by kernel_rfl) (by kernel_rfl) (by kernel_rfl) (fun _ _ _ h => h) (Or.inl ⟨by rfl, ?_⟩) (by assumption) ?_
          rotate_left
          · (intro w hSw; (try dsimp only at hSw); go_simp; try (with_reducible rfl))
          try simp only [Act.put, List.setIfInBounds_toArray, List.set_cons_zero, List.set_cons_succ, List.getElem_toArray, List.getElem_cons_zero, List.getElem_cons_succ]
          refine wpAnyH_take (i := 9) (v := ?_) rfl (by kernel_rfl) (by kernel_rfl) (by kernel_rfl) (fun _ _ _ h => h) (Or.inl ⟨by rfl, ?_⟩) (by assumption) ?_
          rotate_left
          · (intro w hSw; (try dsimp only at hSw); go_simp; try (with_reducible rfl))
          try simp only [Act.put, List.setIfInBounds_toArray, List.set_cons_zero, List.set_cons_succ, List.getElem_toArray, List.getElem_cons_zero, List.getElem_cons_succ]
          refine wpAnyH_take (i := 10) (v := ?_) rfl (by kernel_rfl) (by kernel_rfl) (by kernel_rfl) (fun _ _ _ h => h) (Or.inl ⟨by rfl, ?_⟩) (by assumption) ?_
          rotate_left
          · (intro w hSw; (try dsimp only at hSw); go_simp; try (with_reducible rfl))
          try simp only [Act.put, List.setIfInBounds_toArray, List.set_cons_zero, List.set_cons_succ, List.getElem_toArray, List.getElem_cons_zero, List.getElem_cons_succ]
          refine wpAnyH_take (i := 11) (v := ?_) rfl (by kernel_rfl) (by kernel_rfl) (by kernel_rfl) (fun _ _ _ h => h) (Or.inl ⟨by rfl, ?_⟩) (by assumption) ?_
          rotate_left
          · (intro w hSw; (try dsimp only at hSw); go_simp; try (with_reducible rfl))
          try simp only [Act.put, List.setIfInBounds_toArray, List.set_cons_zero, List.set_cons_succ, List.getElem_toArray, List.getElem_cons_zero, List.getElem_cons_succ]
          refine wpAnyH_ready (rs := [12]) (by kernel_rfl) (by simp) ?_
          refine AllReadyH.cons rfl (fun K hK => ?_) AllReadyH.nil
          go_simp
          go_at_call 44
          refine (hstp _).mono ?_
          rintro e7 w7 ⟨rfl, hb7⟩
          have hbE7 : Below w5.heap.size w5 w7 := hbE6.trans (hb7.mono hbE6.size)
          refine hK.out _ _ ((by exact HSOF.out _ hbE7)) (fun hHeld2 => ?_)
          clear hK K hHeld
          have hHeld := hHeld2
          clear hHeld2
          try simp only [Act.put, List.setIfInBounds_toArray, List.set_cons_zero, List.set_cons_succ, List.getElem_toArray, List.getElem_cons_zero, List.getElem_cons_succ]
          refine wpAnyH_take (i := 13) (v := ?_) rfl (by kernel_rfl) (by kernel_rfl) (by kernel_rfl) (fun _ _ _ h => h) (Or.inl ⟨by rfl, ?_⟩) (by assumption) ?_
          rotate_left
          · (intro w hSw; (try dsimp only at hSw); go_simp; try (with_reducible rfl))
          try simp only [Act.put, List.setIfInBounds_toArray, List.set_cons_zero, List.set_cons_succ, List.getElem_toArray, List.getElem_cons_zero, List.getElem_cons_succ]
          refine wpAnyH_take (i := 14) (v := ?_) rfl (by kernel_rfl) (by kernel_rfl) (by kernel_rfl) (fun _ _ _ h => h) (Or.inl ⟨by rfl, ?_⟩) (by assumption) ?_
          rotate_left
          · (intro w hSw; (try dsimp only at hSw); go_simp; try (with_reducible rfl))
          try simp only [Act.put, List.setIfInBounds_toArray, List.set_cons_zero, List.set_cons_succ, List.getElem_toArray, List.getElem_cons_zero, List.getElem_cons_succ]
          refine wpAnyH_take (i := 15) (v := ?_) rfl (by kernel_rfl) (by kernel_rfl) (by kernel_rfl) (fun _ _ _ h => h) (Or.inl ⟨by rfl, ?_⟩) (by assumption) ?_
          rotate_left
          · (intro w hSw; (try dsimp only at hSw); go_simp; try (with_reducible rfl))
          try simp only [Act.put, List.setIfInBounds_toArray, List.set_cons_zero, List.set_cons_succ, List.getElem_toArray, List.getElem_cons_zero, List.getElem_cons_succ]
          refine wpAnyH_take (i := 16) (v := ?_) rfl (by kernel_rfl) (by kernel_rfl) (by kernel_rfl) (fun _ _ _ h => h) (Or.inl ⟨by rfl, ?_⟩) (by assumption) ?_
          rotate_left
          · (intro w hSw; (try dsimp only at hSw); go_simp; try (with_reducible rfl))
          try simp only [Act.put, List.setIfInBounds_toArray, List.set_cons_zero, List.set_cons_succ, List.getElem_toArray, List.getElem_cons_zero, List.getElem_cons_succ]
          refine wpAnyH_take (i := 18) (v := .agg (bCells h).toArray) rfl (by kernel_rfl) (by kernel_rfl) (by kernel_rfl) (fun _ _ _ h => h) (yieldsIf_load_mid (by rfl) 115 (.tmp 6) rfl (w.heap.size + 1) (0) rfl (bCells h) _ (fun W hW => hW.2.2.2) Try.underlying115 rfl (by rw [HBL.out]; exact size_sc)) (by assumption) ?_
          try simp only [Act.put, List.setIfInBounds_toArray, List.set_cons_zero, List.set_cons_succ, List.getElem_toArray, List.getElem_cons_zero, List.getElem_cons_succ]
          refine wpAnyH_ready (rs := [17]) (by kernel_rfl) (by simp) ?_
          refine AllReadyH.cons rfl (fun K hK => ?_) AllReadyH.nil
          go_simp
          go_at_call 60
          refine (HHD.out _ ((Chg.below hbE7 (fun _ => False)).inat HQ5.out.1)).mono ?_
          rintro e8 w8 ⟨rfl, hb8⟩
          have hbE : Below w5.heap.size w5 w8 := hbE7.trans (hb8.mono hbE7.size)
          refine hK.out _ _ ((by exact HSOF.out _ hbE)) (fun hHeld2 => ?_)
          clear hK K hHeld
          have hHeld := hHeld2
          clear hHeld2
          try simp only [Act.put, List.setIfInBounds_toArray, List.set_cons_zero, List.set_cons_succ, List.getElem_toArray, List.getElem_cons_zero, List.getElem_cons_succ]
          refine wpAnyH_take (i := 19) (v := ?_) rfl (by kernel_rfl) (by kernel_rfl) (by kernel_rfl) (fun _ _ _ h => h) (Or.inl ⟨by rfl, ?_⟩) (by assumption) ?_
          rotate_left
          · (intro w hSw; (try dsimp only at hSw); go_simp; try (with_reducible rfl))
          try simp only [Act.put, List.setIfInBounds_toArray, List.set_cons_zero, List.set_cons_succ, List.getElem_toArray, List.getElem_cons_zero, List.getElem_cons_succ]
          refine wpAnyH_take (i := 20) (v := ?_) rfl (by kernel_rfl) (by kernel_rfl) (by kernel_rfl) (fun _ _ _ h => h) (Or.inl ⟨by rfl, ?_⟩) (by assumption) ?_
          rotate_left
          · (intro w hSw; (try dsimp only at hSw); go_simp; try (with_reducible rfl))
          try simp only [Act.put, List.setIfInBounds_toArray, List.set_cons_zero, List.set_cons_succ, List.getElem_toArray, List.getElem_cons_zero, List.getElem_cons_succ]
          refine wpAnyH_done (by kernel_rfl) ?_ _
          have hEnd := HEND.out w8 hbE
          have hS8 := HSOF.out w8 hbE
          have HE := Lib.hid hEnd
          have HQ8 := Lib.hid (HQ5.out.on hbE)
          have k8a := hS8.1
          have k8b := hS8.2.1
          have k8c := hS8.2.2.1
          have kx0 : w8.cell? ⟨w.heap.size, 0, none⟩ = some (.int .i64 0) := by rw [cell_in hEnd.1]; rfl
          have kx1 : w8.cell? ⟨w.heap.size, 1, none⟩ = some (.int .i64 0) := by rw [cell_in hEnd.1]; rfl
          have kx2 : w8.cell? ⟨w.heap.size, 2, none⟩ = some (.slice none 0 0) := by rw [cell_in hEnd.1]; rfl
          have fx0 := frozen_in hEnd.1 0
          have fx1 := frozen_in hEnd.1 1
          have fx2 := frozen_in hEnd.1 2
          clear hEnd hbE hHeld hS8
          refine NoPanic.normal ?_
          go_wp2
          show bodyPost _ _ _ _ _ (set3 w8 w.heap.size (.int .i64 G) (.int .i64 st) (.slice q n cq))
          refine bodyPost_ret (results_cell_tmp rfl _ _ _ ⟨w.heap.size, 0, none⟩ _ rfl (load3 (set3_heap HE.out.1 _ _ _))) rfl ?_
          refine ⟨_, true, rfl, (set3_chg _ _ _ _ _).on HE.out.2 HE.out.2.size (fun k e => by rw [e]; exact Nat.le_refl _), ?_⟩
          rw [HYES.out]
          refine ⟨rfl, q, cq, by show _ = #[_, _, Value.slice q body.length cq]; rw [HBL2.out], ?_⟩
          obtain ⟨h1, ⟨b, hqb, hlo, cs, fr, hh⟩, h2⟩ := HQ8.out
          have hbne : b ≠ w.heap.size := fun e => by
            rw [e] at hh
            have h3 := HE.out.1
            rw [hh] at h3
            simp only [Option.some.injEq, Obj.cells.injEq] at h3
            exact absurd h3.2.1 (by decide)
          exact ⟨h1.chg (set3_chg _ _ _ _ _) (fun b' o' e' => by rw [hqb] at e'; cases e'; exact hbne), ⟨b, hqb, hlo, cs, fr, (set3_chg _ _ _ _ _).box hh hbne⟩, h2⟩
    obtain ⟨pp, hpp⟩ : ∃ pp, pp = G % 2 := ⟨_, rfl⟩
    have f1 : ((pp : Int) != (slot : Int)) = true := by rw [bne_iff_ne]; omega
    have HNO := Lib.hid (show chk slot (h :: rest) = none by
      rw [HCK.out]
      unfold chkB
      rw [if_neg (fun e => ?_)]
      have := e.2.2.2.1
      have := hGb.2.2
      omega)
    have hslot := fun W => slot_any G hGb.2.1 (.int .i64 sz) (.slice q n cq) W
    simp only [← hpp] at hslot
    clear hGb hsl hpp
    go_wp2_with fail
    rw [HW5.out]
    refine wp_region_noPanic ?_
    refine wp_region_held_drew (S := fun W => W.cell? ⟨C, 0, none⟩ = some (.int .i64 (G : Int)) ∧ W.cell? ⟨C, 1, none⟩ = some (.int .i64 sz) ∧ W.cell? ⟨C, 2, none⟩ = some (.slice q n cq) ∧ W.rangeAt (w.heap.size + 1) 0 (bCells h)) (by kernel_rfl) ((by exact HSOF.out _ (bD (Below.refl _ _)))) (fun hHeld => ?_)
    refine wpAnyH_take (i := 0) (v := ?_) rfl (by kernel_rfl) (by kernel_rfl) (by kernel_rfl) (fun _ _ _ h => h) (Or.inl ⟨by rfl, ?_⟩) (by assumption) ?_
    rotate_left
    · (intro w hSw; (try dsimp only at hSw); go_simp; try (with_reducible rfl))
    try simp only [Act.put, List.setIfInBounds_toArray, List.set_cons_zero, List.set_cons_succ, List.getElem_toArray, List.getElem_cons_zero]
    refine wpAnyH_take (i := 1) (v := ?_) rfl (by kernel_rfl) (by kernel_rfl) (by kernel_rfl) (fun _ _ _ h => h) (Or.inl ⟨by rfl, ?_⟩) (by assumption) ?_
    rotate_left
    · (intro w hSw; (try dsimp only at hSw); go_simp; try (with_reducible rfl))
    try simp only [Act.put, List.setIfInBounds_toArray, List.set_cons_zero, List.set_cons_succ, List.getElem_toArray, List.getElem_cons_zero, List.getElem_cons_succ]
    refine wpAnyH_take (i := 2) (v := ?_) rfl (by kernel_rfl) (by kernel_rfl) (by kernel_rfl) (fun _ _ _ h => h) (Or.inl ⟨by rfl, ?_⟩) (by assumption) ?_
    rotate_left
    · (intro w hSw; (try dsimp only at hSw); go_simp; try (with_reducible rfl))
    try simp only [Act.put, List.setIfInBounds_toArray, List.set_cons_zero, List.set_cons_succ, List.getElem_toArray, List.getElem_cons_zero, List.getElem_cons_succ]
    refine wpAnyH_take (i := 3) (v := ?_) rfl (by kernel_rfl) (by kernel_rfl) (by kernel_rfl) (fun _ _ _ h => h) (Or.inl ⟨by rfl, ?_⟩) (by assumption) ?_
    rotate_left
    · (intro w hSw; (try dsimp only at hSw); go_simp; try (with_reducible rfl))
    try simp only [Act.put, List.setIfInBounds_toArray, List.set_cons_zero, List.set_cons_succ, List.getElem_toArray, List.getElem_cons_zero, List.getElem_cons_succ]
    try simp only [f0]
    refine wpAnyH_take (i := 4) (v := ?_) rfl (by kernel_rfl) (by kernel_rfl) (by kernel_rfl) (fun _ _ _ h => h) (Or.inl ⟨by rfl, ?_⟩) (by assumption) ?_
    rotate_left
    · (intro w hSw; (try dsimp only at hSw); go_simp; try (with_reducible rfl))
    try simp only [Act.put, List.setIfInBounds_toArray, List.set_cons_zero, List.set_cons_succ, List.getElem_toArray, List.getElem_cons_zero, List.getElem_cons_succ]
    refine wpAnyH_take (i := 6) (v := ?_) rfl (by kernel_rfl) (by kernel_rfl) (by kernel_rfl) (fun _ _ _ h => h) (Or.inl ⟨by rfl, ?_⟩) (by assumption) ?_
    rotate_left
    · (intro w hSw; (try dsimp only at hSw); go_simp; try (with_reducible rfl))
    try simp only [Act.put, List.setIfInBounds_toArray, List.set_cons_zero, List.set_cons_succ, List.getElem_toArray, List.getElem_cons_zero, List.getElem_cons_succ]
    refine wpAnyH_ready (rs := [5]) (by kernel_rfl) (by simp) ?_
    refine AllReadyH.cons rfl (fun K hK => ?_) AllReadyH.nil
    go_simp
    go_at_call 58
    refine (hslot _).mono ?_
    rintro e6 w6 ⟨rfl, hb6⟩
    have hbE : Below w5.heap.size w5 w6 := (bD (Below.refl w5.heap.size w5)).trans hb6
    refine hK.out _ _ ((by exact HSOF.out _ hbE)) (fun hHeld2 => ?_)
    clear hK K hHeld
    have hHeld := hHeld2
    clear hHeld2
    try simp only [Act.put, List.setIfInBounds_toArray, List.set_cons_zero, List.set_cons_succ, List.getElem_toArray, List.getElem_cons_zero, List.getElem_cons_succ]
    refine wpAnyH_take (i := 7) (v := ?_) rfl (by kernel_rfl) (by kernel_rfl) (by kernel_rfl) (fun _ _ _ h => h) (Or.inl ⟨by rfl, ?_⟩) (by assumption) ?_
    rotate_left
    · (intro w hSw; (try dsimp only at hSw); go_simp; try (with_reducible rfl))
    try simp only [Act.put, List.setIfInBounds_toArray, List.set_cons_zero, List.set_cons_succ, List.getElem_toArray, List.getElem_cons_zero, List.getElem_cons_succ]
    try simp only [f1]
    refine wpAnyH_take (i := 8) (v := ?_) rfl (by kernel_rfl) (by kernel_rfl) (by kernel_rfl) (fun _ _ _ h => h) (Or.inl ⟨by rfl, ?_⟩) (by assumption) ?_
    rotate_left
    · (intro w hSw; (try dsimp only at hSw); go_simp; try (with_reducible rfl))
    try simp only [Act.put, List.setIfInBounds_toArray, List.set_cons_zero, List.set_cons_succ, List.getElem_toArray, List.getElem_cons_zero, List.getElem_cons_succ]
    refine wpAnyH_take (i := 9) (v := ?_) rfl (by kernel_rfl) (by kernel_rfl) (by kernel_rfl) (fun _ _ _ h => h) (Or.inl ⟨by rfl, ?_⟩) (by assumption) ?_
    rotate_left
    · (intro w hSw; (try dsimp only at hSw); go_simp; try (with_reducible rfl))
    try simp only [Act.put, List.setIfInBounds_toArray, List.set_cons_zero, List.set_cons_succ, List.getElem_toArray, List.getElem_cons_zero, List.getElem_cons_succ]
    refine wpAnyH_take (i := 10) (v := undef) rfl (by kernel_rfl) (by kernel_rfl) (by kernel_rfl) (fun _ _ _ h => h) (Or.inr ⟨by rfl, rfl⟩) (by assumption) ?_
    try simp only [Act.put, List.setIfInBounds_toArray, List.set_cons_zero, List.set_cons_succ, List.getElem_toArray, List.getElem_cons_zero, List.getElem_cons_succ]
    refine wpAnyH_take (i := 11) (v := undef) rfl (by kernel_rfl) (by kernel_rfl) (by kernel_rfl) (fun _ _ _ h => h) (Or.inr ⟨by rfl, rfl⟩) (by assumption) ?_
    try simp only [Act.put, List.setIfInBounds_toArray, List.set_cons_zero, List.set_cons_succ, List.getElem_toArray, List.getElem_cons_zero, List.getElem_cons_succ]
    refine wpAnyH_take (i := 12) (v := undef) rfl (by kernel_rfl) (by kernel_rfl) (by kernel_rfl) (fun _ _ _ h => h) (Or.inr ⟨by rfl, rfl⟩) (by assumption) ?_
    try simp only [Act.put, List.setIfInBounds_toArray, List.set_cons_zero, List.set_cons_succ, List.getElem_toArray, List.getElem_cons_zero, List.getElem_cons_succ]
    refine wpAnyH_take (i := 13) (v := undef) rfl (by kernel_rfl) (by kernel_rfl) (by kernel_rfl) (fun _ _ _ h => h) (Or.inr ⟨by rfl, rfl⟩) (by assumption) ?_
    try simp only [Act.put, List.setIfInBounds_toArray, List.set_cons_zero, List.set_cons_succ, List.getElem_toArray, List.getElem_cons_zero, List.getElem_cons_succ]
    refine wpAnyH_take (i := 14) (v := ?_) rfl (by kernel_rfl) (by kernel_rfl) (by kernel_rfl) (fun _ _ _ h => h) (Or.inl ⟨by rfl, ?_⟩) (by assumption) ?_
    rotate_left
    · (intro w hSw; (try dsimp only at hSw); go_simp; try (with_reducible rfl))
    try simp only [Act.put, List.setIfInBounds_toArray, List.set_cons_zero, List.set_cons_succ, List.getElem_toArray, List.getElem_cons_zero, List.getElem_cons_succ]
    refine wpAnyH_take (i := 15) (v := ?_) rfl (by kernel_rfl) (by kernel_rfl) (by kernel_rfl) (fun _ _ _ h => h) (Or.inl ⟨by rfl, ?_⟩) (by assumption) ?_
    rotate_left
    · (intro w hSw; (try dsimp only at hSw); go_simp; try (with_reducible rfl))
    try simp only [Act.put, List.setIfInBounds_toArray, List.set_cons_zero, List.set_cons_succ, List.getElem_toArray, List.getElem_cons_zero, List.getElem_cons_succ]
    refine wpAnyH_take (i := 16) (v := undef) rfl (by kernel_rfl) (by kernel_rfl) (by kernel_rfl) (fun _ _ _ h => h) (Or.inr ⟨by rfl, rfl⟩) (by assumption) ?_
    try simp only [Act.put, List.setIfInBounds_toArray, List.set_cons_zero, List.set_cons_succ, List.getElem_toArray, List.getElem_cons_zero, List.getElem_cons_succ]
    refine wpAnyH_take (i := 17) (v := undef) rfl (by kernel_rfl) (by kernel_rfl) (by kernel_rfl) (fun _ _ _ h => h) (Or.inr ⟨by rfl, rfl⟩) (by assumption) ?_
    try simp only [Act.put, List.setIfInBounds_toArray, List.set_cons_zero, List.set_cons_succ, List.getElem_toArray, List.getElem_cons_zero, List.getElem_cons_succ]
    refine wpAnyH_take (i := 18) (v := undef) rfl (by kernel_rfl) (by kernel_rfl) (by kernel_rfl) (fun _ _ _ h => h) (Or.inr ⟨by rfl, rfl⟩) (by assumption) ?_
    try simp only [Act.put, List.setIfInBounds_toArray, List.set_cons_zero, List.set_cons_succ, List.getElem_toArray, List.getElem_cons_zero, List.getElem_cons_succ]
    refine wpAnyH_take (i := 19) (v := undef) rfl (by kernel_rfl) (by kernel_rfl) (by kernel_rfl) (fun _ _ _ h => h) (Or.inr ⟨by rfl, rfl⟩) (by assumption) ?_
    try simp only [Act.put, List.setIfInBounds_toArray, List.set_cons_zero, List.set_cons_succ, List.getElem_toArray, List.getElem_cons_zero, List.getElem_cons_succ]
    refine wpAnyH_take (i := 20) (v := ?_) rfl (by kernel_rfl) (by kernel_rfl) (by kernel_rfl) (fun _ _ _ h => h) (Or.inl ⟨by rfl, ?_⟩) (by assumption) ?_
    rotate_left
    · (intro w hSw; (try dsimp only at hSw); go_simp; try (with_reducible rfl))
    try simp only [Act.put, List.setIfInBounds_toArray, List.set_cons_zero, List.set_cons_succ, List.getElem_toArray, List.getElem_cons_zero, List.getElem_cons_succ]
    refine wpAnyH_done (by kernel_rfl) ?_ _
    obtain ⟨wE, hwE⟩ : ∃ wE, w6 = wE := ⟨_, rfl⟩
    rw [hwE] at hbE ⊢
    have hEnd := HEND.out wE hbE
    have HE := Lib.hid hEnd
    have kx0 : wE.cell? ⟨w.heap.size, 0, none⟩ = some (.int .i64 0) := by rw [cell_in hEnd.1]; rfl
    have kx1 : wE.cell? ⟨w.heap.size, 1, none⟩ = some (.int .i64 0) := by rw [cell_in hEnd.1]; rfl
    have kx2 : wE.cell? ⟨w.heap.size, 2, none⟩ = some (.slice none 0 0) := by rw [cell_in hEnd.1]; rfl
    have fx0 := frozen_in hEnd.1 0
    have fx1 := frozen_in hEnd.1 1
    have fx2 := frozen_in hEnd.1 2
    clear hEnd hbE hHeld hwE
    refine NoPanic.normal ?_
    go_wp2
    show bodyPost _ _ _ _ _ (set3 wE w.heap.size (.int .i64 0) (.int .i64 0) (.slice none 0 0))
    refine bodyPost_ret (results_cell_tmp rfl _ _ _ ⟨w.heap.size, 0, none⟩ _ rfl (load3 (set3_heap HE.out.1 _ _ _))) rfl ?_
    exact ⟨_, false, rfl, (set3_chg _ _ _ _ _).on HE.out.2 HE.out.2.size (fun k e => by rw [e]; exact Nat.le_refl _), by rw [HNO.out]; exact ⟨rfl, rfl⟩⟩
end Go.Proofs.Ytgcifhhbhoafcaa
