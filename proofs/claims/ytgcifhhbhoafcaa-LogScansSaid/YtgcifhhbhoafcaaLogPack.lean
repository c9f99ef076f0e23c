/-
  The body sectors of a record.
-/
import Derived.Test.YtgcifhhbhoafcaaLogHead
import Derived.Test.YtgcifhhbhoafcaaLogChunk
namespace Go.Proofs.Ytgcifhhbhoafcaa
open Go.RowKit Go.Shelf
attribute [local go_sem] Oper.semAt_some

/-- A piece of a body, as a sector. -/
def secOf (body : List UInt8) {L : Nat} (x : Qc L) : Sec := (0 : UInt8) :: ((body.drop x.1.1).take x.1.2 ++ List.replicate (63 - x.1.2) 0)
theorem secOf_len (body : List UInt8) (x : Qc body.length) : (secOf body x).length = 64 := by
  have := x.2
  simp only [secOf, List.length_cons, List.length_append, List.length_take, List.length_drop, List.length_replicate]
  omega
theorem qcs_packed (body : List UInt8) : (qcs body.length).map (secOf body) = packed body := by
  unfold qcs packed
  rw [List.map_map]
  apply List.ext_getElem
  · simp
  · intro i h1 h2
    have hi : i < (body.length + 62) / 63 := by simpa using h2
    simp only [List.getElem_map, List.getElem_finRange, List.getElem_range, Function.comp, secOf, bodyS, Fin.cast_mk]
    congr 2
    · by_cases h : 63 ≤ body.length - 63 * i
      · rw [Nat.min_eq_left h]
      · rw [Nat.min_eq_right (by omega), List.take_of_length_le (l := body.drop (63 * i)) (i := 63) (by rw [List.length_drop]; omega), List.take_of_length_le (by rw [List.length_drop]; omega)]
    · congr 1
      omega

def restP (R k M : Nat) (v : Value) : Prop := k < M → v = .slice (some ⟨R, 64 * k, none⟩) (64 * (M - k)) (64 * (M - k))
structure PInv (body : List UInt8) (R T M : Nat) (w5 : World) (L : Nat) (pre : List (Qc L)) (W : World) : Prop where
  row : W.heap[R]? = some (.cells (dCells (pre.map (secOf body) ++ zeroS (M - pre.length))).toArray 5 (0, 0))
  rest : ∃ v, W.heap[T]? = some (.cells #[v] 22 (0, 0)) ∧ restP R pre.length M v
  chg : Chg (fun k => k = R ∨ k = T) w5 W
theorem PInv.own (body : List UInt8) (R T M : Nat) (w5 : World) (L : Nat) : OwnFrom w5.heap.size (PInv body R T M w5 L) := fun pre W W' row hs hg hr => by
  have hk : ∀ {k : Nat} {c : Array Value} {t : TypeId} {fr : Nat × Nat}, W.heap[k]? = some (.cells c t fr) → W'.heap[k]? = some (.cells c t fr) := fun {k c t fr} h => by
    refine (hg.block k (Array.getElem?_eq_some_iff.1 h).1 (fun e => ?_)).trans h
    obtain ⟨_, o, ho, hc⟩ := hr k e.symm
    rw [h] at ho
    cases ho
    cases hc
  obtain ⟨v, h1, h2⟩ := hs.rest
  exact ⟨hk hs.row, ⟨v, hk h1, h2⟩, ownFrom_chg (β := Unit) (Nat.le_refl _) () W W' row hs.chg hg hr⟩
theorem dCells_app (A B : List Sec) : dCells (A ++ B) = dCells A ++ dCells B := by simp [dCells]
theorem pk_set (A : List Sec) (hA : ∀ s ∈ A, s.length = 64) (n : Nat) (hn : 1 ≤ n) (pc : List UInt8) (hp : pc.length ≤ 63) :
    (dCells (A ++ zeroS n)).take (64 * A.length + 1) ++ bCells pc ++ (dCells (A ++ zeroS n)).drop (64 * A.length + 1 + pc.length) = dCells ((A ++ [(0 : UInt8) :: (pc ++ List.replicate (63 - pc.length) 0)]) ++ zeroS (n - 1)) := by
  obtain ⟨m, rfl⟩ : ∃ m, n = m + 1 := ⟨n - 1, by omega⟩
  have hl : (dCells A).length = 64 * A.length := by rw [dCells_len hA, Nat.mul_comm]
  rw [dCells_app, dCells_app, dCells_app, ← zero_cellsN, ← zero_cellsN, Nat.add_sub_cancel, ← hl, List.take_length_add_append, show (dCells A).length + 1 + pc.length = (dCells A).length + (1 + pc.length) by omega, List.drop_length_add_append]
  rw [List.take_replicate, List.drop_replicate, show min 1 ((m + 1) * 64) = 1 by omega, show (m + 1) * 64 - (1 + pc.length) = (63 - pc.length) + m * 64 by omega, ← List.replicate_append_replicate]
  simp [dCells, bCells]

set_option maxRecDepth 100000 in
set_option maxHeartbeats 2000000 in
theorem pack_any (b o : Nat) (c : Nat) (body : List UInt8) (hbl : body.length ≤ 1000000) (hbc : body.length ≤ c) (hc : c ≤ 9223372036854775807) (w : World) (hb63 : b < w.heap.size) (hr : w.rangeAt b o (bCells body)) :
    Calls Try.prog 63 #[.slice (some ⟨b, o, none⟩) body.length c] w fun e w' => e = .returned (.slice (some ⟨w.heap.size, 0, none⟩) ((packed body).length * 64) ((packed body).length * 64)) ∧ w'.heap[w.heap.size]? = some (.cells (dCells (packed body)).toArray 5 (0, 0)) ∧ Below w.heap.size w w' := by
  have HR := Lib.hid hr
  obtain ⟨L, hL⟩ : ∃ L, L = body.length := ⟨_, rfl⟩
  obtain ⟨M, hM⟩ : ∃ M, M = (packed body).length := ⟨_, rfl⟩
  have hM2 : M = (L + 62) / 63 := by rw [hM, packed_len, hL]
  have hsc : secs L = 1 + M := by unfold secs; omega
  have HL := Lib.hid hL
  have HM := Lib.hid hM
  rw [← hL] at hbl hbc ⊢
  rw [← hM]
  obtain ⟨N, hN⟩ : ∃ N, N = M * 64 := ⟨_, rfl⟩
  have hmk := make_u8 w N (by omega)
  obtain ⟨w1, hw1⟩ : ∃ w1, w.alloc (.cells (List.replicate N (Value.int .u8 0)).toArray 5) = w1 := ⟨_, rfl⟩
  rw [hw1] at hmk
  have hR1 : w1.heap[w.heap.size]? = some (.cells (dCells (zeroS M)).toArray 5 (0, 0)) := by rw [← hw1, ← zero_cellsN, ← hN]; exact heap_new w _
  have hb1 : Below w.heap.size w w1 := by rw [← hw1]; exact bA (Below.refl _ _) _
  have hs1 : w1.heap.size = w.heap.size + 1 := by rw [← hw1]; simp
  have q3 : ((1 : Int) + (M : Int) - 1) * 64 = (N : Int) := by omega
  have hMb : M ≤ 20000 := by omega
  have hNb : N ≤ 2000000 := by omega
  have HSC := Lib.hid hsc
  have HN := Lib.hid hN
  have HM2 := Lib.hid hM2
  rw [← hN]
  clear hw1 hsc hL hM hM2 hN hr
  refine (callsIn_wide (n := 5)).1 ?_
  refine callsIn_of_wp_marks Try.func63 rfl trivial ?_ rfl
  simp only [Try.ntmps63, List.size_toArray, List.length_cons, List.length_nil, Nat.reduceAdd, Nat.reduceSub, Array.replicate_succ, Array.replicate_zero, List.push_toArray, List.append_toArray, List.nil_append, List.cons_append]
  gi_wp2_with fail
  refine ⟨trivial, (callsIn_wide.2 (sectors_any L (by omega) w)).mono ?_⟩
  rintro e w2 ⟨rfl, rfl⟩
  rw [HSC.out]
  simp only [Int.natCast_add, Int.natCast_one]
  gi_wp2_with fail
  obtain ⟨B, hB⟩ : ∃ B, w.heap.size = B := ⟨_, rfl⟩
  have HBE := Lib.hid hB
  rw [hB] at hR1 hb1 hs1 hb63 ⊢
  obtain ⟨w3, hw3⟩ : ∃ w3, w1.alloc (.cells #[.slice (some ⟨B, 0, none⟩) N N] 22) = w3 := ⟨_, rfl⟩
  have hb3 : Below B w w3 := by rw [← hw3]; exact hb1.alloc (by omega) _
  have hs3 : w3.heap.size = B + 2 := by rw [← hw3, World.size_alloc, hs1]
  have hR3 : w3.heap[B]? = some (.cells (dCells (zeroS M)).toArray 5 (0, 0)) := by rw [← hw3]; exact (Below.heap_alloc _ _ _ (by omega)).trans hR1
  have hT3 : w3.heap[B + 1]? = some (.cells #[.slice (some ⟨B, 0, none⟩) N N] 22 (0, 0)) := by rw [← hw3, ← hs1]; exact heap_new w1 _
  rw [hw3]
  clear hw3 hR1 hb1 hs1 hB
  refine ⟨trivial, (callsIn_wide.2 (chunk63_any (some ⟨b, o, none⟩) L c w3)).mono ?_⟩
  rintro e w5 ⟨rfl, hw5⟩
  have hb5 : Below w3.heap.size w3 w5 := by rw [hw5]; exact bA (bA (Below.refl _ _) _) _
  have hs5 : w5.heap.size = B + 4 := by rw [hw5]; simp; omega
  have hS5 : w5.heap[B + 2]? = some (.cells #[.slice (some ⟨b, o, none⟩) L c] 22 (0, 0)) := by rw [hw5, ← hs3]; exact (Below.heap_alloc _ _ _ (by simp)).trans (heap_new w3 _)
  have hN5 : w5.heap[B + 3]? = some (.cells #[.int .i64 63] 3 (0, 0)) := by
    rw [hw5, show B + 3 = (w3.alloc (.cells #[.slice (some ⟨b, o, none⟩) L c] 22)).heap.size by rw [World.size_alloc, hs3]]
    exact heap_new _ _
  have hc5 := Chg.below hb5 (fun _ => False)
  have HR5 := Lib.hid (hc5.box hR3 (fun e => e))
  have HT5 := Lib.hid (hc5.box hT3 (fun e => e))
  have HB5 := Lib.hid (hb3.trans (hb5.mono (by omega)))
  have HS5 := Lib.hid hS5
  have HN5 := Lib.hid hN5
  simp only [hs3]
  have HZ5 := Lib.hid hs5
  clear hw5 hb3 hs3 hR3 hT3 hb5 hs5 hS5 hN5 hc5
  gi_wp2
  refine wpIn_rangeFunc_ownH (n := 5) (α := Qc L) rfl (by decide) (gf := 50) (lb := #[.pointer (some ⟨B + 2, 0, none⟩), .pointer (some ⟨B + 2 + 1, 0, none⟩)]) rfl trivial (enters_of Try.func50 (by kernel_rfl) rfl)
    (chunk63_stops 4 (B + 2) (B + 2 + 1) b o L c (by omega) hbc hc w5 HS5.out HN5.out) KeepB.trans
    (fun W l o o' hl ho _ _ => ⟨by simp, fun k hk => World.putObj_heap_other (fun e => by have := HZ5.out; omega)⟩) (Below.refl _ _) (fun _ => rfl)
    (PInv body B (B + 1) M w5 L)
    (fun _ _ _ => False)
    (PInv.own body B (B + 1) M w5 L)
    (fun _ _ _ _ _ hs _ _ => hs)
    ⟨by simpa using HR5.out, ⟨_, HT5.out, fun _ => by rw [HN.out]; simp [Nat.mul_comm]⟩, Chg.refl _ _⟩
    (fun x a' W => a' = { tmps := #[.slice (some ⟨b, o, none⟩) L c, undef, .slice none 0 0, .slice (some ⟨B, 0, none⟩) N N, .pointer (some ⟨B + 1, 0, none⟩), .slice (some ⟨b, o + x.1.1, none⟩) x.1.2 x.1.2, .slice (some ⟨b, o, none⟩) L c, .int .i64 L, .int .i64 ((1 : Int) + M), .int .i64 ((1 : Int) + M - 1), .int .i64 N, .slice (some ⟨B, 0, none⟩) N N, .slice (some ⟨B, 0, none⟩) N N, .slice (some ⟨b, o, none⟩) L c, .func (.func 50) #[] #[.pointer (some ⟨B + 2, 0, none⟩), .pointer (some ⟨B + 2 + 1, 0, none⟩)], .slice (some ⟨b, o + x.1.1, none⟩) x.1.2 x.1.2, undef, undef, undef, undef, undef, undef, undef], defers := [] })
    (fun x a' _ W W' row hs hg hr => hs) ?assign ?body ?done ?stop
  case assign =>
    intro l pre x W K hI hK
    have HK := Lib.hid hK
    have HI := Lib.hid hI
    clear hK hI
    simp only [encQ]
    gi_wp2
    exact HK.out _ _ ((KeepsOthers.refl _).from _) (KeepB.refl _ _) HI.out rfl
  case body =>
    rintro l pre x a' W hl hr HI rfl hlt
    obtain ⟨⟨off, e⟩, hx1, hx2, hx3⟩ := x
    have hoe : off + e ≤ L := hx1
    have he1 : 1 ≤ e := hx2
    have he2 : e ≤ 63 := hx3
    obtain ⟨k, hk⟩ : ∃ k, pre.length = k := ⟨_, rfl⟩
    have HKL := Lib.hid hk
    obtain ⟨v, hv1, hv2⟩ := HI.rest
    have hrow := HI.row
    have HCH := Lib.hid HI.chg
    rw [hk] at hv2 hrow hlt
    have hkM : k < M := by have := HM2.out; omega
    have hv := hv2 hkM
    subst hv
    obtain ⟨q, hq⟩ : ∃ q, q = 64 * k := ⟨_, rfl⟩
    obtain ⟨m, hm⟩ : ∃ m, m = 64 * (M - k) := ⟨_, rfl⟩
    rw [← hq, ← hm] at hv1
    have HT := Lib.hid hv1
    have HRW := Lib.hid hrow
    have HQ := Lib.hid hq
    have hm1 : 64 ≤ m := by omega
    have hmN : m ≤ N := by have := HN.out; omega
    have hmz : (m = 1) = False := eq_false (by omega)
    obtain ⟨pc, hpc⟩ : ∃ pc, pc = (body.drop off).take e := ⟨_, rfl⟩
    have hpl : pc.length = e := by rw [hpc, List.length_take, List.length_drop, ← HL.out]; omega
    have hbB : b ≠ B := by omega
    have HA64 := Lib.hid (show ∀ s ∈ pre.map (secOf body), s.length = 64 from fun s hs => by
      obtain ⟨x, _, rfl⟩ := List.mem_map.1 hs
      have h1 := x.2
      have h2 := HL.out
      simp only [secOf, List.length_cons, List.length_append, List.length_take, List.length_drop, List.length_replicate]
      omega)
    have HSRC := Lib.hid (show ∀ i u, (bCells pc)[i]? = some u → W.cell? ((⟨b, o + off, none⟩ : Addr).add i) = some u from fun i u hi => by
      rw [Addr.add_mid]
      have h1 : W.rangeAt b o (bCells body) := HCH.out.range ((Chg.below (show Below w.heap.size w w5 by rw [HBE.out]; exact HB5.out) (fun _ => False)).range HR.out (fun e => e)) (by omega)
      rw [hpc] at hi
      exact in_part h1 off e i u hi)
    have HTH := Lib.hid (show W.there B (q + 1) (bCells pc).length from there_in hrow _ _ (by
      rw [List.size_toArray, dCells_len (fun s hs => by rcases List.mem_append.1 hs with h | h; exact HA64.out s h; rw [List.eq_of_mem_replicate h, List.length_replicate]), List.length_append, List.length_map, zero_cells, bCells_len, hpl, hk]
      omega))
    have HPL := Lib.hid hpl
    have HPC := Lib.hid hpc
    have HM' := Lib.hid hm
    clear hrow hv1 hv2 hk hpc hpl hq HI hlt
    by_cases hlast : k + 1 = M
    · obtain rfl : m = 64 := by omega
      clear hm hmz hm1
      have kT : W.cell? ⟨B + 1, 0, none⟩ = some (.slice (some ⟨B, q, none⟩) 64 64) := by rw [cell_in HT.out]; rfl
      obtain ⟨W2, hW2⟩ : ∃ W2, W.setCells B (q + 1) (bCells pc) = W2 := ⟨_, rfl⟩
      have hT2 : W2.heap[B + 1]? = some (.cells #[.slice (some ⟨B, q, none⟩) 64 64] 22 (0, 0)) := by rw [← hW2]; exact (chg_setCells B (bCells pc) (q + 1) W).box HT.out (by omega)
      have hc2 : Chg (fun k => k = B ∨ k = B + 1) W W2 := by rw [← hW2]; exact (chg_setCells B (bCells pc) (q + 1) W).weaken (fun k _ e => .inl e)
      have hk2 : KeepsOthers W W2 := by rw [← hW2]; exact keeps_setCells B (bCells pc) (q + 1) W
      have hR2 : W2.heap[B]? = some (.cells (dCells ((pre ++ [(⟨(off, e), hx1, hx2, hx3⟩ : Qc L)]).map (secOf body) ++ zeroS (M - (pre ++ [(⟨(off, e), hx1, hx2, hx3⟩ : Qc L)]).length))).toArray 5 (0, 0)) := by
        have hn : M - k ≥ 1 := by omega
        have hs := pk_set (pre.map (secOf body)) HA64.out (M - k) hn pc (by rw [HPL.out]; exact hx3)
        rw [← hW2, heap_setCells B (bCells pc) (q + 1) W _ _ _ HRW.out (by rw [List.size_toArray, dCells_len (fun s hs => by rcases List.mem_append.1 hs with h | h; exact HA64.out s h; rw [List.eq_of_mem_replicate h, List.length_replicate]), bCells_len, HPL.out, List.length_append, List.length_map, zero_cells]; have := HQ.out; have := HKL.out; omega)]
        rw [List.length_map, HKL.out, ← HQ.out, HPL.out] at hs
        rw [List.toList_toArray, bCells_len, HPL.out, hs, List.map_append, List.map_cons, List.map_nil, List.length_append, List.length_cons, List.length_nil, HKL.out, show secOf body (⟨(off, e), hx1, hx2, hx3⟩ : Qc L) = (0 : UInt8) :: (pc ++ List.replicate (63 - e) 0) by rw [HPC.out]; rfl]
        rfl
      have kT2 : W2.cell? ⟨B + 1, 0, none⟩ = some (.slice (some ⟨B, q, none⟩) 64 64) := by rw [cell_in hT2]; rfl
      have fT2 := frozen_in hT2 0
      have HT2 := Lib.hid hT2
      have HC2 := Lib.hid hc2
      have HK2 := Lib.hid hk2
      have HR2 := Lib.hid hR2
      have HW2 := Lib.hid hW2
      clear hW2 hT2 hc2 hk2 hR2
      gi_wp2_with (refine list_in (ro := some l) (by simp) rfl (fun K hK => ?_); refine wp_copy_cells (.tmp 17) (.tmp 18) 22 22 5 rfl B (q + 1) 63 63 ⟨b, o + off, none⟩ e e (bCells pc) rfl rfl Try.underlying22 size_u8 (by rw [bCells_len, HPL.out]; exact (Nat.min_eq_left (by omega)).symm) HSRC.out HTH.out (bCells_one _) (hK _ _ ?_); rw [HW2.out])
      refine ⟨(HK2.out.trans (KeepsOthers.setCell W2 _ _)).from _, KeepB.chg (HC2.out.trans ((Chg.setCell W2 ⟨B + 1, 0, none⟩ _).weaken (fun k _ e => .inr e))) (fun k hk => ⟨by have := HCH.out.size; have := HZ5.out; omega, fun e => by omega⟩), ?_, ?_, HCH.out.trans (HC2.out.trans ((Chg.setCell W2 ⟨B + 1, 0, none⟩ _).weaken (fun k _ e => .inr e)))⟩
      · exact (Chg.setCell W2 ⟨B + 1, 0, none⟩ _).box HR2.out (by show B ≠ B + 1; omega)
      · refine ⟨_, by rw [setCell_eq_setRow W2 _ _ _ _ _ _ HT2.out, setRow_heap W2 _ _ _ _ _ HT2.out]; rfl, fun hlt2 => ?_⟩
        rw [List.length_append, List.length_cons, List.length_nil, HKL.out] at hlt2 ⊢
        exfalso
        omega
    · have hmc : (m = 64) = False := eq_false (by omega)
      have hm2 : 128 ≤ m := by omega
      clear hm
      have kT : W.cell? ⟨B + 1, 0, none⟩ = some (.slice (some ⟨B, q, none⟩) m m) := by rw [cell_in HT.out]; rfl
      obtain ⟨W2, hW2⟩ : ∃ W2, W.setCells B (q + 1) (bCells pc) = W2 := ⟨_, rfl⟩
      have hT2 : W2.heap[B + 1]? = some (.cells #[.slice (some ⟨B, q, none⟩) m m] 22 (0, 0)) := by rw [← hW2]; exact (chg_setCells B (bCells pc) (q + 1) W).box HT.out (by omega)
      have hc2 : Chg (fun k => k = B ∨ k = B + 1) W W2 := by rw [← hW2]; exact (chg_setCells B (bCells pc) (q + 1) W).weaken (fun k _ e => .inl e)
      have hk2 : KeepsOthers W W2 := by rw [← hW2]; exact keeps_setCells B (bCells pc) (q + 1) W
      have hR2 : W2.heap[B]? = some (.cells (dCells ((pre ++ [(⟨(off, e), hx1, hx2, hx3⟩ : Qc L)]).map (secOf body) ++ zeroS (M - (pre ++ [(⟨(off, e), hx1, hx2, hx3⟩ : Qc L)]).length))).toArray 5 (0, 0)) := by
        have hn : M - k ≥ 1 := by omega
        have hs := pk_set (pre.map (secOf body)) HA64.out (M - k) hn pc (by rw [HPL.out]; exact hx3)
        rw [← hW2, heap_setCells B (bCells pc) (q + 1) W _ _ _ HRW.out (by rw [List.size_toArray, dCells_len (fun s hs => by rcases List.mem_append.1 hs with h | h; exact HA64.out s h; rw [List.eq_of_mem_replicate h, List.length_replicate]), bCells_len, HPL.out, List.length_append, List.length_map, zero_cells]; have := HQ.out; have := HKL.out; omega)]
        rw [List.length_map, HKL.out, ← HQ.out, HPL.out] at hs
        rw [List.toList_toArray, bCells_len, HPL.out, hs, List.map_append, List.map_cons, List.map_nil, List.length_append, List.length_cons, List.length_nil, HKL.out, show secOf body (⟨(off, e), hx1, hx2, hx3⟩ : Qc L) = (0 : UInt8) :: (pc ++ List.replicate (63 - e) 0) by rw [HPC.out]; rfl]
        rfl
      have kT2 : W2.cell? ⟨B + 1, 0, none⟩ = some (.slice (some ⟨B, q, none⟩) m m) := by rw [cell_in hT2]; rfl
      have fT2 := frozen_in hT2 0
      have HT2 := Lib.hid hT2
      have HC2 := Lib.hid hc2
      have HK2 := Lib.hid hk2
      have HR2 := Lib.hid hR2
      have HW2 := Lib.hid hW2
      clear hW2 hT2 hc2 hk2 hR2
      gi_wp2_with (refine list_in (ro := some l) (by simp) rfl (fun K hK => ?_); refine wp_copy_cells (.tmp 17) (.tmp 18) 22 22 5 rfl B (q + 1) (m - 1) (m - 1) ⟨b, o + off, none⟩ e e (bCells pc) rfl rfl Try.underlying22 size_u8 (by rw [bCells_len, HPL.out]; exact (Nat.min_eq_left (by omega)).symm) HSRC.out HTH.out (bCells_one _) (hK _ _ ?_); rw [HW2.out])
      refine ⟨(HK2.out.trans (KeepsOthers.setCell W2 _ _)).from _, KeepB.chg (HC2.out.trans ((Chg.setCell W2 ⟨B + 1, 0, none⟩ _).weaken (fun k _ e => .inr e))) (fun k hk => ⟨by have := HCH.out.size; have := HZ5.out; omega, fun e => by omega⟩), ?_, ?_, HCH.out.trans (HC2.out.trans ((Chg.setCell W2 ⟨B + 1, 0, none⟩ _).weaken (fun k _ e => .inr e)))⟩
      · exact (Chg.setCell W2 ⟨B + 1, 0, none⟩ _).box HR2.out (by show B ≠ B + 1; omega)
      · refine ⟨_, by rw [setCell_eq_setRow W2 _ _ _ _ _ _ HT2.out, setRow_heap W2 _ _ _ _ _ HT2.out]; rfl, fun hlt2 => ?_⟩
        rw [List.length_append, List.length_cons, List.length_nil, HKL.out] at hlt2 ⊢
        have := HQ.out
        have := HM'.out
        rw [show 64 * (k + (0 + 1)) = q + 64 by omega, show 64 * (M - (k + (0 + 1))) = m - 64 by omega]
  case done =>
    rintro Dd zs W hD rfl HI hKd
    have hrow := HI.row
    rw [qcs_len, ← HM2.out, Nat.sub_self, show zeroS 0 = [] from rfl, List.append_nil, HL.out, qcs_packed] at hrow
    have HRW := Lib.hid hrow
    have HCH := Lib.hid HI.chg
    have HKD := Lib.hid hKd
    clear HI hrow hKd
    gi_wp2
    refine ⟨by simp, .inl ⟨_, _, rfl, run_takeDeferred HKD.out, ?_⟩⟩
    have hDd := HZ5.out
    have hc1 : Chg (fun k => k = Dd) W (W.putObj Dd (.deferred none)) := (Chg.grown (grownBy_putObj' _ Dd _)).weaken (fun k _ e => by cases e; rfl)
    refine ⟨_, results_tmp rfl _ _ _, by rw [HBE.out]; rfl, by rw [HBE.out]; exact hc1.box HRW.out (by omega), ?_⟩
    exact hc1.on (HCH.out.on (show Below w.heap.size w w5 by rw [HBE.out]; exact HB5.out) (by rw [HBE.out]; omega) (fun k hk => by rw [HBE.out]; omega)) (by have := HCH.out.size; rw [HBE.out]; omega) (fun k hk => by rw [HBE.out]; omega)
  case stop =>
    rintro Dd cc pre W _ _ h _
    exact h.elim
end Go.Proofs.Ytgcifhhbhoafcaa
