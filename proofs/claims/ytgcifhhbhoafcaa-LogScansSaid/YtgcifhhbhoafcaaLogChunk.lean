/-
  The pieces of 63 bytes of a slice of bytes, one after the other.
-/
import Derived.Test.YtgcifhhbhoafcaaDiskChunk
namespace Go.Proofs.Ytgcifhhbhoafcaa
open Go.RowKit Go.Shelf
attribute [local go_sem] Oper.semAt_some

/-- A piece: where it begins, its length. -/
abbrev Qc (L : Nat) := { x : Nat × Nat // x.1 + x.2 ≤ L ∧ 1 ≤ x.2 ∧ x.2 ≤ 63 }
def qcs (L : Nat) : List (Qc L) := (List.finRange ((L + 62) / 63)).map fun k => ⟨(63 * k.1, min 63 (L - 63 * k.1)), by have := k.2; refine ⟨?_, ?_, ?_⟩ <;> dsimp only <;> omega⟩
theorem qcs_len (L : Nat) : (qcs L).length = (L + 62) / 63 := by simp [qcs]
theorem qcs_next (L k : Nat) (hk : k < (L + 62) / 63) : ∃ y : Qc L, (qcs L).take (k + 1) = (qcs L).take k ++ [y] ∧ y.1 = (63 * k, min 63 (L - 63 * k)) := by
  refine ⟨(qcs L)[k]'(by rw [qcs_len]; exact hk), List.take_succ_eq_append_getElem (by rw [qcs_len]; exact hk), by simp [qcs]⟩
def encQ (b o : Nat) {L : Nat} (x : Qc L) : Array Value := #[.slice (some ⟨b, o + x.1.1, none⟩) x.1.2 x.1.2]

set_option maxRecDepth 20000 in
theorem chunk63_any (p : Option Addr) (L c : Nat) (w : World) :
    Calls Try.prog 33 #[.slice p L c, .int .i64 63] w fun e w' => e = .returned (.func (.func 50) #[] #[.pointer (some ⟨w.heap.size, 0, none⟩), .pointer (some ⟨w.heap.size + 1, 0, none⟩)]) ∧ w' = (w.alloc (.cells #[.slice p L c] 22)).alloc (.cells #[.int .i64 63] 3) := by
  have hmf : ∀ (fn : Fn) (first cap : Array Value) (w : World), (Instr.makeFunc fn first cap).run Try.prog w = .ok (.func fn first cap) w := fun _ _ _ _ => rfl
  go_enter Try.func33, Try.ntmps33
  go_wp2
  go_ret
  exact ⟨rfl, rfl⟩

set_option maxRecDepth 100000 in
set_option maxHeartbeats 2000000 in
theorem chunk63_in (n l : Nat) (bS bN b o L c : Nat) (hL : L ≤ 1000000) (hLc : L ≤ c) (hc : c ≤ 9223372036854775807) (J Jx : List (Qc L) → World → Prop)
    (W : World) (hJ : AbidesFrom W.heap.size J)
    (hY : ∀ pre x W1, J pre W1 → pre.length < (L + 62) / 63 → YieldAt Fence.wide (n - 1) Try.prog l (encQ b o x) W1 fun e W' =>
      (e = .returned (.bool true) ∧ J (pre ++ [x]) W' ∧ KeepB (fun k => k = bS ∨ k = bN) W1 W') ∨ (e = .returned (.bool false) ∧ Jx (pre ++ [x]) W'))
    (hbS : W.heap[bS]? = some (.cells #[.slice (some ⟨b, o, none⟩) L c] 22 (0, 0))) (hbN : W.heap[bN]? = some (.cells #[.int .i64 63] 3 (0, 0))) (h0 : J [] W) :
    CallsIn Fence.wide n Try.prog 50 #[.func (.yield l) #[] #[], .pointer (some ⟨bS, 0, none⟩), .pointer (some ⟨bN, 0, none⟩)] W fun e W' => (∃ v, e = .returned v) ∧
      ((∃ ys, ys = qcs L ∧ J ys W') ∨ (∃ pre, pre <+: qcs L ∧ Jx pre W')) := by
  have HBS := Lib.hid hbS
  have HBN := Lib.hid hbN
  clear hbS hbN
  obtain ⟨M, hM⟩ : ∃ M, M = (L + 62) / 63 := ⟨_, rfl⟩
  have HM := Lib.hid hM
  refine callsIn_of_wp Try.func50 rfl trivial ?_ rfl
  simp only [Try.ntmps50, List.size_toArray, List.length_cons, List.length_nil, Nat.reduceAdd, Nat.reduceSub, Array.replicate_succ, Array.replicate_zero, List.push_toArray, List.append_toArray, List.nil_append, List.cons_append]
  gi_wp2
  gi_loopw [4] (fun s4 wr => ∃ k i : Nat, k ≤ M ∧ Hid (i = 63 * k) ∧ s4 = .int .i64 i ∧ Hid (J ((qcs L).take k) wr) ∧ Hid (KeepB (fun k => k = bS ∨ k = bN) W wr)) (fun s4 _ => 63 + L - (intOf s4).toNat)
  case atStart => exact ⟨0, 0, Nat.zero_le _, Lib.hid rfl, rfl, Lib.hid h0, Lib.hid (KeepB.refl _ _)⟩
  case round =>
    obtain ⟨k, i, hk, HIK, rfl, HJ, HK⟩ := hrel
    have hik := HIK.out
    have kS : wr.cell? ⟨bS, 0, none⟩ = some (.slice (some ⟨b, o, none⟩) L c) := by rw [cell_in ((HK.out.2 bS (.inl rfl)).trans HBS.out)]; rfl
    have kN : wr.cell? ⟨bN, 0, none⟩ = some (.int .i64 63) := by rw [cell_in ((HK.out.2 bN (.inr rfl)).trans HBN.out)]; rfl
    by_cases hlt : i < L
    · have d1 : decide ((i : Int) < (L : Int)) = true := decide_eq_true (by omega)
      have d1' : decide (i < L) = true := decide_eq_true hlt
      have hkM : k < (L + 62) / 63 := by omega
      obtain ⟨y, hy0, hyx⟩ := qcs_next L k hkM
      obtain ⟨e, he⟩ : ∃ e, e = min 63 (L - i) := ⟨_, rfl⟩
      have hyx' : y.1 = (i, e) := by rw [hyx, he, hik]
      have HNX := Lib.hid hy0
      have he1 : 1 ≤ e ∧ e ≤ 63 ∧ i + e ≤ L := by omega
      have hmin : min (63 : Int) ((L - i : Nat) : Int) = (e : Int) := by omega
      have j0 : (0 : Int) ≤ (i : Int) := by omega
      have j1 : (i : Int) ≤ (L : Int) := by omega
      have hci : (c = i) = False := eq_false (by omega)
      have kS' : wr.drew.cell? ⟨bS, 0, none⟩ = some (.slice (some ⟨b, o, none⟩) L c) := kS
      have kN' : wr.drew.cell? ⟨bN, 0, none⟩ = some (.int .i64 63) := kN
      clear hy0 hyx hik
      gi_wp2
      refine wpIn_wide.2 ?_
      refine wp_region_noPanic ?_
      refine wp_region_held_drew (S := fun X => X.cell? ⟨bS, 0, none⟩ = some (.slice (some ⟨b, o, none⟩) L c) ∧ X.cell? ⟨bN, 0, none⟩ = some (.int .i64 63)) (by kernel_rfl) (⟨kS', kN'⟩) (fun hHeld => ?_)
      refine wpAnyH_take (i := 0) (v := ?_) rfl (by kernel_rfl) (by kernel_rfl) (by kernel_rfl) (fun _ _ _ h => h) (Or.inl ⟨by rfl, ?_⟩) (by assumption) ?_
      rotate_left
      · (intro w hSw; (try dsimp only at hSw); go_simp; try (with_reducible rfl))
      try simp only [Act.put, List.setIfInBounds_toArray, List.set_cons_zero, List.set_cons_succ, List.getElem_toArray, List.getElem_cons_zero]
      refine wpAnyH_take (i := 1) (v := ?_) rfl (by kernel_rfl) (by kernel_rfl) (by kernel_rfl) (fun _ _ _ h => h) (Or.inl ⟨by rfl, ?_⟩) (by assumption) ?_
      rotate_left
      · (intro w hSw; (try dsimp only at hSw); go_simp; try (with_reducible rfl))
      try simp only [Act.put, List.setIfInBounds_toArray, List.set_cons_zero, List.set_cons_succ, List.getElem_toArray, List.getElem_cons_zero, List.getElem_cons_succ]
      refine wpAnyH_take (i := 2) (v := ?_) rfl (by kernel_rfl) (by kernel_rfl) (by kernel_rfl) (fun _ _ _ h => h) (Or.inl ⟨by rfl, ?_⟩) (by assumption) ?_
      rotate_left
      · (intro w hSw; (try dsimp only at hSw); go_simp; try (with_reducible rfl))
      try simp only [Act.put, List.setIfInBounds_toArray, List.set_cons_zero, List.set_cons_succ, List.getElem_toArray, List.getElem_cons_zero, List.getElem_cons_succ]
      refine wpAnyH_take (i := 3) (v := ?_) rfl (by kernel_rfl) (by kernel_rfl) (by kernel_rfl) (fun _ _ _ h => h) (Or.inl ⟨by rfl, ?_⟩) (by assumption) ?_
      rotate_left
      · (intro w hSw; (try dsimp only at hSw); go_simp; try (with_reducible rfl))
      try simp only [Act.put, List.setIfInBounds_toArray, List.set_cons_zero, List.set_cons_succ, List.getElem_toArray, List.getElem_cons_zero, List.getElem_cons_succ]
      refine wpAnyH_take (i := 4) (v := ?_) rfl (by kernel_rfl) (by kernel_rfl) (by kernel_rfl) (fun _ _ _ h => h) (Or.inl ⟨by rfl, ?_⟩) (by assumption) ?_
      rotate_left
      · (intro w hSw; (try dsimp only at hSw); go_simp; try (with_reducible rfl))
      try simp only [Act.put, List.setIfInBounds_toArray, List.set_cons_zero, List.set_cons_succ, List.getElem_toArray, List.getElem_cons_zero, List.getElem_cons_succ]
      refine wpAnyH_take (i := 5) (v := ?_) rfl (by kernel_rfl) (by kernel_rfl) (by kernel_rfl) (fun _ _ _ h => h) (Or.inl ⟨by rfl, ?_⟩) (by assumption) ?_
      rotate_left
      · (intro w hSw; (try dsimp only at hSw); go_simp; try (with_reducible rfl))
      try simp only [Act.put, List.setIfInBounds_toArray, List.set_cons_zero, List.set_cons_succ, List.getElem_toArray, List.getElem_cons_zero, List.getElem_cons_succ]
      refine wpAnyH_take (i := 6) (v := ?_) rfl (by kernel_rfl) (by kernel_rfl) (by kernel_rfl) (fun _ _ _ h => h) (Or.inl ⟨by rfl, ?_⟩) (by assumption) ?_
      rotate_left
      · (intro w hSw; (try dsimp only at hSw); go_simp; try (with_reducible rfl))
      try simp only [Act.put, List.setIfInBounds_toArray, List.set_cons_zero, List.set_cons_succ, List.getElem_toArray, List.getElem_cons_zero, List.getElem_cons_succ]
      refine wpAnyH_done (by kernel_rfl) ?_ _
      refine NoPanic.normal ?_
      clear hHeld
      have hite : (if ((L - i : Nat) : Int) < 63 then ((L - i : Nat) : Int) else 63) = (e : Int) := by split <;> omega
      simp only [hite]
      clear hite hmin he
      have hn1 : ((i : Int) + (e : Int)).toNat - i = e := by omega
      have hn2 : i + e - i = e := by omega
      have cS : wr.drew.cell? ⟨bS, 0, none⟩ = some (.slice (some ⟨b, o, none⟩) L c) := kS'
      have hDr : KeepB (fun k => k = bS ∨ k = bN) W wr.drew := ⟨HK.out.1, HK.out.2⟩
      have hJD : J ((qcs L).take k) wr.drew := hJ _ wr _ none HJ.out (by exact ⟨rfl, rfl, rfl, Nat.le_refl _, fun _ _ _ => rfl⟩) (fun r e => by cases e)
      obtain ⟨fn, tmps, assign, body, hy, hRd⟩ := hY ((qcs L).take k) y wr.drew hJD (by rw [List.length_take, qcs_len]; omega)
      simp only [encQ, hyx'] at hy
      have HRD := Lib.hid hRd
      have HK2 := Lib.hid hDr
      have HJD := Lib.hid hJD
      clear hRd hDr hJD
      generalize wr.drew = wd at *
      have w1 : IntKind.i64.wrap ((i : Int) + (e : Int)) = (i : Int) + (e : Int) := by rw [IntKind.wrap_i64]; omega
      have t0 : (0 : Int) ≤ (i : Int) + (e : Int) := by omega
      have t1 : (i : Int) ≤ (i : Int) + (e : Int) := by omega
      have t2 : (i : Int) + (e : Int) ≤ (c : Int) := by omega
      have w2 : IntKind.i64.wrap ((i : Int) + 63) = (i : Int) + 63 := by rw [IntKind.wrap_i64]; omega
      gi_wp2
      refine ⟨(fun h0 => by cases h0), HRD.out.mono ?_⟩
      rintro e W3 (⟨rfl, hJ3, hk3⟩ | ⟨rfl, hJx3⟩)
      · have HJ3 := Lib.hid (show J ((qcs L).take (k + 1)) W3 by rw [HNX.out]; exact hJ3)
        have hk3' := HK2.out.trans hk3
        have kN3 : W3.cell? ⟨bN, 0, none⟩ = some (.int .i64 63) := by rw [cell_in ((hk3'.2 bN (.inr rfl)).trans HBN.out)]; rfl
        have HK3 := Lib.hid hk3'
        clear hJ3 hk3 hk3'
        gi_wp2
        go_roundw
        case rel => exact ⟨k + 1, i + 63, by have := HM.out; omega, Lib.hid (by have := HIK.out; omega), by go_num, HJ3, HK3⟩
        case measure => simp [intOf]; omega
      · have HJ3 := Lib.hid (show Jx ((qcs L).take (k + 1)) W3 by rw [HNX.out]; exact hJx3)
        clear hJx3
        gi_wp2
        refine bodyPost_ret (results_none rfl _ _ _) rfl ?_
        exact ⟨⟨_, rfl⟩, .inr ⟨_, List.take_prefix _ _, HJ3.out⟩⟩
    · have d1 : decide ((i : Int) < (L : Int)) = false := decide_eq_false (by omega)
      have d1' : decide (i < L) = false := decide_eq_false hlt
      have hE : (qcs L).take k = qcs L := List.take_of_length_le (by rw [qcs_len]; have := HM.out; have := HIK.out; omega)
      gi_wp2
      go_end0
      exact ⟨⟨_, rfl⟩, .inl ⟨_, rfl, by rw [← hE]; exact HJ.out⟩⟩

/-- The contract of what Chunk returns. -/
theorem chunk63_stops (n : Nat) (bS bN b o L c : Nat) (hL : L ≤ 1000000) (hLc : L ≤ c) (hc : c ≤ 9223372036854775807) (w : World)
    (hbS : w.heap[bS]? = some (.cells #[.slice (some ⟨b, o, none⟩) L c] 22 (0, 0))) (hbN : w.heap[bN]? = some (.cells #[.int .i64 63] 3 (0, 0))) :
    SeqStopsK Fence.wide n Try.prog 50 #[.pointer (some ⟨bS, 0, none⟩), .pointer (some ⟨bN, 0, none⟩)] (encQ b o (L := L)) (KeepB (fun k => k = bS ∨ k = bN)) (fun ys => ys = qcs L) (fun pre => pre <+: qcs L) ((L + 62) / 63) w := fun l J Jx W hW hJ _ hY h0 => by
  have hc' := Chg.below hW (fun _ => False)
  exact chunk63_in n l bS bN b o L c hL hLc hc J Jx W hJ hY (hc'.box hbS (fun e => e)) (hc'.box hbN (fun e => e)) h0
end Go.Proofs.Ytgcifhhbhoafcaa
