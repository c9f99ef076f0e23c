/-
  The pending writes, one after the other.
-/
import Derived.Test.YtgcifhhbhoafcaaDiskMem
namespace Go.Proofs.Ytgcifhhbhoafcaa
open Go.RowKit Go.Shelf
attribute [local go_sem] Oper.semAt_some

/-- Blocks that are kept. -/
def KeepB (Kb : Nat → Prop) (W W' : World) : Prop := W.heap.size ≤ W'.heap.size ∧ ∀ k, Kb k → W'.heap[k]? = W.heap[k]?
theorem KeepB.refl (Kb : Nat → Prop) (W : World) : KeepB Kb W W := ⟨Nat.le_refl _, fun _ _ => rfl⟩
theorem KeepB.trans {Kb : Nat → Prop} {A B C : World} (h : KeepB Kb A B) (k : KeepB Kb B C) : KeepB Kb A C := ⟨Nat.le_trans h.1 k.1, fun i hi => (k.2 i hi).trans (h.2 i hi)⟩
theorem KeepB.chg {Kb ex : Nat → Prop} {A B : World} (h : Chg ex A B) (hk : ∀ k, Kb k → k < A.heap.size ∧ ¬ ex k) : KeepB Kb A B := ⟨h.size, fun k hi => h.block k (hk k hi).1 (hk k hi).2⟩

/-- A pending write, as it is yielded: its number, its place and its bytes. -/
abbrev Pw (N M : Nat) := { x : Nat × Wq // x.1 < M ∧ x.2.1 < N ∧ x.2.2.length = 64 }
def pend (N : Nat) (ws : List Wq) (h : ∀ x ∈ ws, x.1 < N ∧ x.2.length = 64) : List (Pw N ws.length) := (List.finRange ws.length).map fun j => ⟨(j.1, ws[j.1]), j.2, h _ (List.getElem_mem j.2)⟩
theorem pend_len {N : Nat} {ws : List Wq} (h : ∀ x ∈ ws, x.1 < N ∧ x.2.length = 64) : (pend N ws h).length = ws.length := by simp [pend]
theorem pend_at {N : Nat} {ws : List Wq} (h : ∀ x ∈ ws, x.1 < N ∧ x.2.length = 64) (k : Nat) (hk : k < ws.length) : (pend N ws h)[k]'(by rw [pend_len]; exact hk) = ⟨(k, ws[k]), hk, h _ (List.getElem_mem hk)⟩ := by simp [pend]
theorem pend_next {N : Nat} {ws : List Wq} (h : ∀ x ∈ ws, x.1 < N ∧ x.2.length = 64) (k : Nat) (hk : k < ws.length) : (pend N ws h).take (k + 1) = (pend N ws h).take k ++ [⟨(k, ws[k]), hk, h _ (List.getElem_mem hk)⟩] := by
  rw [List.take_succ_eq_append_getElem (by rw [pend_len]; exact hk), pend_at h k hk]

theorem size_wr : (Try.prog.info? 84).map (·.size) = some 65 := by kernel_rfl
theorem zero_wr : ∃ Z : Array Value, Z.size = 65 ∧ ∀ w, (zeroValue 84).run Try.prog w = .ok (.agg Z) w := by
  obtain ⟨h, _⟩ := zero_of_info (P := Try.prog) (t := 84) (v := .agg (#[.int .i64 0] ++ Array.replicate 64 (.int .u8 0))) (n := 65) (by kernel_rfl)
  exact ⟨_, by simp, h⟩
def encP {N M : Nat} (x : Pw N M) : Array Value := #[.int .i64 (x.1.1 : Int), .agg (wCell x.1.2).toArray]

set_option maxRecDepth 20000 in
theorem pending_any (D : Nat) (at_ m : Int) (w : World) :
    Calls Try.prog 46 #[.pointer (some ⟨D, 0, none⟩), .int .i64 at_, .int .i64 m] w fun e w' => e = .returned (.func (.func 61) #[] #[.pointer (some ⟨w.heap.size, 0, none⟩), .pointer (some ⟨w.heap.size + 1, 0, none⟩), .pointer (some ⟨w.heap.size + 1 + 1, 0, none⟩)]) ∧ w' = ((w.alloc (.cells #[.pointer (some ⟨D, 0, none⟩)] 26)).alloc (.cells #[.int .i64 at_] 3)).alloc (.cells #[.int .i64 m] 3) := by
  have hmf : ∀ (fn : Fn) (first cap : Array Value) (w : World), (Instr.makeFunc fn first cap).run Try.prog w = .ok (.func fn first cap) w := fun _ _ _ _ => rfl
  go_enter Try.func46, Try.ntmps46
  go_wp2
  go_ret
  exact ⟨rfl, rfl⟩

set_option maxRecDepth 100000 in
set_option maxHeartbeats 2000000 in
theorem pend_in (n l : Nat) (bD bA bN D g N A m : Nat) (cc : Int) (v : Value) (ws : List Wq) (hin : ∀ x ∈ ws, A ≤ x.1 ∧ x.1 < A + m) (hAm : A + m ≤ 65536) (ha : ∀ x ∈ ws, x.1 < N ∧ x.2.length = 64) (hws : ws.length ≤ 1000000) (hN : N ≤ 65536) (J Jx : List (Pw N ws.length) → World → Prop)
    (W : World) (hJ : AbidesFrom W.heap.size J)
    (hY : ∀ pre x W1, J pre W1 → pre.length < ws.length → YieldAt Fence.wide (n - 1) Try.prog l (encP x) W1 fun e W' =>
      (e = .returned (.bool true) ∧ J (pre ++ [x]) W' ∧ KeepB (fun k => k = bD ∨ k = bA ∨ k = bN ∨ v.ownBlock = some k) W1 W') ∨ (e = .returned (.bool false) ∧ Jx (pre ++ [x]) W'))
    (hbD : W.heap[bD]? = some (.cells #[.pointer (some ⟨D, 0, none⟩)] 26 (0, 0))) (hbA : W.heap[bA]? = some (.cells #[.int .i64 A] 3 (0, 0))) (hbN : W.heap[bN]? = some (.cells #[.int .i64 m] 3 (0, 0)))
    (hR : Rec W D g N v cc) (hlts : ∀ k, k = bD ∨ k = bA ∨ k = bN ∨ v.ownBlock = some k → k < W.heap.size) (lo : Nat) (hrow : W.ownsRow lo 84 65 v ws.length (wCells ws)) (h0 : J [] W) :
    CallsIn Fence.wide n Try.prog 61 #[.func (.yield l) #[] #[], .pointer (some ⟨bD, 0, none⟩), .pointer (some ⟨bA, 0, none⟩), .pointer (some ⟨bN, 0, none⟩)] W fun e W' => (∃ v, e = .returned v) ∧
      ((∃ ys, ys = pend N ws ha ∧ J ys W') ∨ (∃ pre, pre <+: pend N ws ha ∧ Jx pre W')) := by
  obtain ⟨pv, cv, hv⟩ : ∃ pv cv, v = .slice pv ws.length cv := by
    rcases hrow.2 with ⟨rfl, h⟩ | ⟨gr, cap, cur, rfl, _⟩
    · exact ⟨none, 0, by rw [h]⟩
    · exact ⟨_, _, rfl⟩
  obtain ⟨M, hM⟩ : ∃ M, M = ws.length := ⟨_, rfl⟩
  obtain ⟨k0, k1, k2⟩ := hR.cells
  have c0 := (cell_in (j := 0) hbD)
  simp only [List.getElem?_toArray, List.getElem?_cons_zero] at c0
  have HROW := Lib.hid hrow
  rw [hv, ← hM] at k1
  have HV := Lib.hid hv
  have HM := Lib.hid hM
  have HBA := Lib.hid hbA
  have HBN := Lib.hid hbN
  clear hbD hbA hbN hR hrow hv hM k0 k2
  refine callsIn_of_wp Try.func61 rfl trivial ?_ rfl
  simp only [Try.ntmps61, List.size_toArray, List.length_cons, List.length_nil, Nat.reduceAdd, Nat.reduceSub, Array.replicate_succ, Array.replicate_zero, List.push_toArray, List.append_toArray, List.nil_append, List.cons_append]
  gi_wp2
  gi_loopw [12] (fun s12 wr => ∃ k : Nat, k ≤ M ∧ s12 = .int .i64 k ∧ Hid (J ((pend N ws ha).take k) wr) ∧ Hid (KeepB (fun k => k = bD ∨ k = bA ∨ k = bN ∨ v.ownBlock = some k) W wr)) (fun s12 _ => M - (intOf s12).toNat)
  case atStart => exact ⟨0, Nat.zero_le _, rfl, Lib.hid h0, Lib.hid (KeepB.refl _ _)⟩
  case round =>
    obtain ⟨k, hk, rfl, HJ, HK⟩ := hrel
    by_cases hlt : k < M
    · have d1 : decide ((k : Int) < (M : Int)) = true := decide_eq_true (by omega)
      have d2 : decide (k < M) = true := decide_eq_true hlt
      have hkw : k < ws.length := by have := HM.out; omega
      obtain ⟨x, hx⟩ : ∃ x, ws[k] = x := ⟨_, rfl⟩
      obtain ⟨gr, hpv, hat⟩ : ∃ gr, pv = some ⟨gr, 0, none⟩ ∧ wr.rangeAt gr (k * 65) (wCell x) := by
        have hr := HROW.out
        rcases hr.2 with ⟨hv, h⟩ | ⟨gr, cap, cur, hv, hb, hg, hn, hm, hs, ht⟩
        · omega
        · have hvv := HV.out.symm.trans hv
          cases hvv
          refine ⟨gr, rfl, fun j u hj => ?_⟩
          have hg2 : wr.heap[gr]? = some (.cells cur 84 (0, 0)) := (HK.out.2 gr (.inr (.inr (.inr (by rw [hv]; rfl))))).trans hg
          have hjl : j < 65 := by
            have := (List.getElem?_eq_some_iff.1 hj).1
            rw [wCell_len (by rw [← hx]; exact (ha _ (List.getElem_mem hkw)).2)] at this
            exact this
          rw [cell_in hg2, ← Array.getElem?_toList, ← hj, ← hx]
          have h2 := flat_at wCell 65 ws k hkw (fun y hy => wCell_len (ha y hy).2) j hjl
          have h3 : cur.toList[k * 65 + j]? = (wCells ws)[k * 65 + j]? := by
            rw [← ht, List.getElem?_take_of_lt (by omega)]
          rw [h3]
          exact h2
      subst hpv
      have hbAw : wr.heap[bA]? = some (.cells #[.int .i64 A] 3 (0, 0)) := (HK.out.2 bA (.inr (.inl rfl))).trans HBA.out
      have hbNw : wr.heap[bN]? = some (.cells #[.int .i64 m] 3 (0, 0)) := (HK.out.2 bN (.inr (.inr (.inl rfl)))).trans HBN.out
      have hx64 : x.2.length = 64 := by rw [← hx]; exact (ha _ (List.getElem_mem hkw)).2
      have hxN : x.1 < N := by rw [← hx]; exact (ha _ (List.getElem_mem hkw)).1
      have hcl : (wCell x).length = 65 := wCell_len hx64
      have hi65 : (Try.prog.info? 84).map (·.size) = some (wCell x).length := by rw [hcl]; exact size_wr
      obtain ⟨Z, hZs, hz⟩ := zero_wr
      have HAT := Lib.hid hat
      have HI65 := Lib.hid hi65
      have HCL := Lib.hid hcl
      have HX := Lib.hid hx
      have HX64 := Lib.hid hx64
      have HZS := Lib.hid hZs
      clear hat hi65 hcl hx hx64 hZs
      have hall : (wCell x).toArray.all (·.oneCell') = true := all_oneCell_toArray (wCell_one x)
      have HALL := Lib.hid hall
      clear hall
      have hNX := pend_next ha k hkw
      obtain ⟨y, hy0, hyx⟩ : ∃ y : Pw N ws.length, (pend N ws ha).take (k + 1) = (pend N ws ha).take k ++ [y] ∧ y.1 = (k, x) := ⟨_, hNX, by show (k, ws[k]) = _; rw [HX.out]⟩
      have HNX := Lib.hid hy0
      have h2 := heap_new wr (.cells (wCell x).toArray 84)
      have hs2 : (wr.alloc (.cells (wCell x).toArray 84)).heap.size = wr.heap.size + 1 := by simp
      have hK2 : KeepB (fun k => k = bD ∨ k = bA ∨ k = bN ∨ v.ownBlock = some k) W (wr.alloc (.cells (wCell x).toArray 84)) := HK.out.trans (KeepB.chg (Chg.alloc (fun _ => False) wr _) (fun k hk => ⟨?kk, fun e => e⟩))
      case kk =>
        refine Nat.lt_of_lt_of_le (hlts k ?_) HK.out.1
        exact hk
      have hJ2 : J ((pend N ws ha).take k) (wr.alloc (.cells (wCell x).toArray 84)) := hJ _ wr _ none HJ.out (World.grownBy_alloc wr _ none) (fun r e => by cases e)
      have hA2 := (Chg.alloc (fun _ => False) wr (.cells (wCell x).toArray 84)).box hbAw (fun e => e)
      have hN2 := (Chg.alloc (fun _ => False) wr (.cells (wCell x).toArray 84)).box hbNw (fun e => e)
      have hR2 : (wr.alloc (.cells (wCell x).toArray 84)).rangeAt wr.heap.size 0 (wCell x) := fun j u hj => by
        rw [Nat.zero_add, cell_in h2, List.getElem?_toArray]
        exact hj
      have f0 : (wr.alloc (.cells (wCell x).toArray 84)).cell? ⟨wr.heap.size, 0, none⟩ = some (.int .i64 (x.1 : Int)) := by rw [cell_in h2]; rfl
      have fA : (wr.alloc (.cells (wCell x).toArray 84)).cell? ⟨bA, 0, none⟩ = some (.int .i64 (A : Int)) := by rw [cell_in hA2]; rfl
      have fN : (wr.alloc (.cells (wCell x).toArray 84)).cell? ⟨bN, 0, none⟩ = some (.int .i64 (m : Int)) := by rw [cell_in hN2]; rfl
      obtain ⟨fn, tmps, assign, body, hy, hRd⟩ := hY ((pend N ws ha).take k) y (wr.alloc (.cells (wCell x).toArray 84)) hJ2 (by rw [List.length_take, pend_len]; omega)
      simp only [encP, hyx] at hy
      have HR2 := Lib.hid hR2
      have HRD := Lib.hid hRd
      have HK2 := Lib.hid hK2
      have hxin : A ≤ x.1 ∧ x.1 < A + m := by rw [← HX.out]; exact hin _ (List.getElem_mem hkw)
      have g1 : decide ((A : Int) ≤ (x.1 : Int)) = true := decide_eq_true (by omega)
      have g1' : decide (A ≤ x.1) = true := decide_eq_true (by omega)
      have g0 : IntKind.i64.wrap ((A : Int) + (m : Int)) = (A : Int) + (m : Int) := by rw [IntKind.wrap_i64]; omega
      have g2 : decide ((x.1 : Int) < (A : Int) + (m : Int)) = true := decide_eq_true (by omega)
      have g3 : decide (x.1 < A + m) = true := decide_eq_true hxin.2
      clear hxin
      clear hNX hy0 h2 hs2 hK2 hJ2 hA2 hN2 hR2 hbAw hbNw hRd hyx
      gi_wp2_with (first
        | (refine list_in (ro := none) (by simp) rfl (fun K hK => ?_); refine wp_load_mid 84 (.tmp 15) rfl gr (k * 65) rfl (wCell x) _ HAT.out Try.underlying84 rfl HI65.out (hK _ _ ?_))
        | (refine list_in (ro := none) (by simp) rfl (fun K hK => ?_); refine wp_store_new 84 (.tmp 6) (.tmp 16) rfl Z (wCell x).toArray rfl rfl (by rw [HI65.out]; simp) (by rw [HZS.out]; simp [HCL.out]) HALL.out (hK _ _ ?_); generalize wr.alloc (.cells (wCell x).toArray 84) = W2 at *)
        | (refine list_inW (ro := none) (by simp) rfl (fun K hK => ?_); refine wp_load_mid 84 (.tmp 6) rfl _ 0 rfl (wCell x) _ HR2.out Try.underlying84 rfl HI65.out (hK _ _ ?_)))
      refine ⟨(fun h0 => by cases h0), HRD.out.mono ?_⟩
      rintro e W3 (⟨rfl, hJ3, hk3⟩ | ⟨rfl, hJx3⟩)
      · have HJ3 := Lib.hid (show J ((pend N ws ha).take (k + 1)) W3 by rw [HNX.out]; exact hJ3)
        have HK3 := Lib.hid (HK2.out.trans hk3)
        clear hJ3 hk3
        gi_wp2
        go_roundw
        case rel => exact ⟨k + 1, by omega, by go_num, HJ3, HK3⟩
        case measure => simp [intOf]; omega
      · have HJ3 := Lib.hid (show Jx ((pend N ws ha).take (k + 1)) W3 by rw [HNX.out]; exact hJx3)
        clear hJx3
        gi_wp2
        refine bodyPost_ret (results_none rfl _ _ _) rfl ?_
        exact ⟨⟨_, rfl⟩, .inr ⟨_, List.take_prefix _ _, HJ3.out⟩⟩
    · have d1 : decide ((k : Int) < (M : Int)) = false := decide_eq_false (by omega)
      have d2 : decide (k < M) = false := decide_eq_false hlt
      have hE : (pend N ws ha).take k = pend N ws ha := List.take_of_length_le (by rw [pend_len]; have := HM.out; omega)
      gi_wp2
      go_end0
      exact ⟨⟨_, rfl⟩, .inl ⟨_, rfl, by rw [← hE]; exact HJ.out⟩⟩
/-- The contract of what pending returns. -/
theorem pend_stops (n : Nat) (bD bA bN D g N A m : Nat) (cc : Int) (v : Value) (ws : List Wq) (hin : ∀ x ∈ ws, A ≤ x.1 ∧ x.1 < A + m) (hAm : A + m ≤ 65536) (ha : ∀ x ∈ ws, x.1 < N ∧ x.2.length = 64) (hws : ws.length ≤ 1000000) (hN : N ≤ 65536) (w : World)
    (hbD : w.heap[bD]? = some (.cells #[.pointer (some ⟨D, 0, none⟩)] 26 (0, 0))) (hbA : w.heap[bA]? = some (.cells #[.int .i64 A] 3 (0, 0))) (hbN : w.heap[bN]? = some (.cells #[.int .i64 m] 3 (0, 0)))
    (hR : Rec w D g N v cc) (lo : Nat) (hrow : w.ownsRow lo 84 65 v ws.length (wCells ws)) :
    SeqStopsK Fence.wide n Try.prog 61 #[.pointer (some ⟨bD, 0, none⟩), .pointer (some ⟨bA, 0, none⟩), .pointer (some ⟨bN, 0, none⟩)] (encP (N := N) (M := ws.length)) (KeepB (fun k => k = bD ∨ k = bA ∨ k = bN ∨ v.ownBlock = some k)) (fun ys => ys = pend N ws ha) (fun pre => pre <+: pend N ws ha) ws.length w := fun l J Jx W hW hJ _ hY h0 => by
  have hc := Chg.below hW (fun _ => False)
  refine pend_in n l bD bA bN D g N A m cc v ws hin hAm ha hws hN J Jx W hJ hY (hc.box hbD (fun e => e)) (hc.box hbA (fun e => e)) (hc.box hbN (fun e => e)) (hc.box hR (fun e => e)) (fun k hk => ?_) lo (hc.own hrow (fun _ _ e => e)) h0
  refine Nat.lt_of_lt_of_le ?_ hW.size
  rcases hk with rfl | rfl | rfl | hk
  · exact (Array.getElem?_eq_some_iff.1 hbD).1
  · exact (Array.getElem?_eq_some_iff.1 hbA).1
  · exact (Array.getElem?_eq_some_iff.1 hbN).1
  · exact (hrow.lt k hk).2
end Go.Proofs.Ytgcifhhbhoafcaa
