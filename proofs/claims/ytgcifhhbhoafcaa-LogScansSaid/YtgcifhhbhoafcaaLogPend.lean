/-
  The pending writes to a part of the sectors, one after the other.
-/
import Derived.Test.YtgcifhhbhoafcaaDiskCrash
namespace Go.Proofs.Ytgcifhhbhoafcaa
open Go.RowKit Go.Shelf
attribute [local go_sem] Oper.semAt_some

/-- A pending write, as it is yielded: its number, its place and its bytes. -/
abbrev PwR (A N M : Nat) := { x : Nat × Wq // x.1 < M ∧ (A ≤ x.2.1 ∧ x.2.1 < N) ∧ x.2.2.length = 64 }
def pickR (A N : Nat) (ws : List Wq) (h : ∀ x ∈ ws, x.2.length = 64) (j : Fin ws.length) : Option (PwR A N ws.length) :=
  if hx : A ≤ (ws[j.1]).1 ∧ (ws[j.1]).1 < N then some ⟨(j.1, ws[j.1]), j.2, hx, h _ (List.getElem_mem j.2)⟩ else none
def pendR (A N : Nat) (ws : List Wq) (h : ∀ x ∈ ws, x.2.length = 64) : List (PwR A N ws.length) := (List.finRange ws.length).filterMap (pickR A N ws h)
/-- Those of the first k that are yielded. -/
def pendK (A N : Nat) (ws : List Wq) (h : ∀ x ∈ ws, x.2.length = 64) (k : Nat) : List (PwR A N ws.length) := ((List.finRange ws.length).take k).filterMap (pickR A N ws h)
theorem pendK_len {A N : Nat} {ws : List Wq} (h : ∀ x ∈ ws, x.2.length = 64) (k : Nat) : (pendK A N ws h k).length ≤ k :=
  Nat.le_trans (List.length_filterMap_le _ _) (by rw [List.length_take]; omega)
theorem pendK_pre {A N : Nat} {ws : List Wq} (h : ∀ x ∈ ws, x.2.length = 64) (k : Nat) : pendK A N ws h k <+: pendR A N ws h := by
  refine ⟨((List.finRange ws.length).drop k).filterMap (pickR A N ws h), ?_⟩
  unfold pendK pendR
  rw [← List.filterMap_append, List.take_append_drop]
theorem pendK_all {A N : Nat} {ws : List Wq} (h : ∀ x ∈ ws, x.2.length = 64) (k : Nat) (hk : ws.length ≤ k) : pendK A N ws h k = pendR A N ws h := by
  unfold pendK pendR
  rw [List.take_of_length_le (by rw [List.length_finRange]; exact hk)]
theorem pendK_step {A N : Nat} {ws : List Wq} (h : ∀ x ∈ ws, x.2.length = 64) (k : Nat) (hk : k < ws.length) : pendK A N ws h (k + 1) = pendK A N ws h k ++ ((pickR A N ws h ⟨k, hk⟩).toList) := by
  unfold pendK
  rw [List.take_succ_eq_append_getElem (by rw [List.length_finRange]; exact hk), List.filterMap_append]
  congr 1
  rw [List.getElem_finRange, List.filterMap_cons, List.filterMap_nil]
  have e : (Fin.cast (by simp) (⟨k, by simpa using hk⟩ : Fin (List.finRange ws.length).length) : Fin ws.length) = ⟨k, hk⟩ := rfl
  first
    | rw [e]
    | skip
  cases hp : pickR A N ws h ⟨k, hk⟩ <;> simp_all
theorem pendK_in {A N : Nat} {ws : List Wq} (h : ∀ x ∈ ws, x.2.length = 64) (k : Nat) (hk : k < ws.length) (hx : A ≤ (ws[k]).1 ∧ (ws[k]).1 < N) : pendK A N ws h (k + 1) = pendK A N ws h k ++ [⟨(k, ws[k]), hk, hx, h _ (List.getElem_mem hk)⟩] := by
  rw [pendK_step h k hk]
  have e : pickR A N ws h ⟨k, hk⟩ = some ⟨(k, ws[k]), hk, hx, h _ (List.getElem_mem hk)⟩ := by
    unfold pickR
    rw [dif_pos hx]
  rw [e]
  rfl
theorem pendK_out {A N : Nat} {ws : List Wq} (h : ∀ x ∈ ws, x.2.length = 64) (k : Nat) (hk : k < ws.length) (hx : ¬ (A ≤ (ws[k]).1 ∧ (ws[k]).1 < N)) : pendK A N ws h (k + 1) = pendK A N ws h k := by
  rw [pendK_step h k hk]
  have e : pickR A N ws h ⟨k, hk⟩ = none := by
    unfold pickR
    rw [dif_neg hx]
  rw [e]
  simp
/-- A place in the range. -/
def inR (A N : Nat) (x : Wq) : Bool := decide (A ≤ x.1) && decide (x.1 < N)
theorem pendR_map {A N : Nat} {ws : List Wq} (h : ∀ x ∈ ws, x.2.length = 64) : (pendR A N ws h).map (fun x => x.1.2) = ws.filter (inR A N) := by
  unfold pendR
  rw [List.map_filterMap]
  have e1 : (fun j : Fin ws.length => (pickR A N ws h j).map (fun x => x.1.2)) = (fun j : Fin ws.length => Option.guard (inR A N) (ws[j.1])) := by
    funext j
    unfold pickR Option.guard inR
    by_cases hx : A ≤ (ws[j.1]).1 ∧ (ws[j.1]).1 < N
    · rw [dif_pos hx, if_pos (by simp [hx])]
      rfl
    · rw [dif_neg hx, if_neg (by simp only [Bool.and_eq_true, decide_eq_true_eq]; exact hx)]
      rfl
  rw [e1]
  have e2 : (List.finRange ws.length).map (fun j => ws[j.1]) = ws := by
    apply List.ext_getElem
    · simp
    · intro i h1 h2
      simp
  have e3 := List.filterMap_map (f := fun j : Fin ws.length => ws[j.1]) (g := Option.guard (inR A N)) (l := List.finRange ws.length)
  rw [e2] at e3
  have e4 : (Option.guard (inR A N) ∘ fun j : Fin ws.length => ws[j.1]) = fun j : Fin ws.length => Option.guard (inR A N) (ws[j.1]) := rfl
  rw [← e4, ← e3, List.filterMap_eq_filter]

def encR {A N M : Nat} (x : PwR A N M) : Array Value := #[.int .i64 (x.1.1 : Int), .agg (wCell x.1.2).toArray]

set_option maxRecDepth 100000 in
set_option maxHeartbeats 2000000 in
theorem pendR_in (n l : Nat) (bD bA bN D g NS A N m : Nat) (cc : Int) (v : Value) (ws : List Wq) (hAm : A + m = N) (ha : ∀ x ∈ ws, x.2.length = 64) (hws : ws.length ≤ 1000000) (hN : N ≤ 65536) (J Jx : List (PwR A N ws.length) → World → Prop)
    (W : World) (hJ : AbidesFrom W.heap.size J)
    (hY : ∀ pre x W1, J pre W1 → pre.length < ws.length → YieldAt Fence.wide (n - 1) Try.prog l (encR x) W1 fun e W' =>
      (e = .returned (.bool true) ∧ J (pre ++ [x]) W' ∧ KeepB (fun k => k = bD ∨ k = bA ∨ k = bN ∨ v.ownBlock = some k) W1 W') ∨ (e = .returned (.bool false) ∧ Jx (pre ++ [x]) W'))
    (hbD : W.heap[bD]? = some (.cells #[.pointer (some ⟨D, 0, none⟩)] 26 (0, 0))) (hbA : W.heap[bA]? = some (.cells #[.int .i64 A] 3 (0, 0))) (hbN : W.heap[bN]? = some (.cells #[.int .i64 m] 3 (0, 0)))
    (hR : Rec W D g NS v cc) (hlts : ∀ k, k = bD ∨ k = bA ∨ k = bN ∨ v.ownBlock = some k → k < W.heap.size) (lo : Nat) (hrow : W.ownsRow lo 84 65 v ws.length (wCells ws)) (h0 : J [] W) :
    CallsIn Fence.wide n Try.prog 61 #[.func (.yield l) #[] #[], .pointer (some ⟨bD, 0, none⟩), .pointer (some ⟨bA, 0, none⟩), .pointer (some ⟨bN, 0, none⟩)] W fun e W' => (∃ v, e = .returned v) ∧
      ((∃ ys, ys = pendR A N ws ha ∧ J ys W') ∨ (∃ pre, pre <+: pendR A N ws ha ∧ Jx pre W')) := by
  obtain ⟨pv, cv, hv⟩ : ∃ pv cv, v = .slice pv ws.length cv := by
    rcases hrow.2 with ⟨rfl, h⟩ | ⟨gr, cap, cur, rfl, _⟩
    · exact ⟨none, 0, by rw [h]⟩
    · exact ⟨_, _, rfl⟩
  obtain ⟨M, hM⟩ : ∃ M, M = ws.length := ⟨_, rfl⟩
  obtain ⟨k0, k1, k2⟩ := hR.cells
  have c0 := (cell_in (j := 0) hbD)
  simp only [List.getElem?_toArray, List.getElem?_cons_zero] at c0
  have HROW := Lib.hid hrow
  rw [hv, ← hM] at k1
  have HV := Lib.hid hv
  have HM := Lib.hid hM
  have HBA := Lib.hid hbA
  have HBN := Lib.hid hbN
  clear hbD hbA hbN hR hrow hv hM k0 k2
  refine callsIn_of_wp Try.func61 rfl trivial ?_ rfl
  simp only [Try.ntmps61, List.size_toArray, List.length_cons, List.length_nil, Nat.reduceAdd, Nat.reduceSub, Array.replicate_succ, Array.replicate_zero, List.push_toArray, List.append_toArray, List.nil_append, List.cons_append]
  gi_wp2
  gi_loopw [12] (fun s12 wr => ∃ k : Nat, k ≤ M ∧ s12 = .int .i64 k ∧ Hid (J (pendK A N ws ha k) wr) ∧ Hid (KeepB (fun k => k = bD ∨ k = bA ∨ k = bN ∨ v.ownBlock = some k) W wr)) (fun s12 _ => M - (intOf s12).toNat)
  case atStart => exact ⟨0, Nat.zero_le _, rfl, Lib.hid h0, Lib.hid (KeepB.refl _ _)⟩
  case round =>
    obtain ⟨k, hk, rfl, HJ, HK⟩ := hrel
    by_cases hlt : k < M
    · have d1 : decide ((k : Int) < (M : Int)) = true := decide_eq_true (by omega)
      have d2 : decide (k < M) = true := decide_eq_true hlt
      have hkw : k < ws.length := by have := HM.out; omega
      obtain ⟨x, hx⟩ : ∃ x, ws[k] = x := ⟨_, rfl⟩
      obtain ⟨gr, hpv, hat⟩ : ∃ gr, pv = some ⟨gr, 0, none⟩ ∧ wr.rangeAt gr (k * 65) (wCell x) := by
        have hr := HROW.out
        rcases hr.2 with ⟨hv, h⟩ | ⟨gr, cap, cur, hv, hb, hg, hn, hm, hs, ht⟩
        · omega
        · have hvv := HV.out.symm.trans hv
          cases hvv
          refine ⟨gr, rfl, fun j u hj => ?_⟩
          have hg2 : wr.heap[gr]? = some (.cells cur 84 (0, 0)) := (HK.out.2 gr (.inr (.inr (.inr (by rw [hv]; rfl))))).trans hg
          have hjl : j < 65 := by
            have := (List.getElem?_eq_some_iff.1 hj).1
            rw [wCell_len (by rw [← hx]; exact ha _ (List.getElem_mem hkw))] at this
            exact this
          rw [cell_in hg2, ← Array.getElem?_toList, ← hj, ← hx]
          have h2 := flat_at wCell 65 ws k hkw (fun y hy => wCell_len (ha y hy)) j hjl
          have h3 : cur.toList[k * 65 + j]? = (wCells ws)[k * 65 + j]? := by
            rw [← ht, List.getElem?_take_of_lt (by omega)]
          rw [h3]
          exact h2
      subst hpv
      have hbAw : wr.heap[bA]? = some (.cells #[.int .i64 A] 3 (0, 0)) := (HK.out.2 bA (.inr (.inl rfl))).trans HBA.out
      have hbNw : wr.heap[bN]? = some (.cells #[.int .i64 m] 3 (0, 0)) := (HK.out.2 bN (.inr (.inr (.inl rfl)))).trans HBN.out
      have hx64 : x.2.length = 64 := by rw [← hx]; exact ha _ (List.getElem_mem hkw)
      have hcl : (wCell x).length = 65 := wCell_len hx64
      have hi65 : (Try.prog.info? 84).map (·.size) = some (wCell x).length := by rw [hcl]; exact size_wr
      obtain ⟨Z, hZs, hz⟩ := zero_wr
      have HAT := Lib.hid hat
      have HI65 := Lib.hid hi65
      have HCL := Lib.hid hcl
      have HX := Lib.hid hx
      have HX64 := Lib.hid hx64
      have HZS := Lib.hid hZs
      clear hat hi65 hcl hx hx64 hZs
      have hall : (wCell x).toArray.all (·.oneCell') = true := all_oneCell_toArray (wCell_one x)
      have HALL := Lib.hid hall
      clear hall
      have h2 := heap_new wr (.cells (wCell x).toArray 84)
      have hs2 : (wr.alloc (.cells (wCell x).toArray 84)).heap.size = wr.heap.size + 1 := by simp
      have hK2 : KeepB (fun k => k = bD ∨ k = bA ∨ k = bN ∨ v.ownBlock = some k) W (wr.alloc (.cells (wCell x).toArray 84)) := HK.out.trans (KeepB.chg (Chg.alloc (fun _ => False) wr _) (fun k hk => ⟨?kk, fun e => e⟩))
      case kk =>
        refine Nat.lt_of_lt_of_le (hlts k ?_) HK.out.1
        exact hk
      have hJ2 : J (pendK A N ws ha k) (wr.alloc (.cells (wCell x).toArray 84)) := hJ _ wr _ none HJ.out (World.grownBy_alloc wr _ none) (fun r e => by cases e)
      have hA2 := (Chg.alloc (fun _ => False) wr (.cells (wCell x).toArray 84)).box hbAw (fun e => e)
      have hN2 := (Chg.alloc (fun _ => False) wr (.cells (wCell x).toArray 84)).box hbNw (fun e => e)
      have hR2 : (wr.alloc (.cells (wCell x).toArray 84)).rangeAt wr.heap.size 0 (wCell x) := fun j u hj => by
        rw [Nat.zero_add, cell_in h2, List.getElem?_toArray]
        exact hj
      have f0 : (wr.alloc (.cells (wCell x).toArray 84)).cell? ⟨wr.heap.size, 0, none⟩ = some (.int .i64 (x.1 : Int)) := by rw [cell_in h2]; rfl
      have fA : (wr.alloc (.cells (wCell x).toArray 84)).cell? ⟨bA, 0, none⟩ = some (.int .i64 (A : Int)) := by rw [cell_in hA2]; rfl
      have fN : (wr.alloc (.cells (wCell x).toArray 84)).cell? ⟨bN, 0, none⟩ = some (.int .i64 (m : Int)) := by rw [cell_in hN2]; rfl
      have g0 : IntKind.i64.wrap ((A : Int) + (m : Int)) = (A : Int) + (m : Int) := by rw [IntKind.wrap_i64]; omega
      have HR2 := Lib.hid hR2
      have HK2 := Lib.hid hK2
      by_cases hxin : A ≤ x.1 ∧ x.1 < A + m
      · have hin' : A ≤ (ws[k]).1 ∧ (ws[k]).1 < N := by rw [HX.out]; omega
        obtain ⟨y, hy0, hyx⟩ : ∃ y : PwR A N ws.length, pendK A N ws ha (k + 1) = pendK A N ws ha k ++ [y] ∧ y.1 = (k, x) := ⟨_, pendK_in ha k hkw hin', by show (k, ws[k]) = _; rw [HX.out]⟩
        have HNX := Lib.hid hy0
        obtain ⟨fn, tmps, assign, body, hy, hRd⟩ := hY (pendK A N ws ha k) y (wr.alloc (.cells (wCell x).toArray 84)) hJ2 (by have := pendK_len (A := A) (N := N) ha k; omega)
        simp only [encR, hyx] at hy
        have HRD := Lib.hid hRd
        have g1 : decide ((A : Int) ≤ (x.1 : Int)) = true := decide_eq_true (by omega)
        have g1' : decide (A ≤ x.1) = true := decide_eq_true (by omega)
        have g2 : decide ((x.1 : Int) < (A : Int) + (m : Int)) = true := decide_eq_true (by omega)
        have g3 : decide (x.1 < A + m) = true := decide_eq_true hxin.2
        clear hxin
        clear hin' hy0 h2 hs2 hK2 hJ2 hA2 hN2 hR2 hbAw hbNw hRd hyx
        gi_wp2_with (first
          | (refine list_in (ro := none) (by simp) rfl (fun K hK => ?_); refine wp_load_mid 84 (.tmp 15) rfl gr (k * 65) rfl (wCell x) _ HAT.out Try.underlying84 rfl HI65.out (hK _ _ ?_))
          | (refine list_in (ro := none) (by simp) rfl (fun K hK => ?_); refine wp_store_new 84 (.tmp 6) (.tmp 16) rfl Z (wCell x).toArray rfl rfl (by rw [HI65.out]; simp) (by rw [HZS.out]; simp [HCL.out]) HALL.out (hK _ _ ?_); generalize wr.alloc (.cells (wCell x).toArray 84) = W2 at *)
          | (refine list_inW (ro := none) (by simp) rfl (fun K hK => ?_); refine wp_load_mid 84 (.tmp 6) rfl _ 0 rfl (wCell x) _ HR2.out Try.underlying84 rfl HI65.out (hK _ _ ?_)))
        refine ⟨(fun h0 => by cases h0), HRD.out.mono ?_⟩
        rintro e W3 (⟨rfl, hJ3, hk3⟩ | ⟨rfl, hJx3⟩)
        · have HJ3 := Lib.hid (show J (pendK A N ws ha (k + 1)) W3 by rw [HNX.out]; exact hJ3)
          have HK3 := Lib.hid (HK2.out.trans hk3)
          clear hJ3 hk3
          gi_wp2
          go_roundw
          case rel => exact ⟨k + 1, by omega, by go_num, HJ3, HK3⟩
          case measure => simp [intOf]; omega
        · have HJ3 := Lib.hid (show Jx (pendK A N ws ha (k + 1)) W3 by rw [HNX.out]; exact hJx3)
          clear hJx3
          gi_wp2
          refine bodyPost_ret (results_none rfl _ _ _) rfl ?_
          exact ⟨⟨_, rfl⟩, .inr ⟨_, pendK_pre ha _, HJ3.out⟩⟩
      · have HJ2 := Lib.hid (show J (pendK A N ws ha (k + 1)) (wr.alloc (.cells (wCell x).toArray 84)) by rw [pendK_out ha k hkw (by rw [HX.out]; omega)]; exact hJ2)
        by_cases hlow : A ≤ x.1
        · have g1 : decide ((A : Int) ≤ (x.1 : Int)) = true := decide_eq_true (by omega)
          have g1' : decide (A ≤ x.1) = true := decide_eq_true (by omega)
          have g2 : decide ((x.1 : Int) < (A : Int) + (m : Int)) = false := decide_eq_false (by omega)
          have g3 : decide (x.1 < A + m) = false := decide_eq_false (by omega)
          clear hxin hlow
          clear h2 hs2 hK2 hJ2 hA2 hN2 hR2 hbAw hbNw
          gi_wp2_with (first
            | (refine list_in (ro := none) (by simp) rfl (fun K hK => ?_); refine wp_load_mid 84 (.tmp 15) rfl gr (k * 65) rfl (wCell x) _ HAT.out Try.underlying84 rfl HI65.out (hK _ _ ?_))
            | (refine list_in (ro := none) (by simp) rfl (fun K hK => ?_); refine wp_store_new 84 (.tmp 6) (.tmp 16) rfl Z (wCell x).toArray rfl rfl (by rw [HI65.out]; simp) (by rw [HZS.out]; simp [HCL.out]) HALL.out (hK _ _ ?_); generalize wr.alloc (.cells (wCell x).toArray 84) = W2 at *)
            | (refine list_inW (ro := none) (by simp) rfl (fun K hK => ?_); refine wp_load_mid 84 (.tmp 6) rfl _ 0 rfl (wCell x) _ HR2.out Try.underlying84 rfl HI65.out (hK _ _ ?_)))
          refine ⟨(fun f e => by cases e), ?_⟩
          gi_wp2
          go_roundw
          case rel => exact ⟨k + 1, by omega, by go_num, HJ2, HK2⟩
          case measure => simp [intOf]; omega
        · have g1 : decide ((A : Int) ≤ (x.1 : Int)) = false := decide_eq_false (by omega)
          have g1' : decide (A ≤ x.1) = false := decide_eq_false hlow
          clear hxin hlow
          clear h2 hs2 hK2 hJ2 hA2 hN2 hR2 hbAw hbNw
          gi_wp2_with (first
            | (refine list_in (ro := none) (by simp) rfl (fun K hK => ?_); refine wp_load_mid 84 (.tmp 15) rfl gr (k * 65) rfl (wCell x) _ HAT.out Try.underlying84 rfl HI65.out (hK _ _ ?_))
            | (refine list_in (ro := none) (by simp) rfl (fun K hK => ?_); refine wp_store_new 84 (.tmp 6) (.tmp 16) rfl Z (wCell x).toArray rfl rfl (by rw [HI65.out]; simp) (by rw [HZS.out]; simp [HCL.out]) HALL.out (hK _ _ ?_); generalize wr.alloc (.cells (wCell x).toArray 84) = W2 at *)
            | (refine list_inW (ro := none) (by simp) rfl (fun K hK => ?_); refine wp_load_mid 84 (.tmp 6) rfl _ 0 rfl (wCell x) _ HR2.out Try.underlying84 rfl HI65.out (hK _ _ ?_)))
          refine ⟨(fun f e => by cases e), ?_⟩
          gi_wp2
          go_roundw
          case rel => exact ⟨k + 1, by omega, by go_num, HJ2, HK2⟩
          case measure => simp [intOf]; omega
    · have d1 : decide ((k : Int) < (M : Int)) = false := decide_eq_false (by omega)
      have d2 : decide (k < M) = false := decide_eq_false hlt
      have hE : pendK A N ws ha k = pendR A N ws ha := pendK_all ha k (by have := HM.out; omega)
      gi_wp2
      go_end0
      exact ⟨⟨_, rfl⟩, .inl ⟨_, rfl, by rw [← hE]; exact HJ.out⟩⟩
/-- The contract of what pending returns. -/
theorem pendR_stops (n : Nat) (bD bA bN D g NS A N m : Nat) (cc : Int) (v : Value) (ws : List Wq) (hAm : A + m = N) (ha : ∀ x ∈ ws, x.2.length = 64) (hws : ws.length ≤ 1000000) (hN : N ≤ 65536) (w : World)
    (hbD : w.heap[bD]? = some (.cells #[.pointer (some ⟨D, 0, none⟩)] 26 (0, 0))) (hbA : w.heap[bA]? = some (.cells #[.int .i64 A] 3 (0, 0))) (hbN : w.heap[bN]? = some (.cells #[.int .i64 m] 3 (0, 0)))
    (hR : Rec w D g NS v cc) (lo : Nat) (hrow : w.ownsRow lo 84 65 v ws.length (wCells ws)) :
    SeqStopsK Fence.wide n Try.prog 61 #[.pointer (some ⟨bD, 0, none⟩), .pointer (some ⟨bA, 0, none⟩), .pointer (some ⟨bN, 0, none⟩)] (encR (A := A) (N := N) (M := ws.length)) (KeepB (fun k => k = bD ∨ k = bA ∨ k = bN ∨ v.ownBlock = some k)) (fun ys => ys = pendR A N ws ha) (fun pre => pre <+: pendR A N ws ha) ws.length w := fun l J Jx W hW hJ _ hY h0 => by
  have hc := Chg.below hW (fun _ => False)
  refine pendR_in n l bD bA bN D g NS A N m cc v ws hAm ha hws hN J Jx W hJ hY (hc.box hbD (fun e => e)) (hc.box hbA (fun e => e)) (hc.box hbN (fun e => e)) (hc.box hR (fun e => e)) (fun k hk => ?_) lo (hc.own hrow (fun _ _ e => e)) h0
  refine Nat.lt_of_lt_of_le ?_ hW.size
  rcases hk with rfl | rfl | rfl | hk
  · exact (Array.getElem?_eq_some_iff.1 hbD).1
  · exact (Array.getElem?_eq_some_iff.1 hbA).1
  · exact (Array.getElem?_eq_some_iff.1 hbN).1
  · exact (hrow.lt k hk).2
end Go.Proofs.Ytgcifhhbhoafcaa
