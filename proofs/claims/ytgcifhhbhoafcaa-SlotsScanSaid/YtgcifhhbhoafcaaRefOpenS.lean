/-
  The reference's disk: Read, whatever waits. The reference: slots opened.
-/
import Derived.Test.YtgcifhhbhoafcaaRefWrite
import Derived.Test.YtgcifhhbhoafcaaRefSave
import Derived.Test.YtgcifhhbhoafcaaSlotHold
namespace Go.Proofs.Ytgcifhhbhoafcaa
open Go.RowKit Go.Shelf

theorem rdone_other (i : Nat) : ∀ (L : List Wq) (S : List Sec), (∀ x ∈ L, x.1 ≠ i) → (doneS S L)[i]? = S[i]?
  | [], _, _ => rfl
  | x :: L, S, h => by
    show (doneS (S.set x.1 x.2) L)[i]? = _
    rw [rdone_other i L _ (fun y hy => h y (List.mem_cons_of_mem _ hy)), List.getElem?_set_ne (h x List.mem_cons_self)]
theorem done_last (S : List Sec) (ws : List Wq) (i k : Nat) (hk : k < ws.length) (hi : i < S.length) (h1 : (ws[k]).1 = i) (h2 : ∀ j (hj : j < ws.length), k < j → (ws[j]).1 ≠ i) : (doneS S ws)[i]? = some (ws[k]).2 := by
  have e : ws = ws.take k ++ ws[k] :: ws.drop (k + 1) := by
    rw [← List.drop_eq_getElem_cons hk, List.take_append_drop]
  have e2 : doneS S ws = doneS ((doneS S (ws.take k)).set (ws[k]).1 (ws[k]).2) (ws.drop (k + 1)) := by
    conv => lhs; rw [e]
    unfold doneS
    rw [List.foldl_append, List.foldl_cons]
  rw [e2, rdone_other i _ _ (fun x hx => by
    obtain ⟨j, hj, rfl⟩ := List.getElem_of_mem hx
    rw [List.getElem_drop]
    exact h2 _ _ (by omega)), h1, List.getElem?_set_self (by rw [doneS_len]; exact hi)]
/-- Numbers and bytes as writes. -/
theorem zip_mapIdx (a : Nat) (L : List Sec) : ((List.range L.length).map (a + ·)).zip L = L.mapIdx fun i s => (a + i, s) := by
  apply List.ext_getElem
  · simp
  · intro i h1 h2
    simp

set_option maxRecDepth 20000 in
set_option maxHeartbeats 2000000 in
theorem refsee_any {w : World} {D lo : Nat} {S : List Sec} {va vw : Value} {pos : List Nat} {B : List Sec} (H : RA w D lo S va vw pos B) (hpb : pos.length = B.length) (hm : B.length ≤ 100000) (i : Nat) (hi : i < S.length) :
    Calls Try.prog 52 #[.pointer (some ⟨D, 0, none⟩), .int .i64 i] w fun e w' => e = .returned (.string (bs ((doneS S (pos.zip B)).getD i []))) ∧ w = w' := by
  obtain ⟨gs, cs, hbox, hsafe, _⟩ := H.box
  obtain ⟨pa, ca, rfl⟩ := row_slice H.at_
  obtain ⟨pw, cw, rfl⟩ := row_slice H.what
  have hAt : ∀ j (hj : j < pos.length), ∃ ga, pa = some ⟨ga, 0, none⟩ ∧ w.cell? ⟨ga, j, none⟩ = some (.int .i64 ((pos[j] : Nat) : Int)) := fun j hj => by
    rcases H.at_.2 with ⟨h, h0⟩ | ⟨g, cap, cur, h, _, hg, _, _, _, ht⟩
    · omega
    · cases h
      refine ⟨g, rfl, ?_⟩
      rw [cell_in hg, ← Array.getElem?_toList]
      have : (cur.toList.take (pos.length * 1))[j]? = some (.int .i64 ((pos[j] : Nat) : Int)) := by rw [ht]; simp [pCells, List.getElem?_eq_getElem hj]
      rwa [List.getElem?_take_of_lt (by omega)] at this
  have hWh : ∀ j (hj : j < B.length), ∃ gw, pw = some ⟨gw, 0, none⟩ ∧ w.cell? ⟨gw, j, none⟩ = some (.string (bs B[j])) := fun j hj => by
    rcases H.what.2 with ⟨h, h0⟩ | ⟨g, cap, cur, h, _, hg, _, _, _, ht⟩
    · omega
    · cases h
      refine ⟨g, rfl, ?_⟩
      rw [cell_in hg, ← Array.getElem?_toList]
      have : (cur.toList.take (B.length * 1))[j]? = some (.string (bs B[j])) := by rw [ht]; simp [sCells, List.getElem?_eq_getElem hj]
      rwa [List.getElem?_take_of_lt (by omega)] at this
  have k0 : w.cell? ⟨D, 0, none⟩ = some (.slice (some ⟨gs, 0, none⟩) S.length cs) := by rw [cell_in hbox]; rfl
  have k1 : w.cell? ⟨D, 1, none⟩ = some (.slice pa pos.length ca) := by rw [cell_in hbox]; rfl
  have k2 : w.cell? ⟨D, 2, none⟩ = some (.slice pw B.length cw) := by rw [cell_in hbox]; rfl
  have hsf := sCells_at hsafe i hi
  rw [Nat.zero_add] at hsf
  obtain ⟨out, hout⟩ : ∃ out, (doneS S (pos.zip B)).getD i [] = out := ⟨_, rfl⟩
  have hHit : ∀ k (hk : k < pos.length) (hk2 : k < B.length), pos[k] = i → (∀ j (hj : j < pos.length), k < j → pos[j] ≠ i) → B[k] = out := fun k hk hk2 h1 h2 => by
    have hz : k < (pos.zip B).length := by rw [List.length_zip]; omega
    have := done_last S (pos.zip B) i k hz hi (by rw [List.getElem_zip]; exact h1) (fun j hj hkj => by
      rw [List.getElem_zip]
      exact h2 j (by rw [List.length_zip] at hj; omega) hkj)
    rw [List.getElem_zip] at this
    rw [← hout, List.getD_eq_getElem?_getD, this]
    rfl
  have hMiss : (∀ j (hj : j < pos.length), pos[j] ≠ i) → S[i] = out := fun h => by
    have := rdone_other i (pos.zip B) S (fun x hx => by
      obtain ⟨j, hj, rfl⟩ := List.getElem_of_mem hx
      rw [List.getElem_zip]
      exact h j (by rw [List.length_zip] at hj; omega))
    rw [← hout, List.getD_eq_getElem?_getD, this, List.getElem?_eq_getElem hi]
    rfl
  rw [hout]
  obtain ⟨st, hst⟩ : ∃ st, bs S[i] = st := ⟨_, rfl⟩
  obtain ⟨so, hso⟩ : ∃ so, bs out = so := ⟨_, rfl⟩
  rw [hst] at hsf
  rw [hso]
  obtain ⟨M, hM⟩ : ∃ M, S.length = M := ⟨_, rfl⟩
  obtain ⟨np, hnp⟩ : ∃ np, pos.length = np := ⟨_, rfl⟩
  have hnb : B.length = np := by omega
  rw [hM] at k0 hi
  rw [hnp] at k1
  rw [hnb] at k2 hm
  have HAT := Lib.hid hAt
  have HWH := Lib.hid hWh
  have HHIT := Lib.hid hHit
  have HMISS := Lib.hid hMiss
  have HST := Lib.hid hst
  have HSO := Lib.hid hso
  have HNP := Lib.hid (show _ ∧ _ from ⟨hnp, hnb⟩)
  clear H hbox hsafe hAt hWh hHit hMiss hst hso hnp hnb hM hout hpb
  have j0 : (0 : Int) ≤ (i : Int) := by omega
  have j1 : (i : Int) < (M : Int) := by omega
  go_enter Try.func52, Try.ntmps52
  go_wp2
  go_loopw [5] (fun s5 wr => ∃ k : Nat, k ≤ np ∧ s5 = .int .i64 ((k : Int) - 1) ∧ Hid (∀ j (hj : j < pos.length), k ≤ j → pos[j] ≠ i) ∧ wr = w) (fun s5 _ => ((intOf s5) + 1).toNat)
  case atStart => exact ⟨np, Nat.le_refl _, by go_num, Lib.hid (fun j hj h => by have := HNP.out.1; omega), rfl⟩
  case round =>
    obtain ⟨k, hk, rfl, HNO, rfl⟩ := hrel
    by_cases hk0 : k = 0
    · subst hk0
      have e1 : decide ((0 : Int) ≤ ((0 : Nat) : Int) - 1) = false := by decide
      have HF := Lib.hid (show st = so by rw [← HST.out, ← HSO.out, HMISS.out (fun j hj => HNO.out j hj (Nat.zero_le _))])
      go_wp2
      go_ret
      exact ⟨by rw [HF.out]; rfl, rfl⟩
    · obtain ⟨q, rfl⟩ : ∃ q, k = q + 1 := ⟨k - 1, by omega⟩
      have e0 : (((q + 1 : Nat) : Int) - 1) = (q : Int) := by omega
      rw [e0]
      have e1 : decide ((0 : Int) ≤ (q : Int)) = true := decide_eq_true (by omega)
      have hq1 : q < pos.length := by have := HNP.out.1; omega
      have hq2 : q < B.length := by have := HNP.out.2; omega
      obtain ⟨ga, rfl, ca1⟩ := HAT.out q hq1
      obtain ⟨gw, rfl, cw1⟩ := HWH.out q hq2
      obtain ⟨pq, hpq⟩ : ∃ pq, pos[q] = pq := ⟨_, rfl⟩
      rw [hpq] at ca1
      obtain ⟨sq, hsq⟩ : ∃ sq, bs B[q] = sq := ⟨_, rfl⟩
      rw [hsq] at cw1
      have HPQ := Lib.hid hpq
      have HSQ := Lib.hid hsq
      have i1 : (q : Int) < (np : Int) := by omega
      have i0 : (0 : Int) ≤ (q : Int) := by omega
      clear hpq hsq e0 hk0
      by_cases hh : pq = i
      · have d1 : ((pq : Int) == (i : Int)) = true := beq_iff_eq.2 (by omega)
        have HF := Lib.hid (show sq = so by rw [← HSQ.out, ← HSO.out, HHIT.out q hq1 hq2 (by rw [HPQ.out]; exact hh) (fun j hj hqj => HNO.out j hj (by omega))])
        clear hh
        go_wp2
        go_ret
        exact ⟨by rw [HF.out]; rfl, rfl⟩
      · have d1 : ((pq : Int) == (i : Int)) = false := beq_eq_false_iff_ne.2 (by omega)
        have HNO2 := Lib.hid (show ∀ j (hj : j < pos.length), q ≤ j → pos[j] ≠ i from fun j hj hqj => by
          by_cases e : j = q
          · subst e
            rw [HPQ.out]
            exact hh
          · exact HNO.out j hj (by omega))
        clear hh
        go_wp2
        go_roundw
        case rel => exact ⟨q, by omega, (by first | rfl | go_num), HNO2, trivial⟩
        case measure => simp [intOf]

set_option maxRecDepth 20000 in
set_option maxHeartbeats 2000000 in
theorem refread_any {w : World} {D lo : Nat} {S : List Sec} {va vw : Value} {pos : List Nat} {B : List Sec} (H : RA w D lo S va vw pos B) (hpb : pos.length = B.length) (hm : B.length ≤ 100000) (h64 : ∀ s ∈ S, s.length = 64) (h64B : ∀ s ∈ B, s.length = 64) (f m : Nat) (hm1 : 1 ≤ m) (hfM : f + m ≤ S.length) (hS : S.length ≤ 100000) :
    Calls Try.prog 37 #[.pointer (some ⟨D, 0, none⟩), .int .i64 f, .int .i64 m] w fun e w' => e = .returned (.tuple #[.string (bs (partS (doneS S (pos.zip B)) f m).flatten), .int .i64 0]) ∧ w = w' := by
  have HTH := Lib.hid (ra_there H f m hm1 hfM (by omega))
  have HON := Lib.hid (ra_on H)
  obtain ⟨V, hV⟩ : ∃ V, doneS S (pos.zip B) = V := ⟨_, rfl⟩
  have hVl : V.length = S.length := by rw [← hV, doneS_len]
  have hV64 : ∀ s ∈ V, s.length = 64 := by
    rw [← hV]
    exact doneS_64 h64 (fun x hx => h64B x.2 (List.of_mem_zip hx).2)
  have HSEE := Lib.hid (show ∀ q, q < S.length → Calls Try.prog 52 #[.pointer (some ⟨D, 0, none⟩), .int .i64 q] w fun e w' => e = .returned (.string (bs (V.getD q []))) ∧ w = w' from fun q hq => by
    have h := refsee_any H hpb hm q hq
    rw [hV] at h
    exact h)
  rw [hV]
  obtain ⟨P, hP⟩ : ∃ P, partS V f m = P := ⟨_, rfl⟩
  have hPl : P.length = m := by rw [← hP, partS_len (by omega)]
  have hP64 : ∀ s ∈ P, s.length = 64 := by rw [← hP]; exact partS_64 hV64
  have hPA : ∀ q (hq : q < P.length), P[q] = V.getD (f + q) [] := fun q hq => by
    have h1 : (partS V f m)[q]? = V[f + q]? := by
      unfold partS
      rw [List.getElem?_take_of_lt (by omega), List.getElem?_drop]
    rw [hP, List.getElem?_eq_getElem hq] at h1
    rw [List.getD_eq_getElem?_getD, ← h1]
    rfl
  rw [hP]
  have HBL := Lib.hid hPl
  have H64 := Lib.hid hP64
  have HPA := Lib.hid hPA
  have HVL := Lib.hid hVl
  clear H h64 hV hVl hV64 hP hPl hP64 hPA hpb
  go_enter Try.func37, Try.ntmps37
  go_wp2_with fail
  refine HTH.out.mono ?_
  rintro e w1 ⟨rfl, hw1⟩
  obtain rfl := hw1
  go_wp2_with fail
  refine HON.out.mono ?_
  rintro e w1 ⟨rfl, hw1⟩
  obtain rfl := hw1
  go_wp2
  go_loopw [8, 9] (fun s8 s9 wr => ∃ I : Nat, ∃ st : ByteArray, f ≤ I ∧ I ≤ f + m ∧ s8 = .string st ∧ s9 = .int .i64 (I : Int) ∧ st.size ≤ 64 * I ∧ Hid (st = bs ((P.take (I - f)).flatten)) ∧ wr = w) (fun _ s9 _ => 2000000 - (intOf s9).toNat)
  case atStart => exact ⟨f, _, Nat.le_refl _, by omega, rfl, rfl, Nat.zero_le _, Lib.hid (by simp; rfl), rfl⟩
  case round =>
    obtain ⟨I, st, hI1, hI2, rfl, rfl, hz, HST, rfl⟩ := hrel
    by_cases hlt : I < f + m
    · have f1 : decide ((I : Int) < (f : Int) + (m : Int)) = true := decide_eq_true (by omega)
      have hIl : I - f < P.length := by have := HBL.out; omega
      have hsee := HSEE.out I (by omega)
      have hpi := HPA.out (I - f) hIl
      rw [show f + (I - f) = I by omega] at hpi
      rw [← hpi] at hsee
      obtain ⟨sx, hsx⟩ : ∃ s, s = bs (P[I - f]) := ⟨_, rfl⟩
      rw [← hsx] at hsee
      have hzx : sx.size = 64 := by rw [hsx, bs_size]; exact H64.out _ (List.getElem_mem _)
      have hbd : st.size + sx.size < 9223372036854775808 := by omega
      have HSX := Lib.hid (show ∃ x, P[I - f]? = some x ∧ sx = bs x from ⟨_, List.getElem?_eq_getElem _, hsx⟩)
      have HZX := Lib.hid hzx
      clear hsx hzx hpi
      go_wp2_with fail
      refine hsee.mono ?_
      rintro e w1 ⟨rfl, hw1⟩
      obtain rfl := hw1
      go_wp2
      go_roundw
      case rel =>
        refine ⟨I + 1, _, by omega, by omega, rfl, by go_num, by rw [ByteArray.size_append, HZX.out]; omega, Lib.hid ?_, trivial⟩
        obtain ⟨x, hx1, hx2⟩ := HSX.out
        rw [HST.out, hx2, bs_app, show I + 1 - f = (I - f) + 1 by omega, List.take_add_one, hx1]
        simp
      case measure => simp [intOf]; omega
    · have f1 : decide ((I : Int) < (f : Int) + (m : Int)) = false := decide_eq_false (by omega)
      have HFIN := Lib.hid (show st = bs P.flatten by rw [HST.out, List.take_of_length_le (by rw [HBL.out]; omega)])
      go_wp2
      go_ret2
      exact ⟨by rw [HFIN.out]; rfl, rfl⟩
end Go.Proofs.Ytgcifhhbhoafcaa

namespace Go.Proofs.Ytgcifhhbhoafcaa
open Go.RowKit Go.Shelf
attribute [local go_sem] Oper.semAt_some

theorem results_open4 {fn : Func} {t u v x : Tmp} {ty : TypeId} (h : fn.results = #[.tmp t, .cell u ty, .tmp v, .tmp x]) (tmps : Array Value) (P : Program) (w : World) (ad : Addr) (y : Value) (ha : tmps.getD u undef = .pointer (some ad)) (hl : (loadVar ty ad).run P w = .ok y w) : (results fn tmps).run P w = .ok (.tuple #[tmps.getD t undef, y, tmps.getD v undef, tmps.getD x undef]) w := by
  simp only [Array.getD_eq_getD_getElem?] at ha
  simp [results, h, ha, hl, asAddr]
/-- The record of the reference's slots. -/
def RSl (w : World) (P D f m gn : Nat) : Prop := w.heap[P]? = some (.cells #[.pointer (some ⟨D, 0, none⟩), .int .i64 f, .int .i64 m, .int .i64 gn, .bool false] 56 (0, 0))
theorem RSl.cells {w : World} {P D f m gn : Nat} (H : RSl w P D f m gn) : w.cell? ⟨P, 2, none⟩ = some (.int .i64 m) ∧ w.cell? ⟨P, 3, none⟩ = some (.int .i64 gn) := by
  refine ⟨?_, ?_⟩ <;> (rw [cell_in H]; rfl)
theorem rroom_any {w : World} {P D f m gn : Nat} (h1 : 1 ≤ m) (h2 : m ≤ 100000) (H : RSl w P D f m gn) :
    Calls Try.prog 24 #[.pointer (some ⟨P, 0, none⟩)] w fun e w' => e = .returned (.int .i64 (roomS m)) ∧ w = w' := by
  have k2 := H.cells.1
  obtain ⟨q, hq⟩ : ∃ q, q = (m - 1) * 64 := ⟨_, rfl⟩
  have e1 : (64 : Int) * ((m : Int) - 1) = (q : Int) := by omega
  have hr : roomS m = min q 1048576 := by rw [hq]; rfl
  have hqb : q ≤ 10000000 := by omega
  rw [hr]
  clear H hr hq
  by_cases hb : 1048576 < q
  · have d1 : decide ((1048576 : Int) < (q : Int)) = true := decide_eq_true (by omega)
    have d1' : decide (1048576 < q) = true := decide_eq_true hb
    rw [Nat.min_eq_right (by omega)]
    go_enter Try.func24, Try.ntmps24
    go_wp2
    go_ret
    exact ⟨rfl, rfl⟩
  · have d1 : decide ((1048576 : Int) < (q : Int)) = false := decide_eq_false (by omega)
    have d1' : decide (1048576 < q) = false := decide_eq_false hb
    rw [Nat.min_eq_left (by omega)]
    go_enter Try.func24, Try.ntmps24
    go_wp2
    go_ret
    exact ⟨rfl, rfl⟩
theorem flatten_take (V : List Sec) (h64 : ∀ s ∈ V, s.length = 64) (k : Nat) (hk : k ≤ V.length) : V.flatten.take (k * 64) = (V.take k).flatten ∧ V.flatten.drop (k * 64) = (V.drop k).flatten := by
  have e : V.flatten = (V.take k).flatten ++ (V.drop k).flatten := by rw [← List.flatten_append, List.take_append_drop]
  have hl : (V.take k).flatten.length = k * 64 := by rw [flat_64 _ (fun s hs => h64 s (List.mem_of_mem_take hs)), List.length_take]; congr 1; omega
  rw [e]
  exact ⟨by rw [← hl, List.take_left], by rw [← hl, List.drop_left]⟩
theorem cur_gen (m : Nat) (S : List Sec) : genOf (cur m S) < 9223372036854775808 := best_gen m S 2

theorem RHeld.chg {lo : Nat} {W W' : World} {b : Option Ck} {q : Option Addr} {ex : Nat → Prop} (H : RHeld lo W b q) (hc : Chg ex W W') (hn : ∀ k, lo ≤ k → ¬ ex k) : RHeld lo W' b q := ⟨H.1.chg hc (fun k o e => hn k (H.2 k o e)), H.2⟩
theorem RHeld.low {lo lo' : Nat} {W : World} {b : Option Ck} {q : Option Addr} (H : RHeld lo W b q) (h : lo' ≤ lo) : RHeld lo' W b q := ⟨H.1, fun k o e => Nat.le_trans h (H.2 k o e)⟩
theorem RHeld.none (lo : Nat) (W : World) : RHeld lo W none none := ⟨fun h => by simp [bodyOf] at h, fun b o e => by cases e⟩

set_option maxRecDepth 20000 in
set_option maxHeartbeats 8000000 in
theorem ropen_any {w : World} {D lo : Nat} {S : List Sec} {va vw : Value} {pos : List Nat} {B : List Sec} (H : RA w D lo S va vw pos B) (hpb : pos.length = B.length) (hbm : B.length ≤ 100000) (h64 : ∀ s ∈ S, s.length = 64) (h64B : ∀ s ∈ B, s.length = 64) (m : Nat) (hm1 : 1 ≤ m) (hmb : m ≤ 10000) (hS : 2 * m ≤ S.length) (hS2 : S.length ≤ 100000) :
    Calls Try.prog 20 #[.pointer (some ⟨D, 0, none⟩), .int .i64 0, .int .i64 m] w fun e w' => ∃ P q cap, e = .returned (.tuple #[.pointer (some ⟨P, 0, none⟩), .agg (entR (cur m (partS (doneS S (pos.zip B)) 0 (2 * m))) q cap), .bool (cur m (partS (doneS S (pos.zip B)) 0 (2 * m))).isSome, .int .i64 0]) ∧ RSl w' P D 0 m (genOf (cur m (partS (doneS S (pos.zip B)) 0 (2 * m)))) ∧ w.heap.size ≤ P ∧ Below w.heap.size w w' ∧ RHeld w.heap.size w' (cur m (partS (doneS S (pos.zip B)) 0 (2 * m))) q := by
  obtain ⟨N, hN⟩ : ∃ N, N = 2 * m := ⟨_, rfl⟩
  have hNi : (2 : Int) * (m : Int) = (N : Int) := by omega
  have hrd := fun W (HW : RA W D lo S va vw pos B) => refread_any HW hpb hbm h64 h64B 0 N (by omega) (by omega) hS2
  obtain ⟨V, hV⟩ : ∃ V, partS (doneS S (pos.zip B)) 0 N = V := ⟨_, rfl⟩
  have hVl : V.length = N := by rw [← hV]; exact partS_len (by rw [doneS_len]; omega)
  have hV64 : ∀ s ∈ V, s.length = 64 := by rw [← hV]; exact partS_64 (doneS_64 h64 (fun x hx => h64B x.2 (List.of_mem_zip hx).2))
  rw [← hN, hV]
  rw [hV] at hrd
  have hVl2 : V.length = 2 * m := by omega
  obtain ⟨r0, e0, hr0⟩ := sl_split hVl2 hm1 0 (by omega)
  obtain ⟨r1, e1, hr1⟩ := sl_split hVl2 hm1 1 (by omega)
  obtain ⟨h0, hh0⟩ : ∃ h0, hdAt m V 0 = h0 := ⟨_, rfl⟩
  obtain ⟨h1, hh1⟩ : ∃ h1, hdAt m V 1 = h1 := ⟨_, rfl⟩
  rw [hh0] at e0
  rw [hh1] at e1
  have eT : V.take m = h0 :: r0 := by rw [← e0]; unfold sl; rw [Nat.zero_mul, List.drop_zero]
  have eD : V.drop m = h1 :: r1 := by
    rw [← e1]
    unfold sl
    rw [Nat.one_mul, List.take_of_length_le (by rw [List.length_drop]; omega)]
  have hl0 : h0.length = 64 := hV64 h0 (List.mem_of_mem_take (by rw [eT]; exact List.mem_cons_self))
  have hl1 : h1.length = 64 := hV64 h1 (List.mem_of_mem_drop (by rw [eD]; exact List.mem_cons_self))
  have hd0 : r0.flatten.length = (m - 1) * 64 := by
    rw [flat_64 _ (fun s hs => hV64 s (List.mem_of_mem_take (by rw [eT]; exact List.mem_cons_of_mem _ hs)))]
    congr 1
    omega
  have hd1 : r1.flatten.length = (m - 1) * 64 := by
    rw [flat_64 _ (fun s hs => hV64 s (List.mem_of_mem_drop (by rw [eD]; exact List.mem_cons_of_mem _ hs)))]
    congr 1
    omega
  obtain ⟨x, hx⟩ : ∃ x, chkB 0 h0 r0.flatten m = x := ⟨_, rfl⟩
  obtain ⟨y, hy⟩ : ∃ y, chkB 1 h1 r1.flatten m = y := ⟨_, rfl⟩
  have hcx : chk 0 (V.take m) = x := by rw [eT, ← hx, ← hr0]; rfl
  have hcy : chk 1 ((V.drop m).take m) = y := by rw [List.take_of_length_le (by rw [List.length_drop]; omega), eD, ← hy, ← hr1]; rfl
  have hnew : cur m V = if y.isSome = true ∧ genOf x < genOf y then y else x := by
    unfold cur
    rw [hcx, hcy]
    exact newer_eq x y (fun c hc => by rw [hc] at hcy; exact (chk_pos hcy).1)
  have hyg : ∀ c, y = some c → 1 ≤ c.g := fun c hc => by rw [hc] at hcy; exact (chk_pos hcy).1
  have hgx : genOf x < 9223372036854775808 := by rw [← hcx]; exact gen_lt
  have hgy : genOf y < 9223372036854775808 := by rw [← hcy]; exact gen_lt
  obtain ⟨c, hc⟩ : ∃ c, cur m V = c := ⟨_, rfl⟩
  rw [hc] at hnew ⊢
  have hs0 := fun W => rsave_any 0 (by decide) h0 hl0 r0.flatten m hm1 hd0 hmb W
  have hs1 := fun W => rsave_any 1 (by decide) h1 hl1 r1.flatten m hm1 hd1 hmb W
  rw [hx] at hs0
  rw [hy] at hs1
  obtain ⟨s, hs⟩ : ∃ s, s = m * 64 := ⟨_, rfl⟩
  have hsi : (64 : Int) * (m : Int) = (s : Int) := by omega
  obtain ⟨st, hst⟩ : ∃ st, bs V.flatten = st := ⟨_, rfl⟩
  have hsz : st.size = 2 * s := by rw [← hst, bs_size, flat_64 _ hV64]; omega
  have hft := flatten_take V hV64 m (by omega)
  rw [← hs] at hft
  have y1 : st.extract 0 s = bs (h0 ++ r0.flatten) := by rw [← hst, bs_to, hft.1, eT]; rfl
  have y2 : st.extract s st.size = bs (h1 ++ r1.flatten) := by rw [← hst, bs_from _ _ _ (by rw [bs_size]), hft.2, eD]; rfl
  have y3 : st.extract s (2 * s) = bs (h1 ++ r1.flatten) := by rw [← hsz]; exact y2
  obtain ⟨sA, hsA⟩ : ∃ sA, bs (h0 ++ r0.flatten) = sA := ⟨_, rfl⟩
  obtain ⟨sB, hsB⟩ : ∃ sB, bs (h1 ++ r1.flatten) = sB := ⟨_, rfl⟩
  rw [hsA] at y1 hs0
  rw [hsB] at y2 y3 hs1
  rw [hst] at hrd
  have i1 : (s : Int) ≤ (st.size : Int) := by omega
  have i2 : s ≤ st.size := by omega
  have hsb : s ≤ 640000 := by omega
  have d1 : decide ((m : Int) < 1) = false := decide_eq_false (by omega)
  have d2 : decide ((65536 : Int) < (m : Int)) = false := decide_eq_false (by omega)
  have d2' : decide (65536 < m) = false := decide_eq_false (by omega)
  have hbA : Below w.heap.size w (w.alloc (.cells #[.int .i64 0, .slice none 0 0] 48)) := bA (Below.refl _ _) _
  have hrd1 := hrd _ (H.on hbA)
  obtain ⟨X, hX⟩ : ∃ X, w.heap.size = X := ⟨_, rfl⟩
  have HX := Lib.hid hX
  obtain ⟨w1, hw1⟩ : ∃ w1, (w.alloc (.cells #[.int .i64 0, .slice none 0 0] 48)).alloc (.cells #[.pointer (some ⟨D, 0, none⟩), .int .i64 0, .int .i64 (m : Int), .int .i64 0, .bool false] 56) = w1 := ⟨_, rfl⟩
  have hb1 : Below w.heap.size w w1 := by rw [← hw1]; exact bA hbA _
  have hX1 : w1.heap[X]? = some (.cells #[.int .i64 0, .slice none 0 0] 48 (0, 0)) := by
    rw [← hw1, ← hX, Below.heap_alloc _ _ _ (by simp)]
    exact heap_new w _
  have hP1 : w1.heap[X + 1]? = some (.cells #[.pointer (some ⟨D, 0, none⟩), .int .i64 0, .int .i64 (m : Int), .int .i64 0, .bool false] 56 (0, 0)) := by
    rw [← hw1, ← hX]
    have := heap_new (w.alloc (.cells #[.int .i64 0, .slice none 0 0] 48)) (.cells #[.pointer (some ⟨D, 0, none⟩), .int .i64 0, .int .i64 (m : Int), .int .i64 0, .bool false] 56)
    simpa using this
  have HX1 := Lib.hid hX1
  have HP1 := Lib.hid hP1
  have HB1 := Lib.hid hb1
  have HW1 := Lib.hid hw1
  have HNEW := Lib.hid hnew
  have HYG := Lib.hid hyg
  clear H hrd hV hVl hV64 hVl2 e0 hr0 e1 hr1 hh0 hh1 eT eD hl0 hl1 hd0 hd1 hx hy hcx hcy hnew hyg hc hs hst hft hsA hsB hbA hw1 hb1 hX1 hP1 hN h64 h64B hpb hS
  go_enter Try.func20, Try.ntmps20
  go_wp2_with fail
  refine hrd1.mono ?_
  clear hrd1
  rintro e w2 ⟨rfl, hw2⟩
  obtain rfl := hw2
  clear hsz
  go_wp2_with fail
  first | rw [HW1.out] | skip
  first | rw [hX] | skip
  clear hX
  refine (hs0 w1).mono ?_
  clear hs0
  rintro e w2 ⟨qx, cx, rfl, hb2, hhx⟩
  obtain ⟨t0, ht0⟩ : ∃ t0, stOf x = t0 := ⟨_, rfl⟩
  obtain ⟨l0, hl0⟩ : ∃ l0, (bodyOf x).length = l0 := ⟨_, rfl⟩
  obtain ⟨g0, hg0⟩ : ∃ g0, genOf x = g0 := ⟨_, rfl⟩
  obtain ⟨ok0, hok0⟩ : ∃ ok0, x.isSome = ok0 := ⟨_, rfl⟩
  obtain ⟨t1, ht1⟩ : ∃ t1, stOf y = t1 := ⟨_, rfl⟩
  obtain ⟨l1, hl1⟩ : ∃ l1, (bodyOf y).length = l1 := ⟨_, rfl⟩
  obtain ⟨g1, hg1⟩ : ∃ g1, genOf y = g1 := ⟨_, rfl⟩
  obtain ⟨ok1, hok1⟩ : ∃ ok1, y.isSome = ok1 := ⟨_, rfl⟩
  have HE0 := Lib.hid (show entR x qx cx = #[.int .i64 (t0 : Int), .slice qx l0 cx] by unfold entR; rw [ht0, hl0])
  have HE1 := fun q c => Lib.hid (show entR y q c = #[.int .i64 (t1 : Int), .slice q l1 c] by unfold entR; rw [ht1, hl1])
  have hgx0 : g0 < 9223372036854775808 := by rw [← hg0]; exact hgx
  have hgy0 : g1 < 9223372036854775808 := by rw [← hg1]; exact hgy
  have HG0 := Lib.hid hg0
  have HG1 := Lib.hid hg1
  have HO0 := Lib.hid hok0
  have HO1 := Lib.hid hok1
  unfold entR
  unfold entR at hs1
  rw [ht0, hl0, hg0, hok0]
  rw [ht1, hl1, hg1, hok1] at hs1
  obtain ⟨w3, hw3⟩ : ∃ w3, (w2.alloc (.cells #[.int .i64 (t0 : Int), .slice qx l0 cx] 48)) = w3 := ⟨_, rfl⟩
  have hb3 : Below w2.heap.size w2 w3 := by rw [← hw3]; exact bA (Below.refl _ _) _
  have hE3 : w3.heap[w2.heap.size]? = some (.cells #[.int .i64 (t0 : Int), .slice qx l0 cx] 48 (0, 0)) := by rw [← hw3]; exact heap_new w2 _
  have HB3 := Lib.hid hb3
  have HB2 := Lib.hid hb2
  have HHX := Lib.hid hhx
  have HE3 := Lib.hid hE3
  have HW3 := Lib.hid hw3
  clear hb3 hE3 hw3 hb2 hhx hgx hgy hg0 hg1 hok0 hok1 ht0 hl0 ht1 hl1
  go_wp2_with fail
  refine (hs1 _).mono ?_
  clear hs1
  rw [HW3.out]
  rintro e w4 ⟨qy, cy, rfl, hb4, hhy⟩
  obtain ⟨w5, hw5⟩ : ∃ w5, (w4.alloc (.cells #[.int .i64 (t1 : Int), .slice qy l1 cy] 48)) = w5 := ⟨_, rfl⟩
  have hb5 : Below w4.heap.size w4 w5 := by rw [← hw5]; exact bA (Below.refl _ _) _
  have hY5 : w5.heap[w4.heap.size]? = some (.cells #[.int .i64 (t1 : Int), .slice qy l1 cy] 48 (0, 0)) := by rw [← hw5]; exact heap_new w4 _
  have hc3 := Chg.below HB3.out (fun _ => False)
  have hc2 := Chg.below HB2.out (fun _ => False)
  have hc4 := Chg.below hb4 (fun _ => False)
  have hc5 := Chg.below hb5 (fun _ => False)
  have hZ5 := hc5.box (hc4.box HE3.out (fun e => e)) (fun e => e)
  have hP5 := hc5.box (hc4.box (hc3.box (hc2.box HP1.out (fun e => e)) (fun e => e)) (fun e => e)) (fun e => e)
  have hX5 := hc5.box (hc4.box (hc3.box (hc2.box HX1.out (fun e => e)) (fun e => e)) (fun e => e)) (fun e => e)
  have hhy5 := (hhy.on hb5)
  have hhx5 := (((HHX.out.on HB3.out).on hb4).on hb5)
  have hs1' := HB1.out.size
  have hs2' := HB2.out.size
  have hs3' := HB3.out.size
  have hs4' := hb4.size
  have hs5' := hb5.size
  have hXs := HX.out
  have hXl1 : X + 1 < w1.heap.size := (Array.getElem?_eq_some_iff.1 HP1.out).1
  have hZl : w2.heap.size < w3.heap.size := (Array.getElem?_eq_some_iff.1 HE3.out).1
  obtain ⟨Z, hZ⟩ : ∃ Z, w2.heap.size = Z := ⟨_, rfl⟩
  obtain ⟨Y, hY⟩ : ∃ Y, w4.heap.size = Y := ⟨_, rfl⟩
  rw [hZ] at hZ5 hs2' hs3' hZl
  rw [hY] at hY5 hs4' hs5'
  have hB5 : Below w.heap.size w w5 := (((HB1.out.trans (HB2.out.mono HB1.out.size)).trans (HB3.out.mono (by omega))).trans (hb4.mono (by omega))).trans (hb5.mono (by omega))
  have HB5 := Lib.hid hB5
  have n1 : Z ≠ X := by omega
  have n2 : Z ≠ X + 1 := by omega
  have n3 : Y ≠ X := by omega
  have n4 : Y ≠ X + 1 := by omega
  have n5 : Y ≠ Z := by omega
  have hlo : X ≤ Z := by omega
  have HHX5 := Lib.hid (show RHeld w1.heap.size w5 x qx from hhx5)
  have HHY5 := Lib.hid (show RHeld w3.heap.size w5 y qy from hhy5)
  have HL1 := Lib.hid (show X + 2 ≤ w1.heap.size from by omega)
  have HL3 := Lib.hid (show Z + 1 ≤ w3.heap.size from by omega)
  have HLX := Lib.hid (show X + 2 ≤ Z from by omega)
  have HZ5 := Lib.hid hZ5
  have HY5 := Lib.hid hY5
  have HP5 := Lib.hid hP5
  have HX5 := Lib.hid hX5
  rw [hZ]
  have HZE := Lib.hid hZ
  have HYE := Lib.hid hY
  have HW5 := Lib.hid hw5
  have ky0 : w5.cell? ⟨Y, 0, none⟩ = some (.int .i64 (t1 : Int)) := by rw [cell_in hY5]; rfl
  have ky1 : w5.cell? ⟨Y, 1, none⟩ = some (.slice qy l1 cy) := by rw [cell_in hY5]; rfl
  have kz0 : w5.cell? ⟨Z, 0, none⟩ = some (.int .i64 (t0 : Int)) := by rw [cell_in hZ5]; rfl
  have kz1 : w5.cell? ⟨Z, 1, none⟩ = some (.slice qx l0 cx) := by rw [cell_in hZ5]; rfl
  have fz0 := frozen_in hZ5 0
  have fz1 := frozen_in hZ5 1
  have kx0 : w5.cell? ⟨X, 0, none⟩ = some (.int .i64 0) := by rw [cell_in hX5]; rfl
  have kx1 : w5.cell? ⟨X, 1, none⟩ = some (.slice none 0 0) := by rw [cell_in hX5]; rfl
  have fx0 := frozen_in hX5 0
  have fx1 := frozen_in hX5 1
  have kp3 : w5.cell? ⟨X + 1, 3, none⟩ = some (.int .i64 0) := by rw [cell_in hP5]; rfl
  have fp3 := frozen_in hP5 3
  rw [← hw5] at ky0 ky1 kz0 kz1 fz0 fz1 kx0 kx1 fx0 fx1 kp3 fp3
  clear hw5 hb5 hc2 hc3 hc4 hc5 hZ5 hP5 hX5 hhy5 hhx5 hs1' hs2' hs3' hs4' hs5' hXs hXl1 hZl hZ hY5 hB5 hb4 hhy HE3 HHX HX1 HP1 HB1 HB2 HB3
  cases ok1
  · cases ok0
    · go_wp2
      rw [HW5.out]
      have hX9 := set2s_heap HX5.out (.int .i64 0) (.slice none 0 0)
      have hc9 : Chg (fun k => k = X) w5 ((w5.setCell ⟨X, 0, none⟩ (.int .i64 0)).setCell ⟨X, 1, none⟩ (.slice none 0 0)) := (Chg.setCell w5 ⟨X, 0, none⟩ _).trans (Chg.setCell _ ⟨X, 1, none⟩ _)
      refine bodyPost_ret (results_open4 rfl _ _ _ ⟨X, 0, none⟩ _ rfl (load2e hX9)) rfl ?_
      have hx : x = none := by cases x with
        | none => rfl
        | some v => have := HO0.out; cases this
      have hcn : c = none := by rw [HNEW.out, if_neg (fun e => by have := e.1; rw [HO1.out] at this; cases this), hx]
      rw [hcn]
      refine ⟨X + 1, none, 0, rfl, hc9.box HP5.out (by omega), by rw [HX.out]; exact Nat.le_succ _, hc9.on HB5.out HB5.out.size (fun k e => by rw [e, HX.out]; exact Nat.le_refl _), RHeld.none _ _⟩
    · go_wp2_with fail
      rw [HW5.out]
      obtain ⟨w7, hw7⟩ : ∃ w7, w5.setCell ⟨X + 1, 3, none⟩ (.int .i64 (g0 : Int)) = w7 := ⟨_, rfl⟩
      have hc7 : Chg (fun k => k = X + 1) w5 w7 := by rw [← hw7]; exact Chg.setCell w5 ⟨X + 1, 3, none⟩ _
      have hX7 := hc7.box HX5.out (by omega)
      have hZ7 := hc7.box HZ5.out n2
      have hP7 : w7.heap[X + 1]? = some (.cells #[.pointer (some ⟨D, 0, none⟩), .int .i64 0, .int .i64 (m : Int), .int .i64 (g0 : Int), .bool false] 56 (0, 0)) := by rw [← hw7]; exact heap_set HP5.out _
      have hB7 := hc7.on HB5.out HB5.out.size (fun k e => by have e' : k = X + 1 := e; rw [e', HX.out]; exact Nat.le_succ _)
      have hl1 := HL1.out
      have hcx : c = x := by rw [HNEW.out]; exact if_neg (fun e => by have := e.1; rw [HO1.out] at this; cases this)
      have hH7 : RHeld (X + 2) w7 c qx := by rw [hcx]; exact (HHX5.out.chg hc7 (fun k hk e => by have e' : k = X + 1 := e; omega)).low hl1
      have HCE := Lib.hid (show entR c qx cx = #[.int .i64 (t0 : Int), .slice qx l0 cx] from by rw [hcx]; exact HE0.out)
      have HCS := Lib.hid (show c.isSome = true from by rw [hcx]; exact HO0.out)
      have HCG := Lib.hid (show genOf c = g0 from by rw [hcx]; exact HG0.out)
      rw [hw7]
      clear hc7 hcx hl1 hY
      clear ky0 ky1 kz0 kz1 fz0 fz1 kx0 kx1 fx0 fx1 kp3 fp3
      obtain ⟨w8, hw8⟩ : ∃ w8, w7.drew = w8 := ⟨_, rfl⟩
      have hb8 : Below w7.heap.size w7 w8 := by rw [← hw8]; exact bD (Below.refl _ _)
      have hc8 := Chg.below hb8 (fun _ => False)
      have hX8 := hc8.box hX7 (fun e => e)
      have hZ8 := hc8.box hZ7 (fun e => e)
      have hP8 := hc8.box hP7 (fun e => e)
      have kx0 : w8.cell? ⟨X, 0, none⟩ = some (.int .i64 0) := by rw [cell_in hX8]; rfl
      have kx1 : w8.cell? ⟨X, 1, none⟩ = some (.slice none 0 0) := by rw [cell_in hX8]; rfl
      have fx0 := frozen_in hX8 0
      have fx1 := frozen_in hX8 1
      have hX9 := set2s_heap hX8 (.int .i64 (t0 : Int)) (.slice qx l0 cx)
      have hc9 : Chg (fun k => k = X) w8 ((w8.setCell ⟨X, 0, none⟩ (.int .i64 (t0 : Int))).setCell ⟨X, 1, none⟩ (.slice qx l0 cx)) := (Chg.setCell w8 ⟨X, 0, none⟩ _).trans (Chg.setCell _ ⟨X, 1, none⟩ _)
      have k30 : w7.cell? ⟨Z, 0, none⟩ = some (.int .i64 (t0 : Int)) := by rw [cell_in hZ7]; rfl
      have k31 : w7.cell? ⟨Z, 1, none⟩ = some (.slice qx l0 cx) := by rw [cell_in hZ7]; rfl
      have hH8 := hH7.on hb8
      have hB8 := hB7.trans (hb8.mono hB7.size)
      have HW8 := Lib.hid hw8
      have HX8 := Lib.hid hX8
      have HZ8 := Lib.hid hZ8
      have HP8 := Lib.hid hP8
      have HX9 := Lib.hid hX9
      have HC9 := Lib.hid hc9
      have HH8 := Lib.hid hH8
      have HB8 := Lib.hid hB8
      clear hb8 hc8 hX8 hZ8 hP8 hX9 hc9 hH8 hB8 hw8 hX7 hZ7 hP7 hH7 hB7 hw7
      refine wp_region_noPanic ?_
      refine wp_region_held_drew (S := fun W => W.cell? ⟨Z, 0, none⟩ = some (.int .i64 (t0 : Int)) ∧ W.cell? ⟨Z, 1, none⟩ = some (.slice qx l0 cx)) (by kernel_rfl) (⟨k30, k31⟩) (fun hHeld => ?_)
      refine wpAnyH_take (i := 0) (v := ?_) rfl (by kernel_rfl) (by kernel_rfl) (by kernel_rfl) (fun _ _ _ h => h) (Or.inl ⟨by rfl, ?_⟩) (by assumption) ?_
      rotate_left
      · (intro w hSw; (try dsimp only at hSw); go_simp; try (with_reducible rfl))
      try simp only [Act.put, List.setIfInBounds_toArray, List.set_cons_zero, List.set_cons_succ, List.getElem_toArray, List.getElem_cons_zero]
      refine wpAnyH_take (i := 1) (v := ?_) rfl (by kernel_rfl) (by kernel_rfl) (by kernel_rfl) (fun _ _ _ h => h) (Or.inl ⟨by rfl, ?_⟩) (by assumption) ?_
      rotate_left
      · (intro w hSw; (try dsimp only at hSw); go_simp; try (with_reducible rfl))
      try simp only [Act.put, List.setIfInBounds_toArray, List.set_cons_zero, List.set_cons_succ, List.getElem_toArray, List.getElem_cons_zero, List.getElem_cons_succ]
      refine wpAnyH_ready (rs := [2]) (by kernel_rfl) (by simp) ?_
      refine AllReadyH.cons rfl (fun K hK => ?_) AllReadyH.nil
      go_simp
      rw [HW8.out]
      refine hK.out _ _ ((by exact ⟨by rw [cell_in HZ8.out]; rfl, by rw [cell_in HZ8.out]; rfl⟩)) (fun hHeld2 => ?_)
      clear hK K hHeld
      have hHeld := hHeld2
      clear hHeld2
      try simp only [Act.put, List.setIfInBounds_toArray, List.set_cons_zero, List.set_cons_succ, List.getElem_toArray, List.getElem_cons_zero, List.getElem_cons_succ]
      refine wpAnyH_ready (rs := [3]) (by kernel_rfl) (by simp) ?_
      refine AllReadyH.cons rfl (fun K hK => ?_) AllReadyH.nil
      go_simp
      refine hK.out _ _ ((by have h1 := HC9.out.box HZ8.out (by omega); exact ⟨by rw [cell_in h1]; rfl, by rw [cell_in h1]; rfl⟩)) (fun hHeld2 => ?_)
      clear hK K hHeld
      have hHeld := hHeld2
      clear hHeld2
      try simp only [Act.put, List.setIfInBounds_toArray, List.set_cons_zero, List.set_cons_succ, List.getElem_toArray, List.getElem_cons_zero, List.getElem_cons_succ]
      refine wpAnyH_ready (rs := [4]) (by kernel_rfl) (by simp) ?_
      refine AllReadyH.cons rfl (fun K hK => ?_) AllReadyH.nil
      go_simp
      refine hK.out _ _ (hHeld) (fun hHeld2 => ?_)
      clear hK K hHeld
      have hHeld := hHeld2
      clear hHeld2
      try simp only [Act.put, List.setIfInBounds_toArray, List.set_cons_zero, List.set_cons_succ, List.getElem_toArray, List.getElem_cons_zero, List.getElem_cons_succ]
      refine wpAnyH_ready (rs := [5]) (by kernel_rfl) (by simp) ?_
      refine AllReadyH.cons rfl (fun K hK => ?_) AllReadyH.nil
      go_simp
      refine hK.out _ _ (hHeld) (fun hHeld2 => ?_)
      clear hK K hHeld
      have hHeld := hHeld2
      clear hHeld2
      try simp only [Act.put, List.setIfInBounds_toArray, List.set_cons_zero, List.set_cons_succ, List.getElem_toArray, List.getElem_cons_zero, List.getElem_cons_succ]
      refine wpAnyH_done (by kernel_rfl) ?_ _
      refine NoPanic.normal ?_
      clear hHeld
      go_wp2
      refine bodyPost_ret (results_open4 rfl _ _ _ ⟨X, 0, none⟩ _ rfl (load2e HX9.out)) rfl ?_
      refine ⟨X + 1, qx, cx, by rw [HCE.out, HCS.out]; rfl, by rw [HCG.out]; exact HC9.out.box HP8.out (by omega), by rw [HX.out]; exact Nat.le_succ _, ?_, ?_⟩
      · exact HC9.out.on HB8.out HB8.out.size (fun k e => by rw [e, HX.out]; exact Nat.le_refl _)
      · have hxs := HX.out
        exact (HH8.out.chg HC9.out (fun k hk e => by have e' : k = X := e; omega)).low (by omega)
  · by_cases hlt : g0 < g1
    · have d3 : decide ((g0 : Int) < (g1 : Int)) = true := decide_eq_true (by omega)
      have d3' : decide (g0 < g1) = true := decide_eq_true hlt
      cases ok0
      · go_wp2_with fail
        rw [HW5.out]
        obtain ⟨w7, hw7⟩ : ∃ w7, ((w5.setCell ⟨Z, 0, none⟩ (.int .i64 (t1 : Int))).setCell ⟨Z, 1, none⟩ (.slice qy l1 cy)).setCell ⟨X + 1, 3, none⟩ (.int .i64 (g1 : Int)) = w7 := ⟨_, rfl⟩
        have hc6 : Chg (fun k => k = Z) w5 ((w5.setCell ⟨Z, 0, none⟩ (.int .i64 (t1 : Int))).setCell ⟨Z, 1, none⟩ (.slice qy l1 cy)) := (Chg.setCell w5 ⟨Z, 0, none⟩ _).trans (Chg.setCell _ ⟨Z, 1, none⟩ _)
        have hc7 : Chg (fun k => k = X + 1) ((w5.setCell ⟨Z, 0, none⟩ (.int .i64 (t1 : Int))).setCell ⟨Z, 1, none⟩ (.slice qy l1 cy)) w7 := by rw [← hw7]; exact Chg.setCell _ ⟨X + 1, 3, none⟩ _
        have hX7 := hc7.box (hc6.box HX5.out (by omega)) (by omega)
        have hZ7 := hc7.box (set2s_heap HZ5.out (.int .i64 (t1 : Int)) (.slice qy l1 cy)) n2
        have hP7 : w7.heap[X + 1]? = some (.cells #[.pointer (some ⟨D, 0, none⟩), .int .i64 0, .int .i64 (m : Int), .int .i64 (g1 : Int), .bool false] 56 (0, 0)) := by rw [← hw7]; exact heap_set (hc6.box HP5.out (by omega)) _
        have hB6 := hc6.on HB5.out HB5.out.size (fun k e => by have e' : k = Z := e; rw [e', HX.out]; exact hlo)
        have hB7 := hc7.on hB6 hB6.size (fun k e => by have e' : k = X + 1 := e; rw [e', HX.out]; exact Nat.le_succ _)
        have hl3 := HL3.out
        have hlx := HLX.out
        have hcy : c = y := by rw [HNEW.out]; exact if_pos ⟨HO1.out, by rw [HG0.out, HG1.out]; exact hlt⟩
        have hH7 : RHeld (X + 2) w7 c qy := by rw [hcy]; exact ((HHY5.out.chg hc6 (fun k hk e => by have e' : k = Z := e; omega)).chg hc7 (fun k hk e => by have e' : k = X + 1 := e; omega)).low (by omega)
        have HCE := Lib.hid (show entR c qy cy = #[.int .i64 (t1 : Int), .slice qy l1 cy] from by rw [hcy]; exact (HE1 qy cy).out)
        have HCS := Lib.hid (show c.isSome = true from by rw [hcy]; exact HO1.out)
        have HCG := Lib.hid (show genOf c = g1 from by rw [hcy]; exact HG1.out)
        rw [hw7]
        clear hc6 hc7 hcy hl3 hlx hB6 hY
        clear ky0 ky1 kz0 kz1 fz0 fz1 kx0 kx1 fx0 fx1 kp3 fp3
        obtain ⟨w8, hw8⟩ : ∃ w8, w7.drew = w8 := ⟨_, rfl⟩
        have hb8 : Below w7.heap.size w7 w8 := by rw [← hw8]; exact bD (Below.refl _ _)
        have hc8 := Chg.below hb8 (fun _ => False)
        have hX8 := hc8.box hX7 (fun e => e)
        have hZ8 := hc8.box hZ7 (fun e => e)
        have hP8 := hc8.box hP7 (fun e => e)
        have kx0 : w8.cell? ⟨X, 0, none⟩ = some (.int .i64 0) := by rw [cell_in hX8]; rfl
        have kx1 : w8.cell? ⟨X, 1, none⟩ = some (.slice none 0 0) := by rw [cell_in hX8]; rfl
        have fx0 := frozen_in hX8 0
        have fx1 := frozen_in hX8 1
        have hX9 := set2s_heap hX8 (.int .i64 (t1 : Int)) (.slice qy l1 cy)
        have hc9 : Chg (fun k => k = X) w8 ((w8.setCell ⟨X, 0, none⟩ (.int .i64 (t1 : Int))).setCell ⟨X, 1, none⟩ (.slice qy l1 cy)) := (Chg.setCell w8 ⟨X, 0, none⟩ _).trans (Chg.setCell _ ⟨X, 1, none⟩ _)
        have k30 : w7.cell? ⟨Z, 0, none⟩ = some (.int .i64 (t1 : Int)) := by rw [cell_in hZ7]; rfl
        have k31 : w7.cell? ⟨Z, 1, none⟩ = some (.slice qy l1 cy) := by rw [cell_in hZ7]; rfl
        have hH8 := hH7.on hb8
        have hB8 := hB7.trans (hb8.mono hB7.size)
        have HW8 := Lib.hid hw8
        have HX8 := Lib.hid hX8
        have HZ8 := Lib.hid hZ8
        have HP8 := Lib.hid hP8
        have HX9 := Lib.hid hX9
        have HC9 := Lib.hid hc9
        have HH8 := Lib.hid hH8
        have HB8 := Lib.hid hB8
        clear hb8 hc8 hX8 hZ8 hP8 hX9 hc9 hH8 hB8 hw8 hX7 hZ7 hP7 hH7 hB7 hw7
        refine wp_region_noPanic ?_
        refine wp_region_held_drew (S := fun W => W.cell? ⟨Z, 0, none⟩ = some (.int .i64 (t1 : Int)) ∧ W.cell? ⟨Z, 1, none⟩ = some (.slice qy l1 cy)) (by kernel_rfl) (⟨k30, k31⟩) (fun hHeld => ?_)
        refine wpAnyH_take (i := 0) (v := ?_) rfl (by kernel_rfl) (by kernel_rfl) (by kernel_rfl) (fun _ _ _ h => h) (Or.inl ⟨by rfl, ?_⟩) (by assumption) ?_
        rotate_left
        · (intro w hSw; (try dsimp only at hSw); go_simp; try (with_reducible rfl))
        try simp only [Act.put, List.setIfInBounds_toArray, List.set_cons_zero, List.set_cons_succ, List.getElem_toArray, List.getElem_cons_zero]
        refine wpAnyH_take (i := 1) (v := ?_) rfl (by kernel_rfl) (by kernel_rfl) (by kernel_rfl) (fun _ _ _ h => h) (Or.inl ⟨by rfl, ?_⟩) (by assumption) ?_
        rotate_left
        · (intro w hSw; (try dsimp only at hSw); go_simp; try (with_reducible rfl))
        try simp only [Act.put, List.setIfInBounds_toArray, List.set_cons_zero, List.set_cons_succ, List.getElem_toArray, List.getElem_cons_zero, List.getElem_cons_succ]
        refine wpAnyH_ready (rs := [2]) (by kernel_rfl) (by simp) ?_
        refine AllReadyH.cons rfl (fun K hK => ?_) AllReadyH.nil
        go_simp
        rw [HW8.out]
        refine hK.out _ _ ((by exact ⟨by rw [cell_in HZ8.out]; rfl, by rw [cell_in HZ8.out]; rfl⟩)) (fun hHeld2 => ?_)
        clear hK K hHeld
        have hHeld := hHeld2
        clear hHeld2
        try simp only [Act.put, List.setIfInBounds_toArray, List.set_cons_zero, List.set_cons_succ, List.getElem_toArray, List.getElem_cons_zero, List.getElem_cons_succ]
        refine wpAnyH_ready (rs := [3]) (by kernel_rfl) (by simp) ?_
        refine AllReadyH.cons rfl (fun K hK => ?_) AllReadyH.nil
        go_simp
        refine hK.out _ _ ((by have h1 := HC9.out.box HZ8.out (by omega); exact ⟨by rw [cell_in h1]; rfl, by rw [cell_in h1]; rfl⟩)) (fun hHeld2 => ?_)
        clear hK K hHeld
        have hHeld := hHeld2
        clear hHeld2
        try simp only [Act.put, List.setIfInBounds_toArray, List.set_cons_zero, List.set_cons_succ, List.getElem_toArray, List.getElem_cons_zero, List.getElem_cons_succ]
        refine wpAnyH_ready (rs := [4]) (by kernel_rfl) (by simp) ?_
        refine AllReadyH.cons rfl (fun K hK => ?_) AllReadyH.nil
        go_simp
        refine hK.out _ _ (hHeld) (fun hHeld2 => ?_)
        clear hK K hHeld
        have hHeld := hHeld2
        clear hHeld2
        try simp only [Act.put, List.setIfInBounds_toArray, List.set_cons_zero, List.set_cons_succ, List.getElem_toArray, List.getElem_cons_zero, List.getElem_cons_succ]
        refine wpAnyH_ready (rs := [5]) (by kernel_rfl) (by simp) ?_
        refine AllReadyH.cons rfl (fun K hK => ?_) AllReadyH.nil
        go_simp
        refine hK.out _ _ (hHeld) (fun hHeld2 => ?_)
        clear hK K hHeld
        have hHeld := hHeld2
        clear hHeld2
        try simp only [Act.put, List.setIfInBounds_toArray, List.set_cons_zero, List.set_cons_succ, List.getElem_toArray, List.getElem_cons_zero, List.getElem_cons_succ]
        refine wpAnyH_done (by kernel_rfl) ?_ _
        refine NoPanic.normal ?_
        clear hHeld
        go_wp2
        refine bodyPost_ret (results_open4 rfl _ _ _ ⟨X, 0, none⟩ _ rfl (load2e HX9.out)) rfl ?_
        refine ⟨X + 1, qy, cy, by rw [HCE.out, HCS.out]; rfl, by rw [HCG.out]; exact HC9.out.box HP8.out (by omega), by rw [HX.out]; exact Nat.le_succ _, ?_, ?_⟩
        · exact HC9.out.on HB8.out HB8.out.size (fun k e => by rw [e, HX.out]; exact Nat.le_refl _)
        · have hxs := HX.out
          exact (HH8.out.chg HC9.out (fun k hk e => by have e' : k = X := e; omega)).low (by omega)
      · go_wp2_with fail
        rw [HW5.out]
        obtain ⟨w7, hw7⟩ : ∃ w7, ((w5.setCell ⟨Z, 0, none⟩ (.int .i64 (t1 : Int))).setCell ⟨Z, 1, none⟩ (.slice qy l1 cy)).setCell ⟨X + 1, 3, none⟩ (.int .i64 (g1 : Int)) = w7 := ⟨_, rfl⟩
        have hc6 : Chg (fun k => k = Z) w5 ((w5.setCell ⟨Z, 0, none⟩ (.int .i64 (t1 : Int))).setCell ⟨Z, 1, none⟩ (.slice qy l1 cy)) := (Chg.setCell w5 ⟨Z, 0, none⟩ _).trans (Chg.setCell _ ⟨Z, 1, none⟩ _)
        have hc7 : Chg (fun k => k = X + 1) ((w5.setCell ⟨Z, 0, none⟩ (.int .i64 (t1 : Int))).setCell ⟨Z, 1, none⟩ (.slice qy l1 cy)) w7 := by rw [← hw7]; exact Chg.setCell _ ⟨X + 1, 3, none⟩ _
        have hX7 := hc7.box (hc6.box HX5.out (by omega)) (by omega)
        have hZ7 := hc7.box (set2s_heap HZ5.out (.int .i64 (t1 : Int)) (.slice qy l1 cy)) n2
        have hP7 : w7.heap[X + 1]? = some (.cells #[.pointer (some ⟨D, 0, none⟩), .int .i64 0, .int .i64 (m : Int), .int .i64 (g1 : Int), .bool false] 56 (0, 0)) := by rw [← hw7]; exact heap_set (hc6.box HP5.out (by omega)) _
        have hB6 := hc6.on HB5.out HB5.out.size (fun k e => by have e' : k = Z := e; rw [e', HX.out]; exact hlo)
        have hB7 := hc7.on hB6 hB6.size (fun k e => by have e' : k = X + 1 := e; rw [e', HX.out]; exact Nat.le_succ _)
        have hl3 := HL3.out
        have hlx := HLX.out
        have hcy : c = y := by rw [HNEW.out]; exact if_pos ⟨HO1.out, by rw [HG0.out, HG1.out]; exact hlt⟩
        have hH7 : RHeld (X + 2) w7 c qy := by rw [hcy]; exact ((HHY5.out.chg hc6 (fun k hk e => by have e' : k = Z := e; omega)).chg hc7 (fun k hk e => by have e' : k = X + 1 := e; omega)).low (by omega)
        have HCE := Lib.hid (show entR c qy cy = #[.int .i64 (t1 : Int), .slice qy l1 cy] from by rw [hcy]; exact (HE1 qy cy).out)
        have HCS := Lib.hid (show c.isSome = true from by rw [hcy]; exact HO1.out)
        have HCG := Lib.hid (show genOf c = g1 from by rw [hcy]; exact HG1.out)
        rw [hw7]
        clear hc6 hc7 hcy hl3 hlx hB6 hY
        clear ky0 ky1 kz0 kz1 fz0 fz1 kx0 kx1 fx0 fx1 kp3 fp3
        obtain ⟨w8, hw8⟩ : ∃ w8, w7.drew = w8 := ⟨_, rfl⟩
        have hb8 : Below w7.heap.size w7 w8 := by rw [← hw8]; exact bD (Below.refl _ _)
        have hc8 := Chg.below hb8 (fun _ => False)
        have hX8 := hc8.box hX7 (fun e => e)
        have hZ8 := hc8.box hZ7 (fun e => e)
        have hP8 := hc8.box hP7 (fun e => e)
        have kx0 : w8.cell? ⟨X, 0, none⟩ = some (.int .i64 0) := by rw [cell_in hX8]; rfl
        have kx1 : w8.cell? ⟨X, 1, none⟩ = some (.slice none 0 0) := by rw [cell_in hX8]; rfl
        have fx0 := frozen_in hX8 0
        have fx1 := frozen_in hX8 1
        have hX9 := set2s_heap hX8 (.int .i64 (t1 : Int)) (.slice qy l1 cy)
        have hc9 : Chg (fun k => k = X) w8 ((w8.setCell ⟨X, 0, none⟩ (.int .i64 (t1 : Int))).setCell ⟨X, 1, none⟩ (.slice qy l1 cy)) := (Chg.setCell w8 ⟨X, 0, none⟩ _).trans (Chg.setCell _ ⟨X, 1, none⟩ _)
        have k30 : w7.cell? ⟨Z, 0, none⟩ = some (.int .i64 (t1 : Int)) := by rw [cell_in hZ7]; rfl
        have k31 : w7.cell? ⟨Z, 1, none⟩ = some (.slice qy l1 cy) := by rw [cell_in hZ7]; rfl
        have hH8 := hH7.on hb8
        have hB8 := hB7.trans (hb8.mono hB7.size)
        have HW8 := Lib.hid hw8
        have HX8 := Lib.hid hX8
        have HZ8 := Lib.hid hZ8
        have HP8 := Lib.hid hP8
        have HX9 := Lib.hid hX9
        have HC9 := Lib.hid hc9
        have HH8 := Lib.hid hH8
        have HB8 := Lib.hid hB8
        clear hb8 hc8 hX8 hZ8 hP8 hX9 hc9 hH8 hB8 hw8 hX7 hZ7 hP7 hH7 hB7 hw7
        refine wp_region_noPanic ?_
        refine wp_region_held_drew (S := fun W => W.cell? ⟨Z, 0, none⟩ = some (.int .i64 (t1 : Int)) ∧ W.cell? ⟨Z, 1, none⟩ = some (.slice qy l1 cy)) (by kernel_rfl) (⟨k30, k31⟩) (fun hHeld => ?_)
        refine wpAnyH_take (i := 0) (v := ?_) rfl (by kernel_rfl) (by kernel_rfl) (by kernel_rfl) (fun _ _ _ h => h) (Or.inl ⟨by rfl, ?_⟩) (by assumption) ?_
        rotate_left
        · (intro w hSw; (try dsimp only at hSw); go_simp; try (with_reducible rfl))
        try simp only [Act.put, List.setIfInBounds_toArray, List.set_cons_zero, List.set_cons_succ, List.getElem_toArray, List.getElem_cons_zero]
        refine wpAnyH_take (i := 1) (v := ?_) rfl (by kernel_rfl) (by kernel_rfl) (by kernel_rfl) (fun _ _ _ h => h) (Or.inl ⟨by rfl, ?_⟩) (by assumption) ?_
        rotate_left
        · (intro w hSw; (try dsimp only at hSw); go_simp; try (with_reducible rfl))
        try simp only [Act.put, List.setIfInBounds_toArray, List.set_cons_zero, List.set_cons_succ, List.getElem_toArray, List.getElem_cons_zero, List.getElem_cons_succ]
        refine wpAnyH_ready (rs := [2]) (by kernel_rfl) (by simp) ?_
        refine AllReadyH.cons rfl (fun K hK => ?_) AllReadyH.nil
        go_simp
        rw [HW8.out]
        refine hK.out _ _ ((by exact ⟨by rw [cell_in HZ8.out]; rfl, by rw [cell_in HZ8.out]; rfl⟩)) (fun hHeld2 => ?_)
        clear hK K hHeld
        have hHeld := hHeld2
        clear hHeld2
        try simp only [Act.put, List.setIfInBounds_toArray, List.set_cons_zero, List.set_cons_succ, List.getElem_toArray, List.getElem_cons_zero, List.getElem_cons_succ]
        refine wpAnyH_ready (rs := [3]) (by kernel_rfl) (by simp) ?_
        refine AllReadyH.cons rfl (fun K hK => ?_) AllReadyH.nil
        go_simp
        refine hK.out _ _ ((by have h1 := HC9.out.box HZ8.out (by omega); exact ⟨by rw [cell_in h1]; rfl, by rw [cell_in h1]; rfl⟩)) (fun hHeld2 => ?_)
        clear hK K hHeld
        have hHeld := hHeld2
        clear hHeld2
        try simp only [Act.put, List.setIfInBounds_toArray, List.set_cons_zero, List.set_cons_succ, List.getElem_toArray, List.getElem_cons_zero, List.getElem_cons_succ]
        refine wpAnyH_ready (rs := [4]) (by kernel_rfl) (by simp) ?_
        refine AllReadyH.cons rfl (fun K hK => ?_) AllReadyH.nil
        go_simp
        refine hK.out _ _ (hHeld) (fun hHeld2 => ?_)
        clear hK K hHeld
        have hHeld := hHeld2
        clear hHeld2
        try simp only [Act.put, List.setIfInBounds_toArray, List.set_cons_zero, List.set_cons_succ, List.getElem_toArray, List.getElem_cons_zero, List.getElem_cons_succ]
        refine wpAnyH_ready (rs := [5]) (by kernel_rfl) (by simp) ?_
        refine AllReadyH.cons rfl (fun K hK => ?_) AllReadyH.nil
        go_simp
        refine hK.out _ _ (hHeld) (fun hHeld2 => ?_)
        clear hK K hHeld
        have hHeld := hHeld2
        clear hHeld2
        try simp only [Act.put, List.setIfInBounds_toArray, List.set_cons_zero, List.set_cons_succ, List.getElem_toArray, List.getElem_cons_zero, List.getElem_cons_succ]
        refine wpAnyH_done (by kernel_rfl) ?_ _
        refine NoPanic.normal ?_
        clear hHeld
        go_wp2
        refine bodyPost_ret (results_open4 rfl _ _ _ ⟨X, 0, none⟩ _ rfl (load2e HX9.out)) rfl ?_
        refine ⟨X + 1, qy, cy, by rw [HCE.out, HCS.out]; rfl, by rw [HCG.out]; exact HC9.out.box HP8.out (by omega), by rw [HX.out]; exact Nat.le_succ _, ?_, ?_⟩
        · exact HC9.out.on HB8.out HB8.out.size (fun k e => by rw [e, HX.out]; exact Nat.le_refl _)
        · have hxs := HX.out
          exact (HH8.out.chg HC9.out (fun k hk e => by have e' : k = X := e; omega)).low (by omega)
    · have d3 : decide ((g0 : Int) < (g1 : Int)) = false := decide_eq_false (by omega)
      have d3' : decide (g0 < g1) = false := decide_eq_false hlt
      cases ok0
      · exfalso
        have h0 : x = none := by cases x with
          | none => rfl
          | some v => have := HO0.out; cases this
        have hy1 := HYG.out
        have h3 := HG1.out
        have h4 := HG0.out
        rw [h0] at h4
        have h4' : g0 = 0 := h4.symm
        cases y with
        | none => have := HO1.out; cases this
        | some v =>
          have h2 := hy1 v rfl
          have h3' : v.g = g1 := h3
          omega
      · go_wp2_with fail
        rw [HW5.out]
        obtain ⟨w7, hw7⟩ : ∃ w7, w5.setCell ⟨X + 1, 3, none⟩ (.int .i64 (g0 : Int)) = w7 := ⟨_, rfl⟩
        have hc7 : Chg (fun k => k = X + 1) w5 w7 := by rw [← hw7]; exact Chg.setCell w5 ⟨X + 1, 3, none⟩ _
        have hX7 := hc7.box HX5.out (by omega)
        have hZ7 := hc7.box HZ5.out n2
        have hP7 : w7.heap[X + 1]? = some (.cells #[.pointer (some ⟨D, 0, none⟩), .int .i64 0, .int .i64 (m : Int), .int .i64 (g0 : Int), .bool false] 56 (0, 0)) := by rw [← hw7]; exact heap_set HP5.out _
        have hB7 := hc7.on HB5.out HB5.out.size (fun k e => by have e' : k = X + 1 := e; rw [e', HX.out]; exact Nat.le_succ _)
        have hl1 := HL1.out
        have hcx : c = x := by rw [HNEW.out]; exact if_neg (fun e => by have := e.2; rw [HG0.out, HG1.out] at this; exact hlt this)
        have hH7 : RHeld (X + 2) w7 c qx := by rw [hcx]; exact (HHX5.out.chg hc7 (fun k hk e => by have e' : k = X + 1 := e; omega)).low hl1
        have HCE := Lib.hid (show entR c qx cx = #[.int .i64 (t0 : Int), .slice qx l0 cx] from by rw [hcx]; exact HE0.out)
        have HCS := Lib.hid (show c.isSome = true from by rw [hcx]; exact HO0.out)
        have HCG := Lib.hid (show genOf c = g0 from by rw [hcx]; exact HG0.out)
        rw [hw7]
        clear hc7 hcx hl1 hY
        clear ky0 ky1 kz0 kz1 fz0 fz1 kx0 kx1 fx0 fx1 kp3 fp3
        obtain ⟨w8, hw8⟩ : ∃ w8, w7.drew = w8 := ⟨_, rfl⟩
        have hb8 : Below w7.heap.size w7 w8 := by rw [← hw8]; exact bD (Below.refl _ _)
        have hc8 := Chg.below hb8 (fun _ => False)
        have hX8 := hc8.box hX7 (fun e => e)
        have hZ8 := hc8.box hZ7 (fun e => e)
        have hP8 := hc8.box hP7 (fun e => e)
        have kx0 : w8.cell? ⟨X, 0, none⟩ = some (.int .i64 0) := by rw [cell_in hX8]; rfl
        have kx1 : w8.cell? ⟨X, 1, none⟩ = some (.slice none 0 0) := by rw [cell_in hX8]; rfl
        have fx0 := frozen_in hX8 0
        have fx1 := frozen_in hX8 1
        have hX9 := set2s_heap hX8 (.int .i64 (t0 : Int)) (.slice qx l0 cx)
        have hc9 : Chg (fun k => k = X) w8 ((w8.setCell ⟨X, 0, none⟩ (.int .i64 (t0 : Int))).setCell ⟨X, 1, none⟩ (.slice qx l0 cx)) := (Chg.setCell w8 ⟨X, 0, none⟩ _).trans (Chg.setCell _ ⟨X, 1, none⟩ _)
        have k30 : w7.cell? ⟨Z, 0, none⟩ = some (.int .i64 (t0 : Int)) := by rw [cell_in hZ7]; rfl
        have k31 : w7.cell? ⟨Z, 1, none⟩ = some (.slice qx l0 cx) := by rw [cell_in hZ7]; rfl
        have hH8 := hH7.on hb8
        have hB8 := hB7.trans (hb8.mono hB7.size)
        have HW8 := Lib.hid hw8
        have HX8 := Lib.hid hX8
        have HZ8 := Lib.hid hZ8
        have HP8 := Lib.hid hP8
        have HX9 := Lib.hid hX9
        have HC9 := Lib.hid hc9
        have HH8 := Lib.hid hH8
        have HB8 := Lib.hid hB8
        clear hb8 hc8 hX8 hZ8 hP8 hX9 hc9 hH8 hB8 hw8 hX7 hZ7 hP7 hH7 hB7 hw7
        refine wp_region_noPanic ?_
        refine wp_region_held_drew (S := fun W => W.cell? ⟨Z, 0, none⟩ = some (.int .i64 (t0 : Int)) ∧ W.cell? ⟨Z, 1, none⟩ = some (.slice qx l0 cx)) (by kernel_rfl) (⟨k30, k31⟩) (fun hHeld => ?_)
        refine wpAnyH_take (i := 0) (v := ?_) rfl (by kernel_rfl) (by kernel_rfl) (by kernel_rfl) (fun _ _ _ h => h) (Or.inl ⟨by rfl, ?_⟩) (by assumption) ?_
        rotate_left
        · (intro w hSw; (try dsimp only at hSw); go_simp; try (with_reducible rfl))
        try simp only [Act.put, List.setIfInBounds_toArray, List.set_cons_zero, List.set_cons_succ, List.getElem_toArray, List.getElem_cons_zero]
        refine wpAnyH_take (i := 1) (v := ?_) rfl (by kernel_rfl) (by kernel_rfl) (by kernel_rfl) (fun _ _ _ h => h) (Or.inl ⟨by rfl, ?_⟩) (by assumption) ?_
        rotate_left
        · (intro w hSw; (try dsimp only at hSw); go_simp; try (with_reducible rfl))
        try simp only [Act.put, List.setIfInBounds_toArray, List.set_cons_zero, List.set_cons_succ, List.getElem_toArray, List.getElem_cons_zero, List.getElem_cons_succ]
        refine wpAnyH_ready (rs := [2]) (by kernel_rfl) (by simp) ?_
        refine AllReadyH.cons rfl (fun K hK => ?_) AllReadyH.nil
        go_simp
        rw [HW8.out]
        refine hK.out _ _ ((by exact ⟨by rw [cell_in HZ8.out]; rfl, by rw [cell_in HZ8.out]; rfl⟩)) (fun hHeld2 => ?_)
        clear hK K hHeld
        have hHeld := hHeld2
        clear hHeld2
        try simp only [Act.put, List.setIfInBounds_toArray, List.set_cons_zero, List.set_cons_succ, List.getElem_toArray, List.getElem_cons_zero, List.getElem_cons_succ]
        refine wpAnyH_ready (rs := [3]) (by kernel_rfl) (by simp) ?_
        refine AllReadyH.cons rfl (fun K hK => ?_) AllReadyH.nil
        go_simp
        refine hK.out _ _ ((by have h1 := HC9.out.box HZ8.out (by omega); exact ⟨by rw [cell_in h1]; rfl, by rw [cell_in h1]; rfl⟩)) (fun hHeld2 => ?_)
        clear hK K hHeld
        have hHeld := hHeld2
        clear hHeld2
        try simp only [Act.put, List.setIfInBounds_toArray, List.set_cons_zero, List.set_cons_succ, List.getElem_toArray, List.getElem_cons_zero, List.getElem_cons_succ]
        refine wpAnyH_ready (rs := [4]) (by kernel_rfl) (by simp) ?_
        refine AllReadyH.cons rfl (fun K hK => ?_) AllReadyH.nil
        go_simp
        refine hK.out _ _ (hHeld) (fun hHeld2 => ?_)
        clear hK K hHeld
        have hHeld := hHeld2
        clear hHeld2
        try simp only [Act.put, List.setIfInBounds_toArray, List.set_cons_zero, List.set_cons_succ, List.getElem_toArray, List.getElem_cons_zero, List.getElem_cons_succ]
        refine wpAnyH_ready (rs := [5]) (by kernel_rfl) (by simp) ?_
        refine AllReadyH.cons rfl (fun K hK => ?_) AllReadyH.nil
        go_simp
        refine hK.out _ _ (hHeld) (fun hHeld2 => ?_)
        clear hK K hHeld
        have hHeld := hHeld2
        clear hHeld2
        try simp only [Act.put, List.setIfInBounds_toArray, List.set_cons_zero, List.set_cons_succ, List.getElem_toArray, List.getElem_cons_zero, List.getElem_cons_succ]
        refine wpAnyH_done (by kernel_rfl) ?_ _
        refine NoPanic.normal ?_
        clear hHeld
        go_wp2
        refine bodyPost_ret (results_open4 rfl _ _ _ ⟨X, 0, none⟩ _ rfl (load2e HX9.out)) rfl ?_
        refine ⟨X + 1, qx, cx, by rw [HCE.out, HCS.out]; rfl, by rw [HCG.out]; exact HC9.out.box HP8.out (by omega), by rw [HX.out]; exact Nat.le_succ _, ?_, ?_⟩
        · exact HC9.out.on HB8.out HB8.out.size (fun k e => by rw [e, HX.out]; exact Nat.le_refl _)
        · have hxs := HX.out
          exact (HH8.out.chg HC9.out (fun k hk e => by have e' : k = X := e; omega)).low (by omega)
end Go.Proofs.Ytgcifhhbhoafcaa
