/-
  The reference's disk: Read, whatever waits.
-/
import Derived.Test.YtgcifhhbhoafcaaRefWrite
namespace Go.Proofs.Ytgcifhhbhoafcaa
open Go.RowKit Go.Shelf

theorem rdone_other (i : Nat) : ∀ (L : List Wq) (S : List Sec), (∀ x ∈ L, x.1 ≠ i) → (doneS S L)[i]? = S[i]?
  | [], _, _ => rfl
  | x :: L, S, h => by
    show (doneS (S.set x.1 x.2) L)[i]? = _
    rw [rdone_other i L _ (fun y hy => h y (List.mem_cons_of_mem _ hy)), List.getElem?_set_ne (h x List.mem_cons_self)]
theorem done_last (S : List Sec) (ws : List Wq) (i k : Nat) (hk : k < ws.length) (hi : i < S.length) (h1 : (ws[k]).1 = i) (h2 : ∀ j (hj : j < ws.length), k < j → (ws[j]).1 ≠ i) : (doneS S ws)[i]? = some (ws[k]).2 := by
  have e : ws = ws.take k ++ ws[k] :: ws.drop (k + 1) := by
    rw [← List.drop_eq_getElem_cons hk, List.take_append_drop]
  have e2 : doneS S ws = doneS ((doneS S (ws.take k)).set (ws[k]).1 (ws[k]).2) (ws.drop (k + 1)) := by
    conv => lhs; rw [e]
    unfold doneS
    rw [List.foldl_append, List.foldl_cons]
  rw [e2, rdone_other i _ _ (fun x hx => by
    obtain ⟨j, hj, rfl⟩ := List.getElem_of_mem hx
    rw [List.getElem_drop]
    exact h2 _ _ (by omega)), h1, List.getElem?_set_self (by rw [doneS_len]; exact hi)]
/-- Numbers and bytes as writes. -/
theorem zip_mapIdx (a : Nat) (L : List Sec) : ((List.range L.length).map (a + ·)).zip L = L.mapIdx fun i s => (a + i, s) := by
  apply List.ext_getElem
  · simp
  · intro i h1 h2
    simp

set_option maxRecDepth 20000 in
set_option maxHeartbeats 2000000 in
theorem refsee_any {w : World} {D lo : Nat} {S : List Sec} {va vw : Value} {pos : List Nat} {B : List Sec} (H : RA w D lo S va vw pos B) (hpb : pos.length = B.length) (hm : B.length ≤ 100000) (i : Nat) (hi : i < S.length) :
    Calls Try.prog 52 #[.pointer (some ⟨D, 0, none⟩), .int .i64 i] w fun e w' => e = .returned (.string (bs ((doneS S (pos.zip B)).getD i []))) ∧ w = w' := by
  obtain ⟨gs, cs, hbox, hsafe, _⟩ := H.box
  obtain ⟨pa, ca, rfl⟩ := row_slice H.at_
  obtain ⟨pw, cw, rfl⟩ := row_slice H.what
  have hAt : ∀ j (hj : j < pos.length), ∃ ga, pa = some ⟨ga, 0, none⟩ ∧ w.cell? ⟨ga, j, none⟩ = some (.int .i64 ((pos[j] : Nat) : Int)) := fun j hj => by
    rcases H.at_.2 with ⟨h, h0⟩ | ⟨g, cap, cur, h, _, hg, _, _, _, ht⟩
    · omega
    · cases h
      refine ⟨g, rfl, ?_⟩
      rw [cell_in hg, ← Array.getElem?_toList]
      have : (cur.toList.take (pos.length * 1))[j]? = some (.int .i64 ((pos[j] : Nat) : Int)) := by rw [ht]; simp [pCells, List.getElem?_eq_getElem hj]
      rwa [List.getElem?_take_of_lt (by omega)] at this
  have hWh : ∀ j (hj : j < B.length), ∃ gw, pw = some ⟨gw, 0, none⟩ ∧ w.cell? ⟨gw, j, none⟩ = some (.string (bs B[j])) := fun j hj => by
    rcases H.what.2 with ⟨h, h0⟩ | ⟨g, cap, cur, h, _, hg, _, _, _, ht⟩
    · omega
    · cases h
      refine ⟨g, rfl, ?_⟩
      rw [cell_in hg, ← Array.getElem?_toList]
      have : (cur.toList.take (B.length * 1))[j]? = some (.string (bs B[j])) := by rw [ht]; simp [sCells, List.getElem?_eq_getElem hj]
      rwa [List.getElem?_take_of_lt (by omega)] at this
  have k0 : w.cell? ⟨D, 0, none⟩ = some (.slice (some ⟨gs, 0, none⟩) S.length cs) := by rw [cell_in hbox]; rfl
  have k1 : w.cell? ⟨D, 1, none⟩ = some (.slice pa pos.length ca) := by rw [cell_in hbox]; rfl
  have k2 : w.cell? ⟨D, 2, none⟩ = some (.slice pw B.length cw) := by rw [cell_in hbox]; rfl
  have hsf := sCells_at hsafe i hi
  rw [Nat.zero_add] at hsf
  obtain ⟨out, hout⟩ : ∃ out, (doneS S (pos.zip B)).getD i [] = out := ⟨_, rfl⟩
  have hHit : ∀ k (hk : k < pos.length) (hk2 : k < B.length), pos[k] = i → (∀ j (hj : j < pos.length), k < j → pos[j] ≠ i) → B[k] = out := fun k hk hk2 h1 h2 => by
    have hz : k < (pos.zip B).length := by rw [List.length_zip]; omega
    have := done_last S (pos.zip B) i k hz hi (by rw [List.getElem_zip]; exact h1) (fun j hj hkj => by
      rw [List.getElem_zip]
      exact h2 j (by rw [List.length_zip] at hj; omega) hkj)
    rw [List.getElem_zip] at this
    rw [← hout, List.getD_eq_getElem?_getD, this]
    rfl
  have hMiss : (∀ j (hj : j < pos.length), pos[j] ≠ i) → S[i] = out := fun h => by
    have := rdone_other i (pos.zip B) S (fun x hx => by
      obtain ⟨j, hj, rfl⟩ := List.getElem_of_mem hx
      rw [List.getElem_zip]
      exact h j (by rw [List.length_zip] at hj; omega))
    rw [← hout, List.getD_eq_getElem?_getD, this, List.getElem?_eq_getElem hi]
    rfl
  rw [hout]
  obtain ⟨st, hst⟩ : ∃ st, bs S[i] = st := ⟨_, rfl⟩
  obtain ⟨so, hso⟩ : ∃ so, bs out = so := ⟨_, rfl⟩
  rw [hst] at hsf
  rw [hso]
  obtain ⟨M, hM⟩ : ∃ M, S.length = M := ⟨_, rfl⟩
  obtain ⟨np, hnp⟩ : ∃ np, pos.length = np := ⟨_, rfl⟩
  have hnb : B.length = np := by omega
  rw [hM] at k0 hi
  rw [hnp] at k1
  rw [hnb] at k2 hm
  have HAT := Lib.hid hAt
  have HWH := Lib.hid hWh
  have HHIT := Lib.hid hHit
  have HMISS := Lib.hid hMiss
  have HST := Lib.hid hst
  have HSO := Lib.hid hso
  have HNP := Lib.hid (show _ ∧ _ from ⟨hnp, hnb⟩)
  clear H hbox hsafe hAt hWh hHit hMiss hst hso hnp hnb hM hout hpb
  have j0 : (0 : Int) ≤ (i : Int) := by omega
  have j1 : (i : Int) < (M : Int) := by omega
  go_enter Try.func52, Try.ntmps52
  go_wp2
  go_loopw [5] (fun s5 wr => ∃ k : Nat, k ≤ np ∧ s5 = .int .i64 ((k : Int) - 1) ∧ Hid (∀ j (hj : j < pos.length), k ≤ j → pos[j] ≠ i) ∧ wr = w) (fun s5 _ => ((intOf s5) + 1).toNat)
  case atStart => exact ⟨np, Nat.le_refl _, by go_num, Lib.hid (fun j hj h => by have := HNP.out.1; omega), rfl⟩
  case round =>
    obtain ⟨k, hk, rfl, HNO, rfl⟩ := hrel
    by_cases hk0 : k = 0
    · subst hk0
      have e1 : decide ((0 : Int) ≤ ((0 : Nat) : Int) - 1) = false := by decide
      have HF := Lib.hid (show st = so by rw [← HST.out, ← HSO.out, HMISS.out (fun j hj => HNO.out j hj (Nat.zero_le _))])
      go_wp2
      go_ret
      exact ⟨by rw [HF.out]; rfl, rfl⟩
    · obtain ⟨q, rfl⟩ : ∃ q, k = q + 1 := ⟨k - 1, by omega⟩
      have e0 : (((q + 1 : Nat) : Int) - 1) = (q : Int) := by omega
      rw [e0]
      have e1 : decide ((0 : Int) ≤ (q : Int)) = true := decide_eq_true (by omega)
      have hq1 : q < pos.length := by have := HNP.out.1; omega
      have hq2 : q < B.length := by have := HNP.out.2; omega
      obtain ⟨ga, rfl, ca1⟩ := HAT.out q hq1
      obtain ⟨gw, rfl, cw1⟩ := HWH.out q hq2
      obtain ⟨pq, hpq⟩ : ∃ pq, pos[q] = pq := ⟨_, rfl⟩
      rw [hpq] at ca1
      obtain ⟨sq, hsq⟩ : ∃ sq, bs B[q] = sq := ⟨_, rfl⟩
      rw [hsq] at cw1
      have HPQ := Lib.hid hpq
      have HSQ := Lib.hid hsq
      have i1 : (q : Int) < (np : Int) := by omega
      have i0 : (0 : Int) ≤ (q : Int) := by omega
      clear hpq hsq e0 hk0
      by_cases hh : pq = i
      · have d1 : ((pq : Int) == (i : Int)) = true := beq_iff_eq.2 (by omega)
        have HF := Lib.hid (show sq = so by rw [← HSQ.out, ← HSO.out, HHIT.out q hq1 hq2 (by rw [HPQ.out]; exact hh) (fun j hj hqj => HNO.out j hj (by omega))])
        clear hh
        go_wp2
        go_ret
        exact ⟨by rw [HF.out]; rfl, rfl⟩
      · have d1 : ((pq : Int) == (i : Int)) = false := beq_eq_false_iff_ne.2 (by omega)
        have HNO2 := Lib.hid (show ∀ j (hj : j < pos.length), q ≤ j → pos[j] ≠ i from fun j hj hqj => by
          by_cases e : j = q
          · subst e
            rw [HPQ.out]
            exact hh
          · exact HNO.out j hj (by omega))
        clear hh
        go_wp2
        go_roundw
        case rel => exact ⟨q, by omega, (by first | rfl | go_num), HNO2, trivial⟩
        case measure => simp [intOf]

set_option maxRecDepth 20000 in
set_option maxHeartbeats 2000000 in
theorem refread_any {w : World} {D lo : Nat} {S : List Sec} {va vw : Value} {pos : List Nat} {B : List Sec} (H : RA w D lo S va vw pos B) (hpb : pos.length = B.length) (hm : B.length ≤ 100000) (h64 : ∀ s ∈ S, s.length = 64) (h64B : ∀ s ∈ B, s.length = 64) (f m : Nat) (hm1 : 1 ≤ m) (hfM : f + m ≤ S.length) (hS : S.length ≤ 100000) :
    Calls Try.prog 37 #[.pointer (some ⟨D, 0, none⟩), .int .i64 f, .int .i64 m] w fun e w' => e = .returned (.tuple #[.string (bs (partS (doneS S (pos.zip B)) f m).flatten), .int .i64 0]) ∧ w = w' := by
  have HTH := Lib.hid (ra_there H f m hm1 hfM (by omega))
  have HON := Lib.hid (ra_on H)
  obtain ⟨V, hV⟩ : ∃ V, doneS S (pos.zip B) = V := ⟨_, rfl⟩
  have hVl : V.length = S.length := by rw [← hV, doneS_len]
  have hV64 : ∀ s ∈ V, s.length = 64 := by
    rw [← hV]
    exact doneS_64 h64 (fun x hx => h64B x.2 (List.of_mem_zip hx).2)
  have HSEE := Lib.hid (show ∀ q, q < S.length → Calls Try.prog 52 #[.pointer (some ⟨D, 0, none⟩), .int .i64 q] w fun e w' => e = .returned (.string (bs (V.getD q []))) ∧ w = w' from fun q hq => by
    have h := refsee_any H hpb hm q hq
    rw [hV] at h
    exact h)
  rw [hV]
  obtain ⟨P, hP⟩ : ∃ P, partS V f m = P := ⟨_, rfl⟩
  have hPl : P.length = m := by rw [← hP, partS_len (by omega)]
  have hP64 : ∀ s ∈ P, s.length = 64 := by rw [← hP]; exact partS_64 hV64
  have hPA : ∀ q (hq : q < P.length), P[q] = V.getD (f + q) [] := fun q hq => by
    have h1 : (partS V f m)[q]? = V[f + q]? := by
      unfold partS
      rw [List.getElem?_take_of_lt (by omega), List.getElem?_drop]
    rw [hP, List.getElem?_eq_getElem hq] at h1
    rw [List.getD_eq_getElem?_getD, ← h1]
    rfl
  rw [hP]
  have HBL := Lib.hid hPl
  have H64 := Lib.hid hP64
  have HPA := Lib.hid hPA
  have HVL := Lib.hid hVl
  clear H h64 hV hVl hV64 hP hPl hP64 hPA hpb
  go_enter Try.func37, Try.ntmps37
  go_wp2_with fail
  refine HTH.out.mono ?_
  rintro e w1 ⟨rfl, hw1⟩
  obtain rfl := hw1
  go_wp2_with fail
  refine HON.out.mono ?_
  rintro e w1 ⟨rfl, hw1⟩
  obtain rfl := hw1
  go_wp2
  go_loopw [8, 9] (fun s8 s9 wr => ∃ I : Nat, ∃ st : ByteArray, f ≤ I ∧ I ≤ f + m ∧ s8 = .string st ∧ s9 = .int .i64 (I : Int) ∧ st.size ≤ 64 * I ∧ Hid (st = bs ((P.take (I - f)).flatten)) ∧ wr = w) (fun _ s9 _ => 2000000 - (intOf s9).toNat)
  case atStart => exact ⟨f, _, Nat.le_refl _, by omega, rfl, rfl, Nat.zero_le _, Lib.hid (by simp; rfl), rfl⟩
  case round =>
    obtain ⟨I, st, hI1, hI2, rfl, rfl, hz, HST, rfl⟩ := hrel
    by_cases hlt : I < f + m
    · have f1 : decide ((I : Int) < (f : Int) + (m : Int)) = true := decide_eq_true (by omega)
      have hIl : I - f < P.length := by have := HBL.out; omega
      have hsee := HSEE.out I (by omega)
      have hpi := HPA.out (I - f) hIl
      rw [show f + (I - f) = I by omega] at hpi
      rw [← hpi] at hsee
      obtain ⟨sx, hsx⟩ : ∃ s, s = bs (P[I - f]) := ⟨_, rfl⟩
      rw [← hsx] at hsee
      have hzx : sx.size = 64 := by rw [hsx, bs_size]; exact H64.out _ (List.getElem_mem _)
      have hbd : st.size + sx.size < 9223372036854775808 := by omega
      have HSX := Lib.hid (show ∃ x, P[I - f]? = some x ∧ sx = bs x from ⟨_, List.getElem?_eq_getElem _, hsx⟩)
      have HZX := Lib.hid hzx
      clear hsx hzx hpi
      go_wp2_with fail
      refine hsee.mono ?_
      rintro e w1 ⟨rfl, hw1⟩
      obtain rfl := hw1
      go_wp2
      go_roundw
      case rel =>
        refine ⟨I + 1, _, by omega, by omega, rfl, by go_num, by rw [ByteArray.size_append, HZX.out]; omega, Lib.hid ?_, trivial⟩
        obtain ⟨x, hx1, hx2⟩ := HSX.out
        rw [HST.out, hx2, bs_app, show I + 1 - f = (I - f) + 1 by omega, List.take_add_one, hx1]
        simp
      case measure => simp [intOf]; omega
    · have f1 : decide ((I : Int) < (f : Int) + (m : Int)) = false := decide_eq_false (by omega)
      have HFIN := Lib.hid (show st = bs P.flatten by rw [HST.out, List.take_of_length_le (by rw [HBL.out]; omega)])
      go_wp2
      go_ret2
      exact ⟨by rw [HFIN.out]; rfl, rfl⟩
end Go.Proofs.Ytgcifhhbhoafcaa
