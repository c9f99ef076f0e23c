/-
  What glob.Match answers: whether the pattern matches the string. Conditions: both have at most 2^40 bytes.
-/
import Derived.Test.YtimnnldjmmdlmaaGlobSplit
namespace Go.Proofs.Ytimnnldjmmdlmaa
open Go.RowKit

theorem splitN_len (n : Nat) (l : List UInt8) (b : Bool) (cur : List Glob.CSet) : ∀ r ∈ Glob.splitN n l b cur, r.length ≤ cur.length + l.length := by
  induction n generalizing l b cur with
  | zero => intro r hr; simp [Glob.splitN] at hr; subst hr; omega
  | succ n ih =>
    intro r hr
    cases l with
    | nil => simp [Glob.splitN] at hr; subst hr; omega
    | cons c t =>
      have hl := Glob.next_len (c :: t) b (by simp)
      unfold Glob.splitN at hr
      split at hr
      · rcases List.mem_cons.1 hr with rfl | hr
        · omega
        · have := ih t b [] r hr
          simp only [List.length_nil, List.length_cons] at *
          omega
      · have := ih _ _ _ r hr
        simp only [List.length_append, List.length_cons, List.length_nil] at *
        omega

theorem split_len (l : List UInt8) : ∀ r ∈ Glob.split l, r.length ≤ l.length := by
  intro r hr
  have := splitN_len l.length l false [] r hr
  simpa using this

theorem match_many (d : List Glob.CSet) (ds : List (List Glob.CSet)) (c : List Glob.CSet) (s : List UInt8) :
    Glob.matchRuns (d :: (ds ++ [c])) s = if s.length < d.length + c.length then false else if Glob.begins s d then if Glob.begins (s.drop (s.length - c.length)) c then Glob.middle ((s.drop d.length).take (s.length - c.length - d.length)) ds else false else false := by
  cases ds with
  | nil => rfl
  | cons x xs =>
    have e1 : (x :: (xs ++ [c])).getLast (by simp) = c := List.getLast_concat (l := x :: xs)
    have e2 : (x :: (xs ++ [c])).dropLast = x :: xs := by
      rw [show x :: (xs ++ [c]) = (x :: xs) ++ [c] from rfl, List.dropLast_concat]
    show Glob.matchRuns (d :: x :: (xs ++ [c])) s = _
    unfold Glob.matchRuns
    simp only [e1, e2]

set_option maxHeartbeats 2000000 in
theorem match_any (p s : List UInt8) (hp : p.length ≤ 1099511627776) (hs : s.length ≤ 1099511627776) (w : World) :
    Calls Try.prog 7 #[.string (bs p), .string (bs s)] w fun e w' => e = .returned (.bool (Glob.gmatch p s)) ∧ Below w.heap.size w w' := by
  have hzb : (bs s).size ≤ 1099511627776 := by rw [bs_size]; exact hs
  go_enter Try.func7, Try.ntmps7
  go_wp2_with fail
  refine (split_any p hp _).mono ?_
  rintro e w1 ⟨v, done, cur, vs, u, rfl, hsp, HR, hlen, HB⟩
  obtain ⟨G, cap, cs, rfl, hBG, hG, hn, hm, hcs', htk⟩ := HR.form
  obtain ⟨ua, uc, rfl, _, _⟩ := run_form HR.last
  have hat : ∀ j, j < done.length + 1 → cs[j]? = (vs ++ [Value.slice ua cur.length uc])[j]? := by
    intro j hj
    rw [← Array.getElem?_toList, ← htk, List.getElem?_take, if_pos hj]
  have cu : w1.cell? ⟨G, done.length, none⟩ = some (.slice ua cur.length uc) := by
    rw [Lib.cell_of_heap hG, hat _ (by omega), ← HR.len, List.getElem?_append_right (Nat.le_refl _), Nat.sub_self]
    rfl
  have hi0 : (0 : Int) ≤ (done.length : Int) := by omega
  have hi1 : (done.length : Int) < (done.length : Int) + 1 := by omega
  cases done with
  | nil =>
    have HM : Hid (Glob.gmatch p s = (s.length == cur.length && Glob.begins s cur)) := Lib.hid (by unfold Glob.gmatch; rw [hsp]; rfl)
    have c0 : w1.cell? ⟨G, 0, none⟩ = some (.slice ua cur.length uc) := cu
    clear cu hi0 hi1
    by_cases hl : s.length = cur.length
    · have hd : (((bs s).size : Int) == (cur.length : Int)) = true := by rw [bs_size, hl]; simp
      have HM2 : Hid (Glob.gmatch p s = Glob.begins s cur) := by
        have h := HM.out
        have e : (s.length == cur.length) = true := by rw [hl]; simp
        rw [e, Bool.true_and] at h
        exact Lib.hid h
      go_wp2_with fail
      go_region
      go_wp2_with fail
      refine (begins_at_any s w.heap.size _ cur _ HR.drew.last hs (by omega)).mono ?_
      rintro e w2 ⟨rfl, B2⟩
      go_wp2
      go_ret
      exact ⟨by rw [HM2.out]; rfl, HB.drew.trans (B2.mono HB.size)⟩
    · have hd : (((bs s).size : Int) == (cur.length : Int)) = false := by rw [bs_size]; simp; omega
      have HM2 : Hid (Glob.gmatch p s = false) := by
        have h := HM.out
        have e : (s.length == cur.length) = false := by simpa using hl
        rw [e, Bool.false_and] at h
        exact Lib.hid h
      go_wp2_with fail
      go_region
      go_wp2
      go_ret
      exact ⟨by rw [HM2.out]; rfl, HB.drew⟩
  | cons d ds =>
    have HM : Hid (Glob.gmatch p s = if s.length < d.length + cur.length then false else if Glob.begins s d then if Glob.begins (s.drop (s.length - cur.length)) cur then Glob.middle ((s.drop d.length).take (s.length - cur.length - d.length)) ds else false else false) := by
      refine Lib.hid ?_
      unfold Glob.gmatch
      rw [hsp]
      exact match_many d ds cur s
    have hin : ∀ i (hi : i < (d :: ds).length), ∃ a c, w1.cell? ⟨G, i, none⟩ = some (.slice a ((d :: ds)[i]).length c) ∧ RunAt w.heap.size (.slice a ((d :: ds)[i]).length c) ((d :: ds)[i]) w1 ∧ ((d :: ds)[i]).length ≤ c ∧ c ≤ maxLen := by
      intro i hi
      have hv : i < vs.length := by rw [HR.len]; exact hi
      have hR := HR.inner i vs[i] (d :: ds)[i] (List.getElem?_eq_getElem hv) (List.getElem?_eq_getElem hi)
      obtain ⟨a, c, e, h1, h2⟩ := run_form hR
      refine ⟨a, c, ?_, e ▸ hR, h1, h2⟩
      rw [Lib.cell_of_heap hG, hat _ (by omega), List.getElem?_append_left hv, List.getElem?_eq_getElem hv, e]
    obtain ⟨fa, fc, c0, hF, hf1, hf2⟩ := hin 0 (by simp)
    have e0 : (d :: ds)[0] = d := rfl
    rw [e0] at c0 hF hf1
    have hall : ∀ r ∈ d :: ds, r.length ≤ 1099511627776 := fun r hr => Nat.le_trans (split_len p r (by rw [hsp]; exact List.mem_append_left _ hr)) hp
    have hdl : d.length ≤ 1099511627776 := hall d (by simp)
    have hcl : cur.length ≤ 1099511627776 := by simp at hlen; omega
    have hnl : ds.length ≤ 1099511627776 := by simp at hlen; omega
    have cu' : w1.cell? ⟨G, ds.length + 1, none⟩ = some (.slice ua cur.length uc) := cu
    clear cu hi0 hi1
    have k0 : (0 : Int) ≤ (ds.length : Int) := by omega
    have k1 : (0 : Int) < (ds.length : Int) + 1 + 1 := by omega
    have k2 : (ds.length : Int) + 1 < (ds.length : Int) + 1 + 1 := by omega
    have k3 : ((ds.length : Int) + 1 + 1 == 1) = false := by simp; omega
    have k4 : (0 : Int) ≤ (ds.length : Int) + 1 := by omega
    have hn' : ds.length + 1 + 1 ≤ cap := hn
    clear hn
    have k5 : (ds.length : Int) + 1 ≤ (cap : Int) := by omega
    have k6 : (1 : Int) ≤ (ds.length : Int) + 1 := by omega
    have k7 : ¬ cap = 1 := by omega
    by_cases hl : s.length < d.length + cur.length
    · have hd : decide (((bs s).size : Int) < (d.length : Int) + (cur.length : Int)) = true := by rw [bs_size]; simp; omega
      have HM2 : Hid (Glob.gmatch p s = false) := by
        have h := HM.out
        rw [if_pos hl] at h
        exact Lib.hid h
      clear hin hall
      go_wp2_with fail
      go_region
      go_wp2
      go_ret
      exact ⟨by rw [HM2.out]; rfl, HB.drew⟩
    · have hd : decide (((bs s).size : Int) < (d.length : Int) + (cur.length : Int)) = false := by rw [bs_size]; simp; omega
      cases hb1 : Glob.begins s d
      · have HM2 : Hid (Glob.gmatch p s = false) := by
          have h := HM.out
          rw [if_neg hl, hb1] at h
          exact Lib.hid h
        clear hin hall
        go_wp2_with fail
        go_region
        go_wp2_with fail
        refine (begins_at_any s w.heap.size _ d _ (run_below (w' := w1.drew) hF (Below.refl _ _).drew) hs (by omega)).mono ?_
        rw [hb1]
        rintro e w2 ⟨rfl, B2⟩
        go_wp2
        go_ret
        exact ⟨by rw [HM2.out]; rfl, HB.drew.trans (B2.mono HB.size)⟩
      · have hlo : cur.length ≤ (bs s).size := by rw [bs_size]; omega
        obtain ⟨n, hnE⟩ : ∃ n, n = s.length - cur.length := ⟨_, rfl⟩
        have hE : ((bs s).size : Int) - (cur.length : Int) = (n : Int) := by rw [bs_size]; omega
        have hfL : (bs s).extract n (bs s).size = bs (s.drop (s.length - cur.length)) := by rw [hnE]; exact bs_from s _ _ (bs_size s)
        have hfM : (bs s).extract d.length n = bs ((s.drop d.length).take (s.length - cur.length - d.length)) := (bs_mid s _ _).trans (by rw [hnE, List.drop_take])
        have hM0 : d.length ≤ n := by omega
        have hM1 : n ≤ (bs s).size := by rw [bs_size]; omega
        clear hlo
        cases hb2 : Glob.begins (s.drop (s.length - cur.length)) cur
        · have HM2 : Hid (Glob.gmatch p s = false) := by
            have h := HM.out
            rw [if_neg hl, if_pos hb1, hb2] at h
            exact Lib.hid h
          clear hin hall hnE
          go_wp2_with fail
          go_region
          go_wp2_with fail
          refine (begins_at_any s w.heap.size _ d _ (run_below (w' := w1.drew) hF (Below.refl _ _).drew) hs (by omega)).mono ?_
          rw [hb1]
          rintro e w2 ⟨rfl, B2⟩
          go_wp2_with fail
          refine (begins_at_any _ w.heap.size _ cur _ (run_below (run_below HR.last (Below.refl _ _).drew) B2) (by simp; omega) (by simp; omega)).mono ?_
          rw [hb2]
          rintro e w3 ⟨rfl, B3⟩
          go_wp2
          go_ret
          exact ⟨by rw [HM2.out]; rfl, (HB.drew.trans (B2.mono HB.size)).trans (B3.mono (Nat.le_trans HB.size B2.size))⟩
        · have HM2 : Hid (Glob.gmatch p s = Glob.middle ((s.drop d.length).take (s.length - cur.length - d.length)) ds) := by
            have h := HM.out
            rw [if_neg hl, if_pos hb1, if_pos hb2] at h
            exact Lib.hid h
          have hml : ((s.drop d.length).take (s.length - cur.length - d.length)).length ≤ s.length := by simp; omega
          generalize (s.drop d.length).take (s.length - cur.length - d.length) = m0 at *
          clear hnE
          go_wp2_with fail
          go_region
          go_wp2_with fail
          refine (begins_at_any s w.heap.size _ d _ (run_below (w' := w1.drew) hF (Below.refl _ _).drew) hs (by omega)).mono ?_
          rw [hb1]
          rintro e w2 ⟨rfl, B2⟩
          go_wp2_with fail
          refine (begins_at_any _ w.heap.size _ cur _ (run_below (run_below HR.last (Below.refl _ _).drew) B2) (by simp; omega) (by simp; omega)).mono ?_
          rw [hb2]
          rintro e w3 ⟨rfl, B3⟩
          go_wp2_with fail
          have HW : Below w.heap.size w w3 := (HB.drew.trans (B2.mono HB.size)).trans (B3.mono (Nat.le_trans HB.size B2.size))
          have HW1 : Below w1.heap.size w1 w3 := ((Below.refl _ _).drew.trans B2).trans (B3.mono B2.size)
          go_loopw [8, 78] (fun r i wr => ∃ (k : Nat) (m : List UInt8), k ≤ ds.length ∧ i = .int .i64 k ∧ r = .string (bs m) ∧ m.length ≤ s.length ∧ Hid (Glob.gmatch p s = Glob.middle m (ds.drop k)) ∧ Below w.heap.size w wr ∧ Below w1.heap.size w1 wr) (fun _ i _ => ds.length - (intOf i).toNat)
          case atStart => exact ⟨0, m0, Nat.zero_le _, rfl, rfl, hml, HM2, HW, HW1⟩
          case round =>
            obtain ⟨k, m, hk, rfl, rfl, hmlen, HM3, HA, HA1⟩ := hrel
            by_cases hlt : k < ds.length
            · have hdk : decide ((k : Int) < (ds.length : Int)) = true := by simp; omega
              have j0 : (0 : Int) ≤ (k : Int) := by omega
              have j1 : (k : Int) < (ds.length : Int) := by omega
              obtain ⟨ra, rc, rcell, hRr, _, _⟩ := hin (k + 1) (by simp; omega)
              have er : (d :: ds)[k + 1]'(by simp; omega) = ds[k] := rfl
              rw [er] at rcell hRr
              have hGl := (Array.getElem?_eq_some_iff.1 hG).1
              have rcell2 : wr.cell? ⟨G, 1 + k, none⟩ = some (.slice ra (ds[k]).length rc) := by
                rw [Nat.add_comm 1 k, HA1.cell (p := ⟨G, k + 1, none⟩) hGl]
                exact rcell
              have hRw := run_below hRr HA1
              have hrl : (ds[k]).length ≤ 1099511627776 := hall _ (by simp)
              have HM4 : Hid (Glob.gmatch p s = match Glob.findAt m ds[k] with
                  | none => false
                  | some q => Glob.middle (m.drop (q + (ds[k]).length)) (ds.drop (k + 1))) := by
                have h := HM3.out
                rw [List.drop_eq_getElem_cons hlt] at h
                exact Lib.hid h
              clear HM3 hin hall hRr rcell hat htk
              cases hf : Glob.findAt m ds[k] with
              | none =>
                rw [hf] at HM4
                go_wp2_with fail
                refine (find_no m w.heap.size _ ds[k] _ hRw (by omega) hrl hf).mono ?_
                rintro e w4 ⟨rfl, B4⟩
                go_wp2
                go_ret
                exact ⟨by rw [HM4.out]; rfl, HA.trans (B4.mono HA.size)⟩
              | some q =>
                rw [hf] at HM4
                have hq := findAt_le _ _ _ hf
                have hqz : q + (ds[k]).length ≤ (bs m).size := by rw [bs_size]; exact hq
                have hfq : (bs m).extract (q + (ds[k]).length) (bs m).size = bs (m.drop (q + (ds[k]).length)) := bs_from _ _ _ (bs_size _)
                have hmz : (bs m).size ≤ 1099511627776 := by rw [bs_size]; omega
                go_wp2_with fail
                refine (find_yes m w.heap.size _ ds[k] _ hRw (by omega) hrl q hf).mono ?_
                rintro e w4 ⟨rfl, B4⟩
                go_wp2
                go_roundw
                case rel => exact ⟨k + 1, m.drop (q + (ds[k]).length), by omega, by go_num, by rw [hfq], by simp; omega, HM4, HA.trans (B4.mono HA.size), HA1.trans (B4.mono HA1.size)⟩
                case measure => simp [intOf]; omega
            · have hdk : decide ((k : Int) < (ds.length : Int)) = false := by simp; omega
              have HM4 : Hid (Glob.gmatch p s = true) := by
                have h := HM3.out
                have hn0 : ds.drop k = [] := List.drop_eq_nil_of_le (by omega)
                rw [hn0] at h
                exact Lib.hid (h.trans (by unfold Glob.middle; rfl))
              clear HM3 hin hall hat htk
              go_wp2
              go_ret
              exact ⟨by rw [HM4.out]; rfl, HA⟩

end Go.Proofs.Ytimnnldjmmdlmaa
