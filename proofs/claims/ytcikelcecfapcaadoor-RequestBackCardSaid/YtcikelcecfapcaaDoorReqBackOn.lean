/-
  RequestBack: commands that are encoded and fed in pieces.
-/
import Derived.Test.YtcikelcecfapcaaDoorReqBackA
import Derived.Deep.RegionHeld3
namespace Go.Proofs.YtcikelcecfapcaaDoor
open Go.RowKit Rp Rq

theorem back_far (p : Option Addr) (c n : Nat) (h : 10 < n) (w : World) (hE : Errs w) :
    Calls Tryd.prog 6 #[.slice p n c] w fun e w' => e = .returned (.bool true) ∧ Below w.heap.size w w' := by
  have HE := Lib.hid hE
  clear hE
  have hd : decide ((10 : Int) < (n : Int)) = true := decide_eq_true (by omega)
  go_enter Tryd.func6, Tryd.ntmps6
  go_wp2_with fail
  refine (awake_any w HE.out).mono ?_
  rintro e w1 ⟨rfl, hb1⟩
  go_wp2_with fail
  refine (awake_any w1 (HE.out.on hb1)).mono ?_
  rintro e w2 ⟨rfl, hb2⟩
  go_wp2
  go_ret
  exact ⟨rfl, bT hb1 hb2⟩

theorem convert_any {w : World} {p : Option Addr} {c : Nat} {l : List UInt8} (h : Rest w p c l) : (convert 22 9 (.slice p l.length c)).run Tryd.prog w = .ok (.string (bs l)) w := by
  rcases h with ⟨rfl, rfl, rfl⟩ | ⟨b, o, rfl, _, _, h3⟩
  · rw [List.length_nil, run_convert_bytes_string w _ _ 5 none _ _ Tryd.underlying22 Tryd.underlying5 Tryd.underlying9]
    rfl
  · have := convert_rest c l.length (Nat.le_refl _) h3
    rwa [List.take_length] at this

set_option maxRecDepth 20000 in
set_option maxHeartbeats 16000000 in
theorem back_some (cs : List (List Wd)) (n : Nat) (hn : cs.length = n) (hn10 : n ≤ 10) (p : Option Addr) (c : Nat) (w : World) (hE : Errs w) (hC : CsIn w p cs) (hM : ∀ s ∈ cs, s.length ≤ 9223372036854775807 ∧ ∀ x ∈ s, x.length ≤ 9223372036854775807) :
    Calls Tryd.prog 6 #[.slice p n c] w fun e w' => e = .returned (.bool true) ∧ Below w.heap.size w w' := by
  have HE := Lib.hid hE
  have HC := Lib.hid hC
  have HN := Lib.hid hn
  have HMX := Lib.hid hM
  have HAL := Lib.hid (show (allQ cs).length ≤ 10000000 by have := allQ_len cs; omega)
  clear hE hC hn hM
  have hd : decide ((10 : Int) < (n : Int)) = false := decide_eq_false (by omega)
  go_enter Tryd.func6, Tryd.ntmps6
  go_wp2_with fail
  refine (awake_any w HE.out).mono ?_
  rintro e w1 ⟨rfl, hb1⟩
  have HB1 := Lib.hid hb1
  clear hb1
  go_wp2_with fail
  refine (new_any w1).mono ?_
  rintro e w2 ⟨rfl, rfl⟩
  have HST := Lib.hid (show FeI (allQ cs) w w1.heap.size 0 (St.new []) (.slice none 0 0) (.slice none 0 0) [] (.slice none 0 0) (w1.alloc (.cells #[.int .i64 0, .slice none 0 0, .int .i64 0, .slice none 0 0, .int .i64 0] 69)) from FeI.start (rdr_new (heap_alloc_new w1 _)) (bA HB1.out _))
  have HWT := Lib.hid (WantI.start cs w w1.heap.size (w1.alloc (.cells #[.int .i64 0, .slice none 0 0, .int .i64 0, .slice none 0 0, .int .i64 0] 69)))
  have hwR := HB1.out.size
  generalize w1.alloc (.cells #[.int .i64 0, .slice none 0 0, .int .i64 0, .slice none 0 0, .int .i64 0] 69) = w2 at *
  generalize w1.heap.size = R at *
  clear HB1
  go_wp2_with fail
  go_loopw [3, 5, 6] (fun s3 s5 s6 wr => ∃ (i q : Nat) (s : St) (pv wv : Value) (xs : List Hc) (ys : List Wt), i ≤ n ∧ s6 = .int .i64 i ∧ Hid (q = posQ cs i) ∧ Hid (FeI (allQ cs) w R q s pv wv xs s5 wr) ∧ Hid (WantI cs w R i ys s3 wr) ∧ Hid (∀ k, s3.ownBlock = some k → s5.ownBlock ≠ some k)) (fun _ _ s6 _ => n - (intOf s6).toNat)
  case atStart => exact ⟨0, 0, St.new [], _, _, [], [], Nat.zero_le _, rfl, Lib.hid (by simp [posQ, allQ]), HST, HWT, Lib.hid (fun k h => by simp [Value.ownBlock] at h)⟩
  case round =>
    obtain ⟨i, q, s, pv, wv, xs, ys, hi, rfl, HQ, HI, HW, HAP⟩ := hrel
    by_cases hlt : i < n
    · have hd1 : decide ((i : Int) < (n : Int)) = true := decide_eq_true (by omega)
      have hd1' : decide (i < n) = true := decide_eq_true hlt
      have hic : i < cs.length := by have := HN.out; omega
      obtain ⟨g0, o0, qa, da, hp, k0, hwin⟩ := HC.out i hic
      have hmx := HMX.out cs[i] (List.getElem_mem hic)
      have HSK := Lib.hid (fun h => HW.out.skip hic h)
      have HPU := Lib.hid (fun (h : printQ cs[i] ≠ []) (v' : Value) (w' : World) (hown : w'.ownsRow (R + 1) 50 1 v' (ys.length + 1) (wtCells ys ++ [.slice qa cs[i].length da])) => HW.out.push hic h hwin hown)
      have HPN := Lib.hid (posQ_next cs i hic)
      have HPL := Lib.hid (posQ_le cs i hic)
      have HPC := Lib.hid (piece_in cs i hic)
      obtain ⟨x, hx⟩ : ∃ x, cs[i] = x := ⟨_, rfl⟩
      rw [hx] at k0 hwin hmx HSK HPU HPN HPL HPC
      subst hp
      have k1 := cellBelow HI.out.row.below k0
      have HWIN := Lib.hid (fun W (h : Below w.heap.size w W) => hwin.below (bT (Below.refl _ _) h))
      have HWN := Lib.hid hwin
      have HMX2 := Lib.hid hmx
      obtain ⟨xn, hxn⟩ : ∃ xn, xn = x.length := ⟨_, rfl⟩
      rw [← hxn] at k0 k1
      have HXN := Lib.hid hxn
      clear hx hwin hmx hxn
      by_cases hbig : 130 < xn
      · have hd2 : decide ((130 : Int) < (xn : Int)) = true := decide_eq_true (by omega)
        have HBW := Lib.hid HI.out.row.below
        clear k0
        go_wp2
        go_ret
        exact ⟨rfl, HBW.out⟩
      have hd2 : decide ((130 : Int) < (xn : Int)) = false := decide_eq_false (by omega)
      have K0 := Lib.hid k0
      clear k0
      go_wp2_with fail
      go_loopw [7] (fun s7 wi => ∃ j : Nat, j ≤ xn ∧ s7 = .int .i64 j ∧ wi = wr) (fun s7 _ => xn - (intOf s7).toNat)
      case atStart => exact ⟨0, Nat.zero_le _, rfl, rfl⟩
      case round =>
        obtain ⟨j, hj, rfl, hwi⟩ := hrel
        obtain rfl := hwi.symm
        by_cases hjl : j < xn
        · have hd3 : decide ((j : Int) < (xn : Int)) = true := decide_eq_true (by omega)
          have hd3' : decide (j < xn) = true := decide_eq_true hjl
          have hjx : j < x.length := by have := HXN.out; omega
          obtain ⟨g1, o1, hq1, hwat⟩ : ∃ g o, qa = some ⟨g, o, none⟩ ∧ WAt w g o x := by
            rcases HWN.out with h | h
            · rw [h] at hjx; simp at hjx
            · exact h
          subst hq1
          have k2 := cellBelow HI.out.row.below (hwat j hjx)
          obtain ⟨X, hX⟩ : ∃ X, X = bs x[j] := ⟨_, rfl⟩
          rw [← hX] at k2
          clear hX hwat
          by_cases hlong : 4100 < X.size
          · have hd4 : decide ((4100 : Int) < (X.size : Int)) = true := decide_eq_true (by omega)
            have HBW := Lib.hid HI.out.row.below
            go_wp2
            go_ret
            exact ⟨rfl, HBW.out⟩
          · have hd4 : decide ((4100 : Int) < (X.size : Int)) = false := decide_eq_false (by omega)
            go_wp2_with fail
            go_roundw
            case rel => exact ⟨j + 1, by omega, by go_num, by first | rfl | trivial⟩
            case measure => simp [intOf]; omega
        · have hd3 : decide ((j : Int) < (xn : Int)) = false := decide_eq_false (by omega)
          have hd3' : decide (j < xn) = false := decide_eq_false hjl
          have hPR := printq_any x qa da wr (HE.out.on HI.out.row.below).tab (HWN.out.below HI.out.row.below)
          rw [← HXN.out] at hPR
          have HPR := Lib.hid hPR
          clear hPR
          go_wp2_with fail
          refine HPR.out.mono ?_
          rintro e w2 ⟨⟨v2, rfl, hown⟩, hb2⟩
          have hml := printQ_len x
          obtain ⟨m, hm⟩ : ∃ m, m = printQ x := ⟨_, rfl⟩
          rw [← hm] at hown hml HSK HPU HPN HPL HPC
          obtain ⟨qs, ds, rfl, hr⟩ := own_rest hown
          have hb02 := bT HI.out.row.below hb2
          obtain ⟨M, hM⟩ : ∃ M, M = bs m := ⟨_, rfl⟩
          have cvS : ∀ W, Below w2.heap.size w2 W → (convert 22 9 (.slice qs m.length ds)).run Tryd.prog W = .ok (.string M) W := fun W hW => by rw [hM]; exact convert_any (hr.below hW)
          have hRP := fun W (hW : Below w.heap.size w W) => refpq_any x qa da W (HWN.out.below hW)
          rw [← HXN.out, ← hm, ← hM] at hRP
          have HRP := Lib.hid hRP
          have HR := Lib.hid hr
          have HOWN := Lib.hid hown
          have HB02 := Lib.hid hb02
          have HB2 := Lib.hid hb2
          have HCL := Lib.hid (fun W (hW : Below w2.heap.size w2 W) => cellBelow (bT hb02 hW) K0.out)
          have hMM : (M.toList == M.toList) = true := beq_self_eq_true _
          have HM := Lib.hid hm
          obtain ⟨S, hS⟩ : ∃ S, S = m.length := ⟨_, rfl⟩
          rw [← hS] at cvS hml
          have HSL := Lib.hid hS
          clear hRP hr hown hb02 hb2 hM hm
          rw [← hS]
          clear hS
          go_wp2
          refine wp_region_held_drew (S := fun W => Below w2.heap.size w2 W ∧ W.cell? ⟨g0, o0 + i, none⟩ = some (.slice qa xn da)) (by kernel_rfl) (⟨bD (Below.refl _ _), HCL.out _ (bD (Below.refl _ _))⟩) (fun hHeld => ?_)
          refine wpAnyH_take (i := 0) (v := ?_) rfl (by kernel_rfl) (by kernel_rfl) (by kernel_rfl) (fun _ _ _ h => h) (Or.inl ⟨by rfl, ?_⟩) (by assumption) ?_
          rotate_left
          · (intro w hSw; (try dsimp only at hSw); go_simp; try (with_reducible rfl))
          try simp only [Act.put, List.setIfInBounds_toArray, List.set_cons_zero, List.set_cons_succ, List.getElem_toArray, List.getElem_cons_zero]
          refine wpAnyH_take (i := 1) (v := ?_) rfl (by kernel_rfl) (by kernel_rfl) (by kernel_rfl) (fun _ _ _ h => h) (Or.inl ⟨by rfl, ?_⟩) (by assumption) ?_
          rotate_left
          · (intro w hSw; (try dsimp only at hSw); go_simp; try (with_reducible rfl))
          try simp only [Act.put, List.setIfInBounds_toArray, List.set_cons_zero, List.set_cons_succ, List.getElem_toArray, List.getElem_cons_zero, List.getElem_cons_succ]
          refine wpAnyH_take (i := 2) (v := ?_) rfl (by kernel_rfl) (by kernel_rfl) (by kernel_rfl) (fun _ _ _ h => h) (Or.inl ⟨by rfl, ?_⟩) (by assumption) ?_
          rotate_left
          · (intro w hSw; (try dsimp only at hSw); go_simp; try (with_reducible rfl))
          try simp only [Act.put, List.setIfInBounds_toArray, List.set_cons_zero, List.set_cons_succ, List.getElem_toArray, List.getElem_cons_zero, List.getElem_cons_succ]
          refine wpAnyH_take (i := 3) (v := ?_) rfl (by kernel_rfl) (by kernel_rfl) (by kernel_rfl) (fun _ _ _ h => h) (Or.inl ⟨by rfl, ?_⟩) (by assumption) ?_
          rotate_left
          · (intro w hSw; (try dsimp only at hSw); go_simp; try (with_reducible rfl))
          try simp only [Act.put, List.setIfInBounds_toArray, List.set_cons_zero, List.set_cons_succ, List.getElem_toArray, List.getElem_cons_zero, List.getElem_cons_succ]
          refine wpAnyH_take (i := 4) (v := ?_) rfl (by kernel_rfl) (by kernel_rfl) (by kernel_rfl) (fun _ _ _ h => h) (Or.inl ⟨by rfl, ?_⟩) (by assumption) ?_
          rotate_left
          · (intro w hSw; (try dsimp only at hSw); go_simp; try (with_reducible rfl))
          try simp only [Act.put, List.setIfInBounds_toArray, List.set_cons_zero, List.set_cons_succ, List.getElem_toArray, List.getElem_cons_zero, List.getElem_cons_succ]
          refine wpAnyH_take (i := 5) (v := ?_) rfl (by kernel_rfl) (by kernel_rfl) (by kernel_rfl) (fun _ _ _ h => h) (Or.inl ⟨by rfl, ?_⟩) (by assumption) ?_
          rotate_left
          · (intro w hSw; (try dsimp only at hSw); go_simp; try (with_reducible rfl))
          try simp only [Act.put, List.setIfInBounds_toArray, List.set_cons_zero, List.set_cons_succ, List.getElem_toArray, List.getElem_cons_zero, List.getElem_cons_succ]
          refine wpAnyH_ready (rs := [6]) (by kernel_rfl) (by simp) ?_
          refine AllReadyH.cons rfl (fun K hK => ?_) AllReadyH.nil
          go_simp
          go_at_call 26
          refine (HRP.out _ (bT HB02.out (bD (Below.refl _ _)))).mono ?_
          rintro e3 w3 ⟨rfl, hb3⟩
          have hS3 := bT (bD (Below.refl w2.heap.size w2)) hb3
          clear hb3
          refine hK.out _ _ (⟨hS3, HCL.out _ hS3⟩) (fun hHeld2 => ?_)
          clear hK K hHeld
          have hHeld := hHeld2
          clear hHeld2
          try simp only [Act.put, List.setIfInBounds_toArray, List.set_cons_zero, List.set_cons_succ, List.getElem_toArray, List.getElem_cons_zero, List.getElem_cons_succ]
          refine wpAnyH_take (i := 7) (v := ?_) rfl (by kernel_rfl) (by kernel_rfl) (by kernel_rfl) (fun _ _ _ h => h) (Or.inl ⟨by rfl, ?_⟩) (by assumption) ?_
          rotate_left
          · (intro w hSw; (try dsimp only at hSw); go_simp; try (with_reducible rfl))
          try simp only [Act.put, List.setIfInBounds_toArray, List.set_cons_zero, List.set_cons_succ, List.getElem_toArray, List.getElem_cons_zero, List.getElem_cons_succ]
          refine wpAnyH_done (by kernel_rfl) ?_ _
          have HB3 := Lib.hid (bT HB02.out hS3)
          have HI3 := Lib.hid (HI.out.on (bT HB2.out hS3))
          have HW3 := Lib.hid (HW.out.on (bT HB2.out hS3))
          have HOWN3 := Lib.hid ((Chg.below hS3 (fun _ => False)).own HOWN.out (fun _ _ e => e))
          have k3 := HCL.out w3 hS3
          have hsz3 := HI3.out.row.row
          clear HOWN cvS HR hMM hHeld HRP
          by_cases hS0 : S = 0
          · have hSp : decide ((0 : Int) < (S : Int)) = false := decide_eq_false (by omega)
            have hSp' : decide (0 < S) = false := decide_eq_false (by omega)
            have hm0 : m = [] := List.eq_nil_of_length_eq_zero (by have := HSL.out; omega)
            have HW3' := Lib.hid ((HSK.out hm0).on (bT HB2.out hS3))
            have HQE := Lib.hid (show q = posQ cs (i + 1) by rw [HPN.out, hm0, HQ.out]; rfl)
            clear hm0 k1 k3
            go_wp2_with fail
            go_loopw [5, 9] (fun s5 s9 wi => s9 = .int .i64 0 ∧ s5 = u5 ∧ wi = w3) (fun _ _ _ => 0)
            case atStart => exact ⟨rfl, rfl, rfl⟩
            case round =>
              obtain ⟨rfl, hs5, hwi⟩ := hrel
              obtain rfl := hwi.symm
              obtain rfl := hs5.symm
              go_wp2_with fail
              go_roundw
              case rel => exact ⟨i + 1, q, s, pv, wv, xs, ys, by omega, by go_num, HQE, HI3, HW3', HAP⟩
              case measure => simp [intOf]; omega
          · have hSp : decide ((0 : Int) < (S : Int)) = true := decide_eq_true (by omega)
            have hSp' : decide (0 < S) = true := decide_eq_true (by omega)
            obtain ⟨i0, hi0, hz0, hz1, hz2⟩ := info_parts info_row
            obtain ⟨gs, hqs⟩ : ∃ gs, qs = some ⟨gs, 0, none⟩ := by
              rcases HOWN3.out.2 with ⟨hv, h0⟩ | ⟨g, cap, cur, hv, _⟩
              · have := HSL.out; omega
              · cases hv; exact ⟨g, rfl⟩
            subst hqs
            have hds : S ≤ ds ∧ ds ≤ 9223372036854775807 := by
              rcases HOWN3.out.2 with ⟨hv, h0⟩ | ⟨g, cap, cur, hv, _, _, h1, h2, _⟩
              · cases hv
              · cases hv
                have := HSL.out
                unfold maxLen at h2
                omega
            have hgs := HOWN3.out.lt gs rfl
            have hne : m ≠ [] := fun e => by have := HSL.out; rw [e] at this; simp at this; omega
            have hyf := HW3.out.few
            have hNn := HN.out
            have hB3s := HB3.out.size
            have hRr : R < w3.heap.size := HI3.out.rdr.box.lt
            have HOA := Lib.hid (fun o => HW3.out.row.alloc o)
            clear k1
            go_wp2_with (at_builtin; refine wpList_append_lies _ rfl (.tmp 69) (.tmp 74) 41 rfl (R + 1) 50 i0 (.slice none 0 0) 1 24 Tryd.underlying41 hi0 hz0 hz1 hz2 rfl (by decide) _ ys.length (wtCells ys) rfl (HOA.out _) ⟨w3.heap.size, 0, none⟩ 1 1 [.slice qa xn da] rfl rfl ?c1 (by intro y hy; simp at hy; rw [hy]; rfl) (by decide) (by unfold maxLen; omega) (by omega) (by simp; omega) (w3.heap.size + 1) (by simp) ?_)
            case c1 =>
              intro k u hk
              rw [Lib.add_plain, Nat.zero_add, Lib.cell_of_heap (heap_alloc_new w3 _), ← hk]
              match k with
              | 0 => rfl
              | k + 1 => rfl
            intro gw capw w4 hown' hgr hgw hgl
            have hbA := bA (Below.refl w3.heap.size w3) (.cells #[.slice qa xn da] 50)
            have hI4 := (HI3.out.on hbA).wide hwR (HOA.out (.cells #[.slice qa xn da] 50)) HAP.out hgr
            have hW4 := HPU.out hne _ _ (by rw [← HXN.out]; exact hown')
            have hS4 : w4.ownsRow (R + 1) 5 1 (.slice (some ⟨gs, 0, none⟩) m.length ds) m.length (sCells m) := (Chg.grown hgr).own ((Chg.below hbA (fun _ => False)).own (own_base HOWN3.out (by have := HI.out.rdr.box.lt; omega)) (fun _ _ e => e)) (fun k hk e => own_apart HOWN3.out HW3.out.row (by decide) k hk e.symm)
            rw [← HSL.out] at hS4
            have hap4 : ∀ k, (Value.slice (some ⟨gw, 0, none⟩) (ys.length + 1) capw).ownBlock = some k → Value.ownBlock u5 ≠ some k := fun k hk e => by
              have hk' : gw = k := by simpa [Value.ownBlock] using hk
              subst hk'
              rcases hgw with h | h
              · exact HAP.out gw h e
              · have h1 := (HI3.out.row.row.lt gw e).2
                omega
            have hpv4 : pv.ownBlock ≠ some gs := fun e => by
              have h1 := (HI.out.rdr.rest.lt gs e).2
              omega
            have HI4 := Lib.hid hI4
            have HW4 := Lib.hid hW4
            have HS4 := Lib.hid hS4
            have HA4 := Lib.hid hap4
            have HP4 := Lib.hid hpv4
            have HPP := Lib.hid (show posQ cs (i + 1) = posQ cs i + S by rw [HPN.out, HSL.out])
            have HPLE := Lib.hid (show posQ cs i + S ≤ (allQ cs).length by rw [HSL.out]; exact HPL.out)
            clear hbA hI4 hW4 hS4 hap4 hpv4 hown' hgr hgw hgl hgs hsz3 k3 hyf hi0 hz0 hz1 hz2 hRr
            go_wp2_with fail
            go_loopw [5, 9] (fun s5 s9 wi => ∃ (kk q2 : Nat) (s2 : St) (pv2 wv2 : Value) (xs2 : List Hc), kk ≤ S + 50 ∧ s9 = .int .i64 kk ∧ Hid (q2 = posQ cs i + min kk S) ∧ Hid (FeI (allQ cs) w R q2 s2 pv2 wv2 xs2 s5 wi) ∧ Hid (WantI cs w R (i + 1) (ys ++ [(qa, da, x)]) (.slice (some ⟨gw, 0, none⟩) (ys.length + 1) capw) wi) ∧ Hid (∀ k, (Value.slice (some ⟨gw, 0, none⟩) (ys.length + 1) capw).ownBlock = some k → s5.ownBlock ≠ some k) ∧ Hid (wi.ownsRow (R + 1) 5 1 (.slice (some ⟨gs, 0, none⟩) S ds) S (sCells m)) ∧ Hid (pv2.ownBlock ≠ some gs)) (fun _ s9 _ => S - (intOf s9).toNat)
            case atStart => exact ⟨0, q, s, pv, wv, xs, Nat.zero_le _, rfl, Lib.hid (by rw [HQ.out, Nat.zero_min, Nat.add_zero]), HI4, HW4, HA4, HS4, HP4⟩
            case round =>
              obtain ⟨kk, q2, s2, pv2, wv2, xs2, hkk, rfl, HQ2, HI2, HW2, HA2, HS2, HP2⟩ := hrel
              by_cases hks : kk < S
              · have hd5 : decide ((kk : Int) < (S : Int)) = true := decide_eq_true (by omega)
                have hd5' : decide (kk < S) = true := decide_eq_true hks
                obtain ⟨q1, hq1⟩ : ∃ q1, q1 = min S (kk + 7) := ⟨_, rfl⟩
                obtain ⟨e1, he1⟩ : ∃ e1, e1 = min S (kk + 50) := ⟨_, rfl⟩
                have hmin1 : min (S : Int) ((kk : Int) + 7) = (q1 : Int) := by omega
                have hmin2 : min (S : Int) ((kk : Int) + 50) = (e1 : Int) := by omega
                have hb1 : kk ≤ q1 ∧ q1 ≤ e1 ∧ e1 ≤ S := by omega
                have j1 : (0 : Int) ≤ (kk : Int) := by omega
                have j2 : (kk : Int) ≤ (q1 : Int) := by omega
                have j3 : (q1 : Int) ≤ (ds : Int) := by omega
                have j4 : (q1 : Int) ≤ (e1 : Int) := by omega
                have j5 : (e1 : Int) ≤ (ds : Int) := by omega
                have hck : (ds = kk) = False := eq_false (by omega)
                have hw7 : IntKind.i64.wrap ((kk : Int) + 7) = (kk : Int) + 7 := by rw [IntKind.wrap_i64]; omega
                have hw50 : IntKind.i64.wrap ((kk : Int) + 50) = (kk : Int) + 50 := by rw [IntKind.wrap_i64]; omega
                obtain ⟨p2, hp2⟩ : ∃ p2, (if ds = q1 then (some ⟨gs, 0, none⟩ : Option Addr) else some ⟨gs, q1, none⟩) = p2 := ⟨_, rfl⟩
                have HMS := Lib.hid (show m.length = S from HSL.out.symm)
                have hsr : Rest wr (some ⟨gs, 0, none⟩) ds m := by
                  have h1 := HS2.out
                  rw [← HMS.out] at h1
                  obtain ⟨q', d', hv, hr'⟩ := own_rest h1
                  cases hv
                  exact hr'
                have hr1 : Rest wr (some ⟨gs, kk, none⟩) (ds - kk) ((m.drop kk).take (q1 - kk)) := by
                  rcases tail_takeB (.inl (sub_from (b := gs) (o := 0) kk (by rw [HMS.out]; omega) (some ⟨gs, kk, none⟩) (by rw [if_neg (by omega), Nat.zero_add]) wr hsr)) (q1 - kk) with h | ⟨h, _⟩
                  · exact h
                  · have := congrArg List.length h
                    rw [List.length_take, List.length_drop, HMS.out] at this
                    simp at this
                    omega
                have hr2 : Rest wr p2 (ds - q1) ((m.drop q1).take (e1 - q1)) := by
                  have h0 := sub_from (b := gs) (o := 0) q1 (by rw [HMS.out]; omega) p2 (by rw [← hp2, Nat.zero_add]) wr hsr
                  rcases h0 with ⟨h, _⟩ | ⟨b, o, h1, h2, h3, h4⟩
                  · rw [← hp2] at h
                    split at h <;> cases h
                  · exact .inr ⟨b, o, h1, by rw [List.length_take]; omega, h3, fun j hj => by
                      rw [List.length_take] at hj
                      rw [List.getElem_take]
                      exact h4 j (by omega)⟩
                have hl1 : ((m.drop kk).take (q1 - kk)).length = q1 - kk := by rw [List.length_take, List.length_drop, HMS.out]; omega
                have hl2 : ((m.drop q1).take (e1 - q1)).length = e1 - q1 := by rw [List.length_take, List.length_drop, HMS.out]; omega
                have hp2b : ∀ b o, p2 = some ⟨b, o, none⟩ → b = gs := fun b o h => by
                  rw [← hp2] at h
                  split at h <;> (cases h; rfl)
                have HL1 := Lib.hid hl1
                have HL2 := Lib.hid hl2
                have hbA := bA (bD (Below.refl wr.heap.size wr)) (.cells #[.slice (some ⟨gs, kk, none⟩) (q1 - kk) (ds - kk), .slice p2 (e1 - q1) (ds - q1)] 22)
                have hR5 := HI2.out.rdr.on hbA
                have hgR : gs ≠ R := fun e => own_ne HS2.out HI2.out.rdr.box (by decide) (by rw [e]; rfl)
                have hlt0 : R < wr.heap.size := HI2.out.rdr.box.lt
                have hgl := (HS2.out.lt gs rfl).2
                have hfew := HI2.out.few
                have hacc := two_pieces s2.l m kk q1 e1 hb1.1 hb1.2.1 (some ⟨gs, kk, none⟩) p2 (ds - kk) (ds - q1)
                have hal := HAL.out
                have hFD := feed_any w HE.out R s2 pv2 wv2 [⟨some ⟨gs, kk, none⟩, ds - kk, (m.drop kk).take (q1 - kk)⟩, ⟨p2, ds - q1, (m.drop q1).take (e1 - q1)⟩] wr.heap.size 2 (wr.drew.alloc (.cells #[.slice (some ⟨gs, kk, none⟩) (q1 - kk) (ds - kk), .slice p2 (e1 - q1) (ds - q1)] 22)) hR5 (bT HI2.out.row.below hbA) hwR
                  (fun j hj => by
                    have hnew := heap_alloc_new wr.drew (.cells #[.slice (some ⟨gs, kk, none⟩) (q1 - kk) (ds - kk), .slice p2 (e1 - q1) (ds - q1)] 22)
                    have hj2 : j < 2 := hj
                    match j, hj2 with
                    | 0, _ =>
                      refine ⟨?_, hr1.below hbA, fun b o h => ?_⟩
                      · show _ = some (Value.slice (some ⟨gs, kk, none⟩) ((m.drop kk).take (q1 - kk)).length (ds - kk))
                        rw [hl1, Lib.cell_of_heap (b := wr.heap.size) (by simpa using hnew)]
                        rfl
                      · cases h
                        rintro (e | e)
                        · exact hgR e
                        · exact HP2.out e
                    | 1, _ =>
                      refine ⟨?_, hr2.below hbA, fun b o h => ?_⟩
                      · show _ = some (Value.slice p2 ((m.drop q1).take (e1 - q1)).length (ds - q1))
                        rw [hl2, Lib.cell_of_heap (b := wr.heap.size) (by simpa using hnew)]
                        rfl
                      · rw [hp2b b o h]
                        rintro (e | e)
                        · exact hgR e
                        · exact HP2.out e) (by omega) (fun e => by have := (HI2.out.rdr.rest.lt _ e).2; omega) (by simp)
                  (by
                    show (accA s2.l _ 2).length ≤ _
                    rw [hacc, List.length_append, List.length_take, List.length_drop, HMS.out]
                    omega) (by omega)
                have hFD2 : Calls Tryd.prog 21 #[.pointer (some ⟨R, 0, none⟩), .slice (some ⟨wr.heap.size, 0, none⟩) 2 2] (wr.drew.alloc (.cells #[.slice (some ⟨gs, kk, none⟩) (q1 - kk) (ds - kk), .slice p2 (e1 - q1) (ds - q1)] 22)) (FeedV R ⟨s2.c, s2.ws, s2.tk, accA s2.l [⟨some ⟨gs, kk, none⟩, ds - kk, (m.drop kk).take (q1 - kk)⟩, ⟨p2, ds - q1, (m.drop q1).take (e1 - q1)⟩] 2⟩ pv2 wv2 (wr.drew.alloc (.cells #[.slice (some ⟨gs, kk, none⟩) (q1 - kk) (ds - kk), .slice p2 (e1 - q1) (ds - q1)] 22))) := hFD
                rw [hacc] at hFD2
                have hq2 : q2 = posQ cs i + kk := by rw [HQ2.out, Nat.min_eq_left (by omega)]
                have HGS := Lib.hid (fun (cs' : List (List Wd)) (t : Stop) (hg : Rq.Go ⟨s2.c, s2.ws, s2.tk, s2.l ++ (m.drop kk).take (e1 - kk)⟩ cs' t) => HI2.out.goes (E := posQ cs i + e1) (by rw [hq2]; omega) (by rw [hq2, HPC.out kk e1 (by omega) (by rw [← HSL.out]; omega)]; exact hg))
                have HFD := Lib.hid hFD2
                have HQ1 := Lib.hid hq1
                have HE1 := Lib.hid he1
                have HBA := Lib.hid hbA
                have HR5 := Lib.hid hR5
                have HP2B := Lib.hid hp2b
                clear hq2 hq1 he1 hFD hFD2 hacc hr1 hr2 hl1 hl2 hsr hbA hR5 hp2b hgR hgl
                go_wp2
                refine wp_region_held_drew (S := fun _ => True) (by kernel_rfl) (trivial) (fun hHeld => ?_)
                refine wpAnyH_take (i := 0) (v := ?_) rfl (by kernel_rfl) (by kernel_rfl) (by kernel_rfl) (fun _ _ _ h => h) (Or.inl ⟨by rfl, ?_⟩) (by assumption) ?_
                rotate_left
                · (intro w hSw; (try dsimp only at hSw); go_simp; try (with_reducible rfl))
                try simp only [Act.put, List.setIfInBounds_toArray, List.set_cons_zero, List.set_cons_succ, List.getElem_toArray, List.getElem_cons_zero]
                refine wpAnyH_take (i := 1) (v := ?_) rfl (by kernel_rfl) (by kernel_rfl) (by kernel_rfl) (fun _ _ _ h => h) (Or.inl ⟨by rfl, ?_⟩) (by assumption) ?_
                rotate_left
                · (intro w hSw; (try dsimp only at hSw); go_simp; try (with_reducible rfl))
                try simp only [Act.put, List.setIfInBounds_toArray, List.set_cons_zero, List.set_cons_succ, List.getElem_toArray, List.getElem_cons_zero, List.getElem_cons_succ]
                refine wpAnyH_take (i := 2) (v := ?_) rfl (by kernel_rfl) (by kernel_rfl) (by kernel_rfl) (fun _ _ _ h => h) (Or.inl ⟨by rfl, ?_⟩) (by assumption) ?_
                rotate_left
                · (intro w hSw; (try dsimp only at hSw); go_simp; try (with_reducible rfl))
                try simp only [Act.put, List.setIfInBounds_toArray, List.set_cons_zero, List.set_cons_succ, List.getElem_toArray, List.getElem_cons_zero, List.getElem_cons_succ]
                refine wpAnyH_take (i := 3) (v := ?_) rfl (by kernel_rfl) (by kernel_rfl) (by kernel_rfl) (fun _ _ _ h => h) (Or.inl ⟨by rfl, ?_⟩) (by assumption) ?_
                rotate_left
                · (intro w hSw; (try dsimp only at hSw); go_simp; try (with_reducible rfl))
                try simp only [Act.put, List.setIfInBounds_toArray, List.set_cons_zero, List.set_cons_succ, List.getElem_toArray, List.getElem_cons_zero, List.getElem_cons_succ]
                refine wpAnyH_take (i := 4) (v := ?_) rfl (by kernel_rfl) (by kernel_rfl) (by kernel_rfl) (fun _ _ _ h => h) (Or.inl ⟨by rfl, ?_⟩) (by assumption) ?_
                rotate_left
                · (intro w hSw; (try dsimp only at hSw); go_simp; try (with_reducible rfl))
                try simp only [Act.put, List.setIfInBounds_toArray, List.set_cons_zero, List.set_cons_succ, List.getElem_toArray, List.getElem_cons_zero, List.getElem_cons_succ]
                refine wpAnyH_take (i := 5) (v := ?_) rfl (by kernel_rfl) (by kernel_rfl) (by kernel_rfl) (fun _ _ _ h => h) (Or.inl ⟨by rfl, ?_⟩) (by assumption) ?_
                rotate_left
                · (intro w hSw; (try dsimp only at hSw); go_simp; try (with_reducible rfl))
                try simp only [Act.put, List.setIfInBounds_toArray, List.set_cons_zero, List.set_cons_succ, List.getElem_toArray, List.getElem_cons_zero, List.getElem_cons_succ]
                refine wpAnyH_take (i := 6) (v := ?_) rfl (by kernel_rfl) (by kernel_rfl) (by kernel_rfl) (fun _ _ _ h => h) (Or.inl ⟨by rfl, ?_⟩) (by assumption) ?_
                rotate_left
                · (intro w hSw; (try dsimp only at hSw); go_simp; try (with_reducible rfl))
                try simp only [Act.put, List.setIfInBounds_toArray, List.set_cons_zero, List.set_cons_succ, List.getElem_toArray, List.getElem_cons_zero, List.getElem_cons_succ]
                refine wpAnyH_take (i := 7) (v := ?_) rfl (by kernel_rfl) (by kernel_rfl) (by kernel_rfl) (fun _ _ _ h => h) (Or.inl ⟨by rfl, ?_⟩) (by assumption) ?_
                rotate_left
                · (intro w hSw; (try dsimp only at hSw); go_simp; try (with_reducible rfl))
                try simp only [Act.put, List.setIfInBounds_toArray, List.set_cons_zero, List.set_cons_succ, List.getElem_toArray, List.getElem_cons_zero, List.getElem_cons_succ]
                refine wpAnyH_take (i := 8) (v := ?_) rfl (by kernel_rfl) (by kernel_rfl) (by kernel_rfl) (fun _ _ _ h => h) (Or.inl ⟨by rfl, ?_⟩) (by assumption) ?_
                rotate_left
                · (intro w hSw; (try dsimp only at hSw); go_simp; try (with_reducible rfl))
                try simp only [Act.put, List.setIfInBounds_toArray, List.set_cons_zero, List.set_cons_succ, List.getElem_toArray, List.getElem_cons_zero, List.getElem_cons_succ]
                refine wpAnyH_take (i := 9) (v := ?_) rfl (by kernel_rfl) (by kernel_rfl) (by kernel_rfl) (fun _ _ _ h => h) (Or.inl ⟨by rfl, ?_⟩) (by assumption) ?_
                rotate_left
                · (intro w hSw; (try dsimp only at hSw); go_simp; try (with_reducible rfl))
                try simp only [Act.put, List.setIfInBounds_toArray, List.set_cons_zero, List.set_cons_succ, List.getElem_toArray, List.getElem_cons_zero, List.getElem_cons_succ]
                refine wpAnyH_take (i := 10) (v := ?_) rfl (by kernel_rfl) (by kernel_rfl) (by kernel_rfl) (fun _ _ _ h => h) (Or.inl ⟨by rfl, ?_⟩) (by assumption) ?_
                rotate_left
                · (intro w hSw; (try dsimp only at hSw); go_simp; try (with_reducible rfl))
                try simp only [Act.put, List.setIfInBounds_toArray, List.set_cons_zero, List.set_cons_succ, List.getElem_toArray, List.getElem_cons_zero, List.getElem_cons_succ]
                refine wpAnyH_take (i := 11) (v := ?_) rfl (by kernel_rfl) (by kernel_rfl) (by kernel_rfl) (fun _ _ _ h => h) (Or.inl ⟨by rfl, ?_⟩) (by assumption) ?_
                rotate_left
                · (intro w hSw; (try dsimp only at hSw); go_simp; try (with_reducible rfl))
                try simp only [Act.put, List.setIfInBounds_toArray, List.set_cons_zero, List.set_cons_succ, List.getElem_toArray, List.getElem_cons_zero, List.getElem_cons_succ]
                refine wpAnyH_take (i := 12) (v := ?_) rfl (by kernel_rfl) (by kernel_rfl) (by kernel_rfl) (fun _ _ _ h => h) (Or.inl ⟨by rfl, ?_⟩) (by assumption) ?_
                rotate_left
                · (intro w hSw; (try dsimp only at hSw); go_simp; try (with_reducible rfl))
                try simp only [Act.put, List.setIfInBounds_toArray, List.set_cons_zero, List.set_cons_succ, List.getElem_toArray, List.getElem_cons_zero, List.getElem_cons_succ]
                refine wpAnyH_take (i := 13) (v := ?_) rfl (by kernel_rfl) (by kernel_rfl) (by kernel_rfl) (fun _ _ _ h => h) (Or.inl ⟨by rfl, ?_⟩) (by assumption) ?_
                rotate_left
                · (intro w hSw; (try dsimp only at hSw); go_simp; try (with_reducible rfl))
                try simp only [Act.put, List.setIfInBounds_toArray, List.set_cons_zero, List.set_cons_succ, List.getElem_toArray, List.getElem_cons_zero, List.getElem_cons_succ]
                refine wpAnyH_take (i := 14) (v := ?_) rfl (by kernel_rfl) (by kernel_rfl) (by kernel_rfl) (fun _ _ _ h => h) (Or.inl ⟨by rfl, ?_⟩) (by assumption) ?_
                rotate_left
                · (intro w hSw; (try dsimp only at hSw); go_simp; try (with_reducible rfl))
                try simp only [Act.put, List.setIfInBounds_toArray, List.set_cons_zero, List.set_cons_succ, List.getElem_toArray, List.getElem_cons_zero, List.getElem_cons_succ]
                refine wpAnyH_take (i := 15) (v := ?_) rfl (by kernel_rfl) (by kernel_rfl) (by kernel_rfl) (fun _ _ _ h => h) (Or.inl ⟨by rfl, ?_⟩) (by assumption) ?_
                rotate_left
                · (intro w hSw; (try dsimp only at hSw); go_simp; try (with_reducible rfl))
                try simp only [Act.put, List.setIfInBounds_toArray, List.set_cons_zero, List.set_cons_succ, List.getElem_toArray, List.getElem_cons_zero, List.getElem_cons_succ]
                refine wpAnyH_take (i := 16) (v := ?_) rfl (by kernel_rfl) (by kernel_rfl) (by kernel_rfl) (fun _ _ _ h => h) (Or.inl ⟨by rfl, ?_⟩) (by assumption) ?_
                rotate_left
                · (intro w hSw; (try dsimp only at hSw); go_simp; try (with_reducible rfl))
                try simp only [Act.put, List.setIfInBounds_toArray, List.set_cons_zero, List.set_cons_succ, List.getElem_toArray, List.getElem_cons_zero, List.getElem_cons_succ]
                refine wpAnyH_take (i := 17) (v := ?_) rfl (by kernel_rfl) (by kernel_rfl) (by kernel_rfl) (fun _ _ _ h => h) (Or.inl ⟨by rfl, ?_⟩) (by assumption) ?_
                rotate_left
                · (intro w hSw; (try dsimp only at hSw); go_simp; try (with_reducible rfl))
                try simp only [Act.put, List.setIfInBounds_toArray, List.set_cons_zero, List.set_cons_succ, List.getElem_toArray, List.getElem_cons_zero, List.getElem_cons_succ]
                refine wpAnyH_take (i := 18) (v := ?_) rfl (by kernel_rfl) (by kernel_rfl) (by kernel_rfl) (fun _ _ _ h => h) (Or.inl ⟨by rfl, ?_⟩) (by assumption) ?_
                rotate_left
                · (intro w hSw; (try dsimp only at hSw); go_simp; try (with_reducible rfl))
                try simp only [Act.put, List.setIfInBounds_toArray, List.set_cons_zero, List.set_cons_succ, List.getElem_toArray, List.getElem_cons_zero, List.getElem_cons_succ]
                refine wpAnyH_take (i := 19) (v := ?_) rfl (by kernel_rfl) (by kernel_rfl) (by kernel_rfl) (fun _ _ _ h => h) (Or.inl ⟨by rfl, ?_⟩) (by assumption) ?_
                rotate_left
                · (intro w hSw; (try dsimp only at hSw); go_simp; try (with_reducible rfl))
                try simp only [Act.put, List.setIfInBounds_toArray, List.set_cons_zero, List.set_cons_succ, List.getElem_toArray, List.getElem_cons_zero, List.getElem_cons_succ]
                refine wpAnyH_take (i := 20) (v := ?_) rfl (by kernel_rfl) (by kernel_rfl) (by kernel_rfl) (fun _ _ _ h => h) (Or.inl ⟨by rfl, ?_⟩) (by assumption) ?_
                rotate_left
                · (intro w hSw; (try dsimp only at hSw); go_simp; try (with_reducible rfl))
                try simp only [Act.put, List.setIfInBounds_toArray, List.set_cons_zero, List.set_cons_succ, List.getElem_toArray, List.getElem_cons_zero, List.getElem_cons_succ]
                refine wpAnyH_ready (rs := [21]) (by kernel_rfl) (by simp) ?_
                refine AllReadyH.cons rfl (fun K hK => ?_) AllReadyH.nil
                go_simp
                refine hK.out _ _ (trivial) (fun hHeld2 => ?_)
                clear hK K hHeld
                have hHeld := hHeld2
                clear hHeld2
                try simp only [Act.put, List.setIfInBounds_toArray, List.set_cons_zero, List.set_cons_succ, List.getElem_toArray, List.getElem_cons_zero, List.getElem_cons_succ]
                refine wpAnyH_ready (rs := [22]) (by kernel_rfl) (by simp) ?_
                refine AllReadyH.cons rfl (fun K hK => ?_) AllReadyH.nil
                go_simp
                go_at_call 21
                refine HFD.out.mono ?_
                rintro e5 w5 ⟨xs3, cv, hcown, hcown2, hchg, hcnew, hst⟩
                obtain ⟨s', pv', wv', rfl, hgo, hrdr, hapx, hwn, hpn⟩ : ∃ s' pv' wv', e5 = .returned (.tuple #[cv, .int .i64 0]) ∧ Rq.Go ⟨s2.c, s2.ws, s2.tk, s2.l ++ (m.drop kk).take (e1 - kk)⟩ (xs3.map Hc.ws) (.more s') ∧ Rdr R s' pv' wv' w5 ∧ (∀ x ∈ xs3, wv'.ownBlock ≠ some x.g) ∧ (∀ k, wv'.ownBlock = some k → wv2.ownBlock = some k ∨ (wr.drew.alloc (.cells #[.slice (some ⟨gs, kk, none⟩) (q1 - kk) (ds - kk), .slice p2 (e1 - q1) (ds - q1)] 22)).heap.size ≤ k) ∧ (∀ k, pv'.ownBlock = some k → pv2.ownBlock = some k ∨ (wr.drew.alloc (.cells #[.slice (some ⟨gs, kk, none⟩) (q1 - kk) (ds - kk), .slice p2 (e1 - q1) (ds - q1)] 22)).heap.size ≤ k) := by
                  rcases hst with h | ⟨x9, _, hg, _⟩
                  · exact h
                  · exfalso
                    have h2 := (HGS.out _ _ hg).app_err rfl ((allQ cs).drop (posQ cs i + e1))
                    have e : (St.new ((allQ cs).take (posQ cs i + e1))).add ((allQ cs).drop (posQ cs i + e1)) = St.new (allQ cs) := by
                      show (⟨0, [], 0, (allQ cs).take (posQ cs i + e1) ++ (allQ cs).drop (posQ cs i + e1)⟩ : St) = _
                      rw [List.take_append_drop]
                      rfl
                    rw [e] at h2
                    cases (h2.det (go_all cs)).2
                clear hst
                simp only [World.size_alloc, World.size_drew] at hwn hpn hcnew
                refine hK.out _ _ (trivial) (fun hHeld2 => ?_)
                clear hK K hHeld
                have hHeld := hHeld2
                clear hHeld2
                try simp only [Act.put, List.setIfInBounds_toArray, List.set_cons_zero, List.set_cons_succ, List.getElem_toArray, List.getElem_cons_zero, List.getElem_cons_succ]
                refine wpAnyH_take (i := 23) (v := ?_) rfl (by kernel_rfl) (by kernel_rfl) (by kernel_rfl) (fun _ _ _ h => h) (Or.inl ⟨by rfl, ?_⟩) (by assumption) ?_
                rotate_left
                · (intro w hSw; (try dsimp only at hSw); go_simp; try (with_reducible rfl))
                try simp only [Act.put, List.setIfInBounds_toArray, List.set_cons_zero, List.set_cons_succ, List.getElem_toArray, List.getElem_cons_zero, List.getElem_cons_succ]
                refine wpAnyH_take (i := 24) (v := ?_) rfl (by kernel_rfl) (by kernel_rfl) (by kernel_rfl) (fun _ _ _ h => h) (Or.inl ⟨by rfl, ?_⟩) (by assumption) ?_
                rotate_left
                · (intro w hSw; (try dsimp only at hSw); go_simp; try (with_reducible rfl))
                try simp only [Act.put, List.setIfInBounds_toArray, List.set_cons_zero, List.set_cons_succ, List.getElem_toArray, List.getElem_cons_zero, List.getElem_cons_succ]
                refine wpAnyH_take (i := 25) (v := ?_) rfl (by kernel_rfl) (by kernel_rfl) (by kernel_rfl) (fun _ _ _ h => h) (Or.inl ⟨by rfl, ?_⟩) (by assumption) ?_
                rotate_left
                · (intro w hSw; (try dsimp only at hSw); go_simp; try (with_reducible rfl))
                try simp only [Act.put, List.setIfInBounds_toArray, List.set_cons_zero, List.set_cons_succ, List.getElem_toArray, List.getElem_cons_zero, List.getElem_cons_succ]
                refine wpAnyH_take (i := 26) (v := ?_) rfl (by kernel_rfl) (by kernel_rfl) (by kernel_rfl) (fun _ _ _ h => h) (Or.inl ⟨by rfl, ?_⟩) (by assumption) ?_
                rotate_left
                · (intro w hSw; (try dsimp only at hSw); go_simp; try (with_reducible rfl))
                try simp only [Act.put, List.setIfInBounds_toArray, List.set_cons_zero, List.set_cons_succ, List.getElem_toArray, List.getElem_cons_zero, List.getElem_cons_succ]
                refine wpAnyH_take (i := 27) (v := ?_) rfl (by kernel_rfl) (by kernel_rfl) (by kernel_rfl) (fun _ _ _ h => h) (Or.inl ⟨by rfl, ?_⟩) (by assumption) ?_
                rotate_left
                · (intro w hSw; (try dsimp only at hSw); go_simp; try (with_reducible rfl))
                try simp only [Act.put, List.setIfInBounds_toArray, List.set_cons_zero, List.set_cons_succ, List.getElem_toArray, List.getElem_cons_zero, List.getElem_cons_succ]
                refine wpAnyH_done (by kernel_rfl) ?_ _
                have hgs2 := (HS2.out.lt gs rfl).2
                have hrow5 := (HI2.out.row.on HBA.out).feed HR5.out hwR HI2.out.apart hchg
                have hW5 := (HW2.out.on HBA.out).chg hchg (fun k hk e => by
                  rcases e with rfl | e | e
                  · exact own_ne (HW2.out.on HBA.out).row HR5.out.box (by decide) hk
                  · exact own_apart (HW2.out.on HBA.out).row HR5.out.rest (by decide) k hk e
                  · exact own_apart (HW2.out.on HBA.out).row HR5.out.words (by decide) k hk e)
                have hS5a := (Chg.below HBA.out (fun _ => False)).own HS2.out (fun _ _ e => e)
                have hS5 := hchg.own hS5a (fun k hk e => by
                  have hkg : gs = k := by simpa [Value.ownBlock] using hk
                  subst hkg
                  rcases e with e | e | e
                  · exact own_ne hS5a HR5.out.box (by decide) (by rw [← e]; rfl)
                  · exact HP2.out e
                  · exact own_apart hS5a HR5.out.words (by decide) gs rfl e)
                have hP5 : pv'.ownBlock ≠ some gs := fun e => by
                  rcases hpn gs e with h | h
                  · exact HP2.out h
                  · omega
                have hAP3 : ∀ x ∈ xs2 ++ xs3, wv'.ownBlock ≠ some x.g := fun x hx e => by
                  rcases List.mem_append.1 hx with h | h
                  · rcases hwn _ e with h2 | h2
                    · exact HI2.out.apart x h h2
                    · have h3 := ((HI2.out.row.own x h).lt x.g rfl).2
                      omega
                  · exact hapx x h e
                have hGO := HGS.out _ _ hgo
                have hfew3 := HI2.out.few
                have hfewx := go_few hgo
                rw [List.length_map] at hfewx
                have hfewy : 2 * xs3.length ≤ (s2.l ++ (m.drop kk).take (e1 - kk)).length := hfewx
                rw [List.length_append, List.length_take, List.length_drop, HMS.out] at hfewy
                have hal3 := HAL.out
                have hs5 : R + 1 ≤ w5.heap.size := by
                  have h1 := hrdr.box.lt
                  omega
                have HROW5 := Lib.hid hrow5
                have HW5 := Lib.hid hW5
                have HS5 := Lib.hid hS5
                have HP5 := Lib.hid hP5
                have HAP3 := Lib.hid hAP3
                have HGO := Lib.hid hGO
                have HRD := Lib.hid hrdr
                have HCO := Lib.hid hcown
                have HCO2 := Lib.hid hcown2
                clear hrow5 hW5 hS5a hS5 hP5 hAP3 hGO hrdr hcown hcown2 hgo hapx hwn hpn hchg hcnew hHeld HFD hfewx
                go_wp2_with (at_builtin; refine append_cmdsW rfl (.tmp 110) (.tmp 111) rfl (R + 1) _ xs2.length (hCells xs2) rfl HROW5.out.row (R + 1) cv xs3 rfl HCO.out (by omega) hs5 ?_)
                intro v6 w6 hown6 hgr6 hwh6
                have hE6 : posQ cs i + e1 ≤ (allQ cs).length := by have := HPLE.out; omega
                have hI6 : FeI (allQ cs) w R (posQ cs i + e1) s' pv' wv' (xs2 ++ xs3) v6 w6 := ⟨hE6, by rw [List.map_append]; exact HGO.out, HRD.out.chg (Chg.grown hgr6) (fun e => own_ne HROW5.out.row HRD.out.box (by decide) e.symm) (fun k hk e => own_apart HROW5.out.row HRD.out.rest (by decide) k e.symm hk) (fun k hk e => own_apart HROW5.out.row HRD.out.words (by decide) k e.symm hk), HROW5.out.push hwR HCO2.out hown6 hgr6, HAP3.out⟩
                have hW6 := HW5.out.chg (Chg.grown hgr6) (fun k hk e => HA2.out k hk e.symm)
                have hS6 := (Chg.grown hgr6).own HS5.out (fun k hk e => own_apart HS5.out HROW5.out.row (by decide) k hk e.symm)
                have hA6 : ∀ k, (Value.slice (some ⟨gw, 0, none⟩) (ys.length + 1) capw).ownBlock = some k → v6.ownBlock ≠ some k := fun k hk e => by
                  rcases hwh6 k e with h | h
                  · exact HA2.out k hk h
                  · have h1 := (HW5.out.row.lt k hk).2
                    omega
                have HI6 := Lib.hid hI6
                have HW6 := Lib.hid hW6
                have HS6 := Lib.hid hS6
                have HA6 := Lib.hid hA6
                clear hI6 hW6 hS6 hA6 hown6 hgr6 hwh6
                go_wp2_with fail
                go_roundw
                case rel => exact ⟨kk + 50, _, s', pv', wv', xs2 ++ xs3, by omega, by go_num, Lib.hid (by rw [HE1.out, Nat.min_comm]), HI6, HW6, HA6, HS6, HP5⟩
                case measure => simp [intOf]; omega
              · have hd5 : decide ((kk : Int) < (S : Int)) = false := decide_eq_false (by omega)
                have hd5' : decide (kk < S) = false := decide_eq_false hks
                have HQE := Lib.hid (show q2 = posQ cs (i + 1) by rw [HQ2.out, HPP.out, Nat.min_eq_right (by omega)])
                go_wp2_with fail
                go_roundw
                case rel => exact ⟨i + 1, q2, s2, pv2, wv2, xs2, _, by omega, by go_num, HQE, HI2, HW2, HA2⟩
                case measure => simp [intOf]; omega
    · have hd1 : decide ((i : Int) < (n : Int)) = false := decide_eq_false (by omega)
      have hd1' : decide (i < n) = false := decide_eq_false hlt
      have hin : i = cs.length := by have := HN.out; omega
      have hgo := HI.out.go
      rw [HQ.out, hin, posQ_end] at hgo
      obtain ⟨hcs, hst⟩ := hgo.det (go_all cs)
      obtain rfl : s = St.new [] := by cases hst; rfl
      have hB := HI.out.row.below
      have hwi := HW.out.is hB
      rw [hin, List.take_length] at hwi
      have hfew := HI.out.few
      have hal := HAL.out
      have hSM := same_any (xs.map Hc.ws) (cs.filter told) (by rw [List.length_map]; omega) (fun y hy => by
        obtain ⟨z, hz, rfl⟩ := List.mem_map.1 hy
        exact own_len (HI.out.row.own z hz)) _ _ wr HI.out.row.is hwi
      rw [decide_eq_true hcs] at hSM
      have HSM := Lib.hid hSM
      obtain ⟨q5, d5, hpv, -⟩ := own_rest HI.out.rdr.rest
      have hbx := HI.out.rdr.box
      rw [hpv] at hbx
      have HBX := Lib.hid (show Box wr R 0 (.slice q5 0 d5) 0 wv 0 from hbx)
      have HB := Lib.hid hB
      clear hgo hcs hst hB hwi hSM hpv hbx hin hi hfew hal
      go_wp2_with fail
      refine HSM.out.mono ?_
      rintro e7 w7 ⟨rfl, hb7⟩
      have HWT7 := Lib.hid (waiting_any R 0 q5 0 d5 0 wv 0 (by decide) (by decide) w7 (HBX.out.below hb7))
      have HB7 := Lib.hid (bT HB.out hb7)
      clear hb7
      go_wp2_with fail
      refine HWT7.out.mono ?_
      rintro e8 w8 ⟨rfl, hb8⟩
      have HB8 := Lib.hid (bT HB7.out hb8)
      clear hb8
      go_wp2
      go_ret
      exact ⟨rfl, HB8.out⟩

/-- RequestBack. -/
theorem back_any (cs : List (List Wd)) (p : Option Addr) (c : Nat) (w : World) (hC : CsIn w p cs) (_ : cs.length ≤ maxLen) (hM : ∀ s ∈ cs, s.length ≤ maxLen ∧ ∀ x ∈ s, x.length ≤ maxLen) (hE : Errs w) :
    Calls Tryd.prog 6 #[.slice p cs.length c] w fun e w' => e = .returned (.bool true) ∧ Below w.heap.size w w' := by
  by_cases h : 10 < cs.length
  · exact back_far p c _ h w hE
  · exact back_some cs _ rfl (by omega) p c w hE hC hM
end Go.Proofs.YtcikelcecfapcaaDoor
