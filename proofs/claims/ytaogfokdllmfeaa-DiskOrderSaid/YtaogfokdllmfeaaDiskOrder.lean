/-
  DiskOrder: writes in order, a crash that keeps some, the last one kept is read.
-/
import Derived.Test.YtaogfokdllmfeaaDiskAwake
namespace Go.Proofs.Ytaogfokdllmfeaa
open Go.RowKit Go.Shelf
attribute [local go_sem] Oper.semAt_some

/-- The writes of the law: all at sector 0. -/
def ordW (k : Nat) : List Wq := (List.range k).map fun j => (0, List.replicate 64 (UInt8.ofNat (j + 1)))
theorem ordW_len (k : Nat) : (ordW k).length = k := by simp [ordW]
theorem ordW_next (k : Nat) : ordW (k + 1) = ordW k ++ [(0, List.replicate 64 (UInt8.ofNat (k + 1)))] := by simp [ordW, List.range_succ]
theorem keptF_snoc (K : Nat → Bool) (ws : List Wq) (x : Wq) : keptF K (ws ++ [x]) = if K ws.length then keptF K ws ++ [x] else keptF K ws := by
  unfold keptF
  rw [List.zipIdx_append, List.filter_append, List.map_append]
  cases h : K ws.length <;> simp [h]
/-- What lies in the sector behind the writes that are kept. -/
theorem ord_done (K : Nat → Bool) (m : Nat) : ∀ k, (∀ j, j < k → K j = true → j + 1 ≤ m) → (m = 0 ∨ (K (m - 1) = true ∧ m ≤ k)) → doneS (zeroS 1) (keptF K (ordW k)) = [List.replicate 64 (UInt8.ofNat m)]
  | 0, _, h2 => by
    have : m = 0 := by omega
    subst this
    rfl
  | k + 1, h1, h2 => by
    rw [ordW_next, keptF_snoc, ordW_len]
    by_cases hK : K k = true
    · have hm : m = k + 1 := by have := h1 k (by omega) hK; omega
      rw [if_pos hK, doneS_snoc]
      have hl : (doneS (zeroS 1) (keptF K (ordW k))).length = 1 := by rw [doneS_len]; rfl
      match hq : doneS (zeroS 1) (keptF K (ordW k)), hl with
      | [s], _ => rw [hm]; rfl
    · rw [if_neg hK]
      refine ord_done K m k (fun j hj => h1 j (by omega)) ?_
      rcases h2 with h | ⟨h, h3⟩
      · exact .inl h
      · right
        refine ⟨h, ?_⟩
        rcases Nat.lt_or_ge k m with h4 | h4
        · exfalso
          apply hK
          rw [show k = m - 1 by omega]
          exact h
        · exact h4

set_option maxRecDepth 100000 in
set_option maxHeartbeats 2000000 in
theorem order_any (z : Int) (p : Option Addr) (c : Nat) (ks : List Int) (w : World) (hks : IntsAt w p ks) :
    Calls Try.prog 4 #[.int .i64 z, .slice p ks.length c] w fun e w' => e = .returned (.bool true) ∧ Below w.heap.size w w' := by
  obtain ⟨n, hn⟩ : ∃ n, n = ks.length := ⟨_, rfl⟩
  have HN := Lib.hid hn
  rw [← hn]
  clear hn
  go_enter Try.func4, Try.ntmps4
  go_wp2_with fail
  refine (awake_any w).mono ?_
  rintro e w1 ⟨rfl, hb1⟩
  by_cases hlen : n ≤ 40
  · have d1 : decide ((40 : Int) < (n : Int)) = false := decide_eq_false (by omega)
    have d1' : decide (40 < n) = false := decide_eq_false (by omega)
    have t1 : -20 < z.tmod 20 := Int.lt_tmod_of_pos _ (by decide)
    have t2 : z.tmod 20 < 20 := Int.tmod_lt_of_pos _ (by decide)
    have t3 : IntKind.i64.wrap (z.tmod 20 + 20) = z.tmod 20 + 20 := by rw [IntKind.wrap_i64]; omega
    have t4 : 0 ≤ (z.tmod 20 + 20).tmod 20 := Int.tmod_nonneg _ (by omega)
    have t5 : (z.tmod 20 + 20).tmod 20 < 20 := Int.tmod_lt_of_pos _ (by decide)
    obtain ⟨k, hk⟩ : ∃ k : Nat, (z.tmod 20 + 20).tmod 20 = (k : Int) := ⟨((z.tmod 20 + 20).tmod 20).toNat, by omega⟩
    have hk20 : k < 20 := by omega
    clear t1 t2 t4 t5
    have HB1 := Lib.hid hb1
    clear hb1
    go_wp2_with fail
    refine (new_any 1 (by decide) (by decide) made1 w1).mono ?_
    rintro e w2 ⟨rfl, hD2, hb2⟩
    have HD2 := Lib.hid hD2
    have HB2 := Lib.hid (bT HB1.out hb2)
    have hs1 := HB1.out.size
    clear hD2 hb2
    obtain ⟨g, hg⟩ : ∃ g, w1.heap.size = g := ⟨_, rfl⟩
    rw [hg] at HD2 hs1 ⊢
    have hDg : g + 1 ≠ g := by omega
    clear hg t3 hk
    go_wp2_with fail
    go_loopw [8] (fun s8 wr => ∃ i v, i ≤ k ∧ s8 = .int .i64 (i : Nat) ∧ Hid (DiskAt wr (g + 1) g (zeroS 1) v (ordW i)) ∧ Hid (Below w.heap.size w wr)) (fun s8 _ => k - (intOf s8).toNat)
    case atStart => exact ⟨0, _, Nat.zero_le _, rfl, HD2, HB2⟩
    case round =>
      obtain ⟨i, v, hi, rfl, HDR, HBR⟩ := hrel
      by_cases hlt : i < k
      · have q1 : decide ((i : Int) < (k : Int)) = true := decide_eq_true (by omega)
        have q1' : decide (i < k) = true := decide_eq_true hlt
        have q2 : IntKind.u8.wrap ((i : Int) + 1) = ((i + 1 : Nat) : Int) := by rw [IntKind.wrap_u8]; omega
        have q3 : IntKind.i64.wrap ((i : Int) + 1) = (i : Int) + 1 := by rw [IntKind.wrap_i64]; omega
        go_wp2_with fail
        have hf := filled_any (i + 1) 1 0 64 (by omega) (by decide) (by decide) rfl wr
        rw [show ((i + 1 : Nat) : Int) = (i : Int) + 1 by omega] at hf
        refine hf.mono ?_
        clear hf
        rintro e w3 ⟨rfl, hr3, hb3⟩
        have HD3 := Lib.hid (HDR.out.on hb3)
        have HB3 := Lib.hid (bT HBR.out hb3)
        have HR3 := Lib.hid hr3
        clear hr3 hb3
        go_wp2_with fail
        have hw1 := write_any (g + 1) g (zeroS 1) v (ordW i) 0 wr.heap.size 64 (List.replicate 64 (UInt8.ofNat (i + 1))) (by simp) (by simp) (by decide) (by simp [zeroS]) (by rw [ordW_len]; simp; omega) w3 HD3.out hDg HR3.out
        rw [List.length_replicate, pieces64, ← ordW_next] at hw1
        refine hw1.mono ?_
        clear hw1
        rintro e w4 ⟨rfl, v4, hD4, hc4, ho4⟩
        have HD4 := Lib.hid hD4
        have HB4 := Lib.hid (hc4.on HB3.out HB3.out.size (fun k hk => by
          rcases hk with h | h
          · omega
          · have := (HD3.out.row.lt k h).1
            omega))
        clear hD4 hc4 ho4
        go_wp2_with fail
        go_roundw
        case rel => exact ⟨i + 1, v4, by omega, by go_num, HD4, HB4⟩
        case measure => simp [intOf]; omega
      · have q1 : decide ((i : Int) < (k : Int)) = false := decide_eq_false (by omega)
        have q1' : decide (i < k) = false := decide_eq_false hlt
        have hik : i = k := by omega
        subst hik
        obtain ⟨wL, hwL⟩ : ∃ wL, wr = wL := ⟨_, rfl⟩
        have HKS : Hid (IntsAt wL p ks) := Lib.hid (by
          rw [← hwL]
          refine hks.chg (Chg.below HBR.out (fun _ => False)) (fun _ _ _ e => e))
        rw [hwL] at HDR HBR ⊢
        clear hwL
        go_wp2_with fail
        go_loopw [9, 10] (fun s9 s10 wr => ∃ j m : Nat, j ≤ n ∧ s10 = .int .i64 j ∧ s9 = .int .i64 m ∧ m ≤ i ∧ Hid (∀ e ∈ ks.take j, 0 ≤ e → e < (i : Int) → e + 1 ≤ (m : Int)) ∧ Hid (m = 0 ∨ (m : Int) - 1 ∈ ks.take j) ∧ wr = wL) (fun _ s10 _ => n - (intOf s10).toNat)
        case atStart => exact ⟨0, 0, Nat.zero_le _, rfl, rfl, Nat.zero_le _, Lib.hid (fun e he => by simp at he), Lib.hid (.inl rfl), rfl⟩
        case round =>
          obtain ⟨j, m, hj, rfl, rfl, hm, HE, HM, rfl⟩ := hrel
          by_cases hjn : j < n
          · have p1 : decide ((j : Int) < (n : Int)) = true := decide_eq_true (by omega)
            have p1' : decide (j < n) = true := decide_eq_true hjn
            have hjk : j < ks.length := by have := HN.out; omega
            obtain ⟨b, o, rfl, hcell⟩ := HKS.out j hjk
            obtain ⟨x, hx⟩ : ∃ x, ks[j] = x := ⟨_, rfl⟩
            have htk : ks.take (j + 1) = ks.take j ++ [x] := by rw [List.take_succ_eq_append_getElem hjk, hx]
            rw [hx] at hcell
            have w1 : IntKind.i64.wrap ((j : Int) + 1) = (j : Int) + 1 := by rw [IntKind.wrap_i64]; omega
            by_cases hx0 : 0 ≤ x
            · obtain ⟨y, rfl⟩ : ∃ y : Nat, x = (y : Int) := ⟨x.toNat, by omega⟩
              have a1 : decide ((0 : Int) ≤ (y : Int)) = true := decide_eq_true hx0
              by_cases hxi : y < i
              · have a2 : decide ((y : Int) < (i : Int)) = true := decide_eq_true (by omega)
                have a2' : decide (y < i) = true := decide_eq_true hxi
                have w2 : IntKind.i64.wrap ((y : Int) + 1) = (y : Int) + 1 := by rw [IntKind.wrap_i64]; omega
                have w3 : IntKind.i64.wrap (y : Int) = (y : Int) := by rw [IntKind.wrap_i64]; omega
                obtain ⟨m', hm', hmx⟩ : ∃ m' : Nat, (m' = m ∨ m' = y + 1) ∧ m ≤ m' ∧ y + 1 ≤ m' := by
                  rcases Nat.lt_or_ge m (y + 1) with h | h
                  · exact ⟨y + 1, .inr rfl, by omega, by omega⟩
                  · exact ⟨m, .inl rfl, by omega, h⟩
                have hif : (if (m : Int) < (y : Int) + 1 then (y : Int) + 1 else (m : Int)) = (m' : Int) := by split <;> omega
                have hE' := Lib.hid (show ∀ e ∈ ks.take (j + 1), 0 ≤ e → e < (i : Int) → e + 1 ≤ (m' : Int) from fun e he h1 h2 => by
                  rw [htk] at he
                  rcases List.mem_append.1 he with h | h
                  · have := HE.out e h h1 h2
                    omega
                  · rw [List.mem_singleton.1 h]
                    omega)
                have hM' := Lib.hid (show m' = 0 ∨ (m' : Int) - 1 ∈ ks.take (j + 1) from by
                  rw [htk]
                  rcases hm' with h | h
                  · rw [h]
                    rcases HM.out with h2 | h2
                    · exact .inl h2
                    · exact .inr (List.mem_append_left _ h2)
                  · right
                    rw [h]
                    exact List.mem_append_right _ (by simp))
                go_wp2_with fail
                go_roundw
                case rel => exact ⟨j + 1, m', by omega, by go_num, rfl, by omega, hE', hM', trivial⟩
                case measure => simp [intOf]; omega
              · have a2 : decide ((y : Int) < (i : Int)) = false := decide_eq_false (by omega)
                have a2' : decide (y < i) = false := decide_eq_false hxi
                have hE' := Lib.hid (show ∀ e ∈ ks.take (j + 1), 0 ≤ e → e < (i : Int) → e + 1 ≤ (m : Int) from fun e he h1 h2 => by
                  rw [htk] at he
                  rcases List.mem_append.1 he with h | h
                  · exact HE.out e h h1 h2
                  · rw [List.mem_singleton.1 h] at h2
                    omega)
                have hM' := Lib.hid (show m = 0 ∨ (m : Int) - 1 ∈ ks.take (j + 1) from by
                  rw [htk]
                  exact HM.out.imp_right (fun h => List.mem_append_left _ h))
                go_wp2_with fail
                go_roundw
                case rel => exact ⟨j + 1, m, by omega, by go_num, rfl, hm, hE', hM', trivial⟩
                case measure => simp [intOf]; omega
            · have a1 : decide ((0 : Int) ≤ x) = false := decide_eq_false hx0
              have hE' := Lib.hid (show ∀ e ∈ ks.take (j + 1), 0 ≤ e → e < (i : Int) → e + 1 ≤ (m : Int) from fun e he h1 h2 => by
                rw [htk] at he
                rcases List.mem_append.1 he with h | h
                · exact HE.out e h h1 h2
                · rw [List.mem_singleton.1 h] at h1
                  omega)
              have hM' := Lib.hid (show m = 0 ∨ (m : Int) - 1 ∈ ks.take (j + 1) from by
                rw [htk]
                exact HM.out.imp_right (fun h => List.mem_append_left _ h))
              go_wp2_with fail
              go_roundw
              case rel => exact ⟨j + 1, m, by omega, by go_num, rfl, hm, hE', hM', trivial⟩
              case measure => simp [intOf]; omega
          · have p1 : decide ((j : Int) < (n : Int)) = false := decide_eq_false (by omega)
            have p1' : decide (j < n) = false := decide_eq_false hjn
            have hjl : j = ks.length := by have := HN.out; omega
            rw [hjl, List.take_length] at HE HM
            have hkp : keptOf (isKept ks) (ordW i) HDR.out.a64 = keptF (isKept ks) (ordW i) := keptOf_eq _ _ _
            have hdn := ord_done (isKept ks) m i (fun q hq hK => by
              have := HE.out (q : Int) (by simpa [isKept] using hK) (by omega) (by omega)
              omega) (by
              rcases HM.out with h | h
              · exact .inl h
              · rcases Nat.eq_zero_or_pos m with h0 | h0
                · exact .inl h0
                · right
                  refine ⟨?_, hm⟩
                  simp only [isKept, decide_eq_true_eq]
                  rw [show ((m - 1 : Nat) : Int) = (m : Int) - 1 by omega]
                  exact h)
            have hcr := crash_any (g + 1) g (zeroS 1) v (ordW i) (by rw [ordW_len]; omega) p c ks (by have := HN.out; omega) wr HDR.out hDg HKS.out
            rw [hkp, hdn, ← HN.out] at hcr
            go_wp2_with fail
            refine hcr.mono ?_
            clear hcr
            rintro e w5 ⟨rfl, hD5, hc5⟩
            have HD5 := Lib.hid hD5
            have HB5 := Lib.hid (hc5.on HBR.out HBR.out.size (fun k hk => by omega))
            clear hD5 hc5 hdn hkp
            obtain ⟨l, hl⟩ : ∃ l : List UInt8, l = List.replicate 64 (UInt8.ofNat m) := ⟨_, rfl⟩
            rw [← hl] at HD5
            go_wp2_with fail
            have hrd := read_any (g + 1) g [l] (.slice none 0 0) [] (by decide) (by simp) w5 HD5.out
            refine hrd.mono ?_
            clear hrd
            rintro e w6 ⟨R, rfl, hR6, hRl, hb6⟩
            have HB6 := Lib.hid (bT HB5.out hb6)
            have hR6' : w6.heap[R]? = some (.cells (bCells l).toArray 5 (0, 0)) := by
              rw [hR6, dCells_flat]
              show some (Obj.cells (bCells (l ++ [])).toArray _ _) = _
              rw [List.append_nil]
            clear hR6 hb6
            have hll : l.length = 64 := by rw [hl]; simp
            have hcL : ∀ b (X : World), X.heap[b]? = some (.cells (bCells l).toArray 5 (0, 0)) → (convert 22 9 (.slice (some ⟨b, 0, none⟩) 64 64)).run Try.prog X = .ok (.string (bs l)) X := fun b X hX => by
              have := conv_row hX
              rwa [hll] at this
            have w8 : IntKind.u8.wrap (m : Int) = (m : Int) := by rw [IntKind.wrap_u8]; omega
            have hf1 : ∀ W : World, Calls Try.prog 8 #[.int .u8 (m : Int), .int .i64 1, .int .i64 0] W fun e w' => e = .returned (.slice (some ⟨W.heap.size, 0, none⟩) 64 64) ∧ w'.heap[W.heap.size]? = some (.cells (bCells l).toArray 5 (0, 0)) ∧ Below W.heap.size W w' := fun W => by
              rw [hl]
              exact filled_any m 1 0 64 (by omega) (by decide) (by decide) rfl W
            clear hl
            go_wp2_with fail
            refine wp_region_noPanic ?_
            refine wp_region_held_drew (S := fun X => Below w.heap.size w X ∧ X.heap[R]? = some (.cells (bCells l).toArray 5 (0, 0))) (by kernel_rfl) (⟨bT HB6.out (bD (Below.refl _ _)), hR6'⟩) (fun hHeld => ?_)
            generalize w6.drew = x0 at *
            refine wpAnyH_take (i := 0) (v := ?_) rfl (by kernel_rfl) (by kernel_rfl) (by kernel_rfl) (fun _ _ _ h => h) (Or.inl ⟨by rfl, ?_⟩) (by assumption) ?_
            rotate_left
            · (intro w hSw; (try dsimp only at hSw); go_simp; try (with_reducible rfl))
            try simp only [Act.put, List.setIfInBounds_toArray, List.set_cons_zero, List.set_cons_succ, List.getElem_toArray, List.getElem_cons_zero]
            refine wpAnyH_take (i := 1) (v := ?_) rfl (by kernel_rfl) (by kernel_rfl) (by kernel_rfl) (fun _ _ _ h => h) (Or.inl ⟨by rfl, ?_⟩) (by assumption) ?_
            rotate_left
            · (intro w hSw; (try dsimp only at hSw); go_simp; try (with_reducible rfl))
            try simp only [Act.put, List.setIfInBounds_toArray, List.set_cons_zero, List.set_cons_succ, List.getElem_toArray, List.getElem_cons_zero, List.getElem_cons_succ]
            refine wpAnyH_take (i := 2) (v := ?_) rfl (by kernel_rfl) (by kernel_rfl) (by kernel_rfl) (fun _ _ _ h => h) (Or.inl ⟨by rfl, ?_⟩) (by assumption) ?_
            rotate_left
            · (intro w hSw; (try dsimp only at hSw); go_simp; try (with_reducible rfl))
            try simp only [Act.put, List.setIfInBounds_toArray, List.set_cons_zero, List.set_cons_succ, List.getElem_toArray, List.getElem_cons_zero, List.getElem_cons_succ]
            refine wpAnyH_take (i := 3) (v := ?_) rfl (by kernel_rfl) (by kernel_rfl) (by kernel_rfl) (fun _ _ _ h => h) (Or.inl ⟨by rfl, ?_⟩) (by assumption) ?_
            rotate_left
            · (intro w hSw; (try dsimp only at hSw); go_simp; try (with_reducible rfl))
            try simp only [Act.put, List.setIfInBounds_toArray, List.set_cons_zero, List.set_cons_succ, List.getElem_toArray, List.getElem_cons_zero, List.getElem_cons_succ]
            refine wpAnyH_take (i := 4) (v := ?_) rfl (by kernel_rfl) (by kernel_rfl) (by kernel_rfl) (fun _ _ _ h => h) (Or.inl ⟨by rfl, ?_⟩) (by assumption) ?_
            rotate_left
            · (intro w hSw; (try dsimp only at hSw); have hcvw := hcL _ _ hSw.2; go_simp; try (with_reducible rfl))
            try simp only [Act.put, List.setIfInBounds_toArray, List.set_cons_zero, List.set_cons_succ, List.getElem_toArray, List.getElem_cons_zero, List.getElem_cons_succ]
            refine wpAnyH_take (i := 5) (v := ?_) rfl (by kernel_rfl) (by kernel_rfl) (by kernel_rfl) (fun _ _ _ h => h) (Or.inl ⟨by rfl, ?_⟩) (by assumption) ?_
            rotate_left
            · (intro w hSw; (try dsimp only at hSw); go_simp; try (with_reducible rfl))
            try simp only [Act.put, List.setIfInBounds_toArray, List.set_cons_zero, List.set_cons_succ, List.getElem_toArray, List.getElem_cons_zero, List.getElem_cons_succ]
            refine wpAnyH_take (i := 6) (v := ?_) rfl (by kernel_rfl) (by kernel_rfl) (by kernel_rfl) (fun _ _ _ h => h) (Or.inl ⟨by rfl, ?_⟩) (by assumption) ?_
            rotate_left
            · (intro w hSw; (try dsimp only at hSw); go_simp; try (with_reducible rfl))
            try simp only [Act.put, List.setIfInBounds_toArray, List.set_cons_zero, List.set_cons_succ, List.getElem_toArray, List.getElem_cons_zero, List.getElem_cons_succ]
            refine wpAnyH_ready (rs := [7]) (by kernel_rfl) (by simp) ?_
            refine AllReadyH.cons rfl (fun K hK => ?_) AllReadyH.nil
            go_simp
            go_at_call 8
            refine (hf1 x0).mono ?_
            rintro e7 x1 ⟨rfl, hr7, hb7⟩
            refine hK.out _ _ ⟨bT hHeld.1 hb7, (Chg.below hb7 (fun _ => False)).box hHeld.2 (fun e => e)⟩ (fun hHeld2 => ?_)
            clear hK K hHeld
            refine wpAnyH_strong (S' := fun X => (Below w.heap.size w X ∧ X.heap[R]? = some (.cells (bCells l).toArray 5 (0, 0))) ∧ X.heap[x0.heap.size]? = some (.cells (bCells l).toArray 5 (0, 0))) (fun X hX => hX.1) _ _ _ _ ?_
            have hHeld := And.intro hHeld2 hr7
            clear hHeld2
            try simp only [Act.put, List.setIfInBounds_toArray, List.set_cons_zero, List.set_cons_succ, List.getElem_toArray, List.getElem_cons_zero, List.getElem_cons_succ]
            refine wpAnyH_take (i := 8) (v := ?_) rfl (by kernel_rfl) (by kernel_rfl) (by kernel_rfl) (fun _ _ _ h => h) (Or.inl ⟨by rfl, ?_⟩) (by assumption) ?_
            rotate_left
            · (intro w hSw; (try dsimp only at hSw); have hcvw := hcL _ _ hSw.2; go_simp; try (with_reducible rfl))
            try simp only [Act.put, List.setIfInBounds_toArray, List.set_cons_zero, List.set_cons_succ, List.getElem_toArray, List.getElem_cons_zero, List.getElem_cons_succ]
            refine wpAnyH_take (i := 9) (v := ?_) rfl (by kernel_rfl) (by kernel_rfl) (by kernel_rfl) (fun _ _ _ h => h) (Or.inl ⟨by rfl, ?_⟩) (by assumption) ?_
            rotate_left
            · (intro w hSw; (try dsimp only at hSw); go_simp; try (with_reducible rfl))
            try simp only [Act.put, List.setIfInBounds_toArray, List.set_cons_zero, List.set_cons_succ, List.getElem_toArray, List.getElem_cons_zero, List.getElem_cons_succ]
            refine wpAnyH_take (i := 10) (v := ?_) rfl (by kernel_rfl) (by kernel_rfl) (by kernel_rfl) (fun _ _ _ h => h) (Or.inl ⟨by rfl, ?_⟩) (by assumption) ?_
            rotate_left
            · (intro w hSw; (try dsimp only at hSw); go_simp; try (with_reducible rfl))
            try simp only [Act.put, List.setIfInBounds_toArray, List.set_cons_zero, List.set_cons_succ, List.getElem_toArray, List.getElem_cons_zero, List.getElem_cons_succ]
            refine wpAnyH_take (i := 11) (v := ?_) rfl (by kernel_rfl) (by kernel_rfl) (by kernel_rfl) (fun _ _ _ h => h) (Or.inl ⟨by rfl, ?_⟩) (by assumption) ?_
            rotate_left
            · (intro w hSw; (try dsimp only at hSw); go_simp; try (with_reducible rfl))
            try simp only [Act.put, List.setIfInBounds_toArray, List.set_cons_zero, List.set_cons_succ, List.getElem_toArray, List.getElem_cons_zero, List.getElem_cons_succ]
            refine wpAnyH_done (by kernel_rfl) ?_ _
            refine NoPanic.normal ?_
            have hBZ := hHeld.1.1
            clear hHeld
            go_wp2_with fail
            go_ret
            exact ⟨rfl, hBZ⟩
  · have d1 : decide ((40 : Int) < (n : Int)) = true := decide_eq_true (by omega)
    have d1' : decide (40 < n) = true := decide_eq_true (by omega)
    go_wp2_with fail
    refine (awake_any w1).mono ?_
    rintro e w2 ⟨rfl, hb2⟩
    go_wp2_with fail
    go_ret
    exact ⟨rfl, bT hb1 hb2⟩
end Go.Proofs.Ytaogfokdllmfeaa
