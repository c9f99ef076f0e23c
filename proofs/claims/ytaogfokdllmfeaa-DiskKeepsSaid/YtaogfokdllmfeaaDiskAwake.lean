/-
  awake.
-/
import Derived.Test.YtaogfokdllmfeaaDiskFill
namespace Go.Proofs.Ytaogfokdllmfeaa
open Go.RowKit Go.Shelf
attribute [local go_sem] Oper.semAt_some

theorem wpAnyH_strong {P : Program} {md : Region.Mode} {ops : Array Oper} {Q : Exit → Act → World → Prop} {S S' : World → Prop} (h : ∀ w, S' w → S w) : ∀ (fuel : Nat) (listed : Array Bool) (a : Act) (w : World), wpAnyH P md ops Q S' fuel listed a w → wpAnyH P md ops Q S fuel listed a w
  | 0, _, _, _, H => H
  | fuel + 1, _, _, _, H => ⟨H.1, fun i hi => wpOp_mono (fun a' w' h' => ⟨h _ h'.1, wpAnyH_strong h fuel _ a' w' h'.2⟩) (H.2 i hi)⟩

theorem dCells_flat (S : List Sec) : dCells S = bCells S.flatten := by
  unfold dCells bCells
  rw [List.map_flatten]
theorem piecesW_len (at_ : Nat) (data : List UInt8) : (piecesW at_ data).length = (data.length + 63) / 64 := by simp [piecesW, pcs_len]
theorem piecesW_at (at_ : Nat) (data : List UInt8) (i : Nat) (h : i < (piecesW at_ data).length) : (piecesW at_ data)[i] = (at_ + i, (data.drop (64 * i)).take (min 64 (data.length - 64 * i)) ++ List.replicate (64 - min 64 (data.length - 64 * i)) 0) := by simp [piecesW, pcs, pieceW]
theorem pieces64 (at_ : Nat) (x : UInt8) : piecesW at_ (List.replicate 64 x) = [(at_, List.replicate 64 x)] := by
  refine List.ext_getElem (by rw [piecesW_len]; simp) (fun i h1 h2 => ?_)
  obtain rfl : i = 0 := by simp at h2; exact h2
  rw [piecesW_at]
  simp
theorem pieces61 (at_ : Nat) (x : UInt8) : piecesW at_ (List.replicate 61 x) = [(at_, List.replicate 61 x ++ [0, 0, 0])] := by
  refine List.ext_getElem (by rw [piecesW_len]; simp) (fun i h1 h2 => ?_)
  obtain rfl : i = 0 := by simp at h2; exact h2
  rw [piecesW_at]
  simp
theorem pieces128 (at_ : Nat) (x : UInt8) : piecesW at_ (List.replicate 128 x) = [(at_, List.replicate 64 x), (at_ + 1, List.replicate 64 x)] := by
  refine List.ext_getElem (by rw [piecesW_len]; simp) (fun i h1 h2 => ?_)
  have h3 : i < 2 := h2
  rw [piecesW_at]
  obtain rfl | rfl : i = 0 ∨ i = 1 := by omega
  · simp
  · simp

/-- The writes whose number is kept. -/
def keptF (K : Nat → Bool) (ws : List Wq) : List Wq := (ws.zipIdx.filter fun p => K p.2).map Prod.fst
theorem keptOf_eq (K : Nat → Bool) {N : Nat} (ws : List Wq) (ha : ∀ x ∈ ws, x.1 < N ∧ x.2.length = 64) : keptOf K ws ha = keptF K ws := by
  have h : ws.zipIdx = (pend N ws ha).map fun x => (x.1.2, x.1.1) := by
    refine List.ext_getElem (by simp [pend]) (fun i h1 h2 => ?_)
    simp [pend]
  unfold keptOf keptF
  rw [h, List.filter_map, List.map_map]
  rfl
theorem bs_app (a b : List UInt8) : bs a ++ bs b = bs (a ++ b) := by
  apply ByteArray.ext
  simp [bs]

set_option maxRecDepth 100000 in
set_option maxHeartbeats 2000000 in
theorem awake_any (w : World) :
    Calls Try.prog 5 #[] w fun e w' => e = .returned (.bool true) ∧ Below w.heap.size w w' := by
  go_enter Try.func5, Try.ntmps5
  go_wp2_with fail
  refine (new_any 3 (by decide) (by decide) made3 w).mono ?_
  rintro e w1 ⟨rfl, hD1, hb1⟩
  have HD1 := Lib.hid hD1
  have HB1 := Lib.hid hb1
  have hg : w.heap.size + 1 ≠ w.heap.size := by omega
  clear hD1 hb1
  go_wp2_with fail
  refine (filled_any 1 1 0 64 (by decide) (by decide) (by decide) rfl w1).mono ?_
  rintro e w2 ⟨rfl, hr2, hb2⟩
  have HD2 := Lib.hid (HD1.out.on hb2)
  have HR2 := Lib.hid hr2
  have HB2 := Lib.hid (bT HB1.out hb2)
  clear hr2 hb2
  go_wp2_with fail
  have hw1 := write_any (w.heap.size + 1) w.heap.size (zeroS 3) (.slice none 0 0) [] 0 w1.heap.size 64 (List.replicate 64 (UInt8.ofNat 1)) (by decide) (by decide) (by decide) (by decide) (by decide) w2 HD2.out hg HR2.out
  rw [List.length_replicate, pieces64] at hw1
  refine hw1.mono ?_
  clear hw1
  rintro e w3 ⟨rfl, v3, hD3, hc3, ho3⟩
  have HD3 := Lib.hid hD3
  have HB3 := Lib.hid (hc3.on HB2.out HB2.out.size (fun k hk => by
    rcases hk with h | h
    · omega
    · cases h))
  clear hD3 hc3
  go_wp2_with fail
  refine (sync_any (w.heap.size + 1) w.heap.size _ v3 _ (by decide) w3 HD3.out hg).mono ?_
  rintro e w4 ⟨rfl, hD4, hc4⟩
  have HD4 := Lib.hid hD4
  have HB4 := Lib.hid (hc4.on HB3.out HB3.out.size (fun k hk => by omega))
  clear hD4 hc4 ho3
  go_wp2_with fail
  refine (filled_any 2 2 0 128 (by decide) (by decide) (by decide) rfl w4).mono ?_
  rintro e w5 ⟨rfl, hr5, hb5⟩
  have HD5 := Lib.hid (HD4.out.on hb5)
  have HR5 := Lib.hid hr5
  have HB5 := Lib.hid (bT HB4.out hb5)
  clear hr5 hb5
  go_wp2_with fail
  have hw2 := write_any (w.heap.size + 1) w.heap.size _ (.slice none 0 0) [] 0 w4.heap.size 128 (List.replicate 128 (UInt8.ofNat 2)) (by decide) (by decide) (by decide) (by rw [doneS_len]; decide) (by decide) w5 HD5.out hg HR5.out
  rw [List.length_replicate, pieces128] at hw2
  refine hw2.mono ?_
  clear hw2
  rintro e w6 ⟨rfl, v6, hD6, hc6, ho6⟩
  have HD6 := Lib.hid hD6
  have HB6 := Lib.hid (hc6.on HB5.out HB5.out.size (fun k hk => by
    rcases hk with h | h
    · omega
    · cases h))
  clear hD6 hc6 ho6
  go_wp2_with fail
  have hb7 := bA (Below.refl w6.heap.size w6) (.cells #[.int .i64 1] 3)
  have hI7 : IntsAt (w6.alloc (.cells #[.int .i64 1] 3)) (some ⟨w6.heap.size, 0, none⟩) [1] := fun j hj => ⟨_, _, rfl, by
    rw [Nat.zero_add, cell_in (heap_new w6 _)]
    have h0 : j = 0 := by simpa using hj
    subst h0
    rfl⟩
  refine (crash_any (w.heap.size + 1) w.heap.size _ v6 _ (by decide) (some ⟨w6.heap.size, 0, none⟩) 1 [1] (by decide) _ (HD6.out.on hb7) hg hI7).mono ?_
  have e1 : keptF (isKept [1]) ([] ++ [(0, List.replicate 64 (UInt8.ofNat 2)), (0 + 1, List.replicate 64 (UInt8.ofNat 2))]) = [(1, List.replicate 64 (UInt8.ofNat 2))] := by simp [keptF, isKept]
  obtain ⟨l0, hl0⟩ : ∃ l0 : List UInt8, l0 = List.replicate 64 0 := ⟨_, rfl⟩
  obtain ⟨l1, hl1⟩ : ∃ l1 : List UInt8, l1 = List.replicate 64 (UInt8.ofNat 1) := ⟨_, rfl⟩
  obtain ⟨l2, hl2⟩ : ∃ l2 : List UInt8, l2 = List.replicate 64 (UInt8.ofNat 2) := ⟨_, rfl⟩
  have e2 : doneS (doneS (zeroS 3) ([] ++ [(0, List.replicate 64 (UInt8.ofNat 1))])) [(1, List.replicate 64 (UInt8.ofNat 2))] = [l1, l2, l0] := by
    rw [hl0, hl1, hl2]
    rfl
  rintro e w8 ⟨rfl, hD8, hc8⟩
  rw [keptOf_eq, e1, e2] at hD8
  rw [keptOf_eq, e1]
  have HD8 := Lib.hid hD8
  have HB8 := Lib.hid (hc8.on (bT HB6.out hb7) (by have := HB6.out.size; have := hb7.size; omega) (fun k hk => by omega))
  clear hD8 hc8 e1 e2 hb7 hI7
  go_wp2_with fail
  have hrd := read_any (w.heap.size + 1) w.heap.size [l1, l2, l0] (.slice none 0 0) [] (by decide) (by simp) w8 HD8.out
  refine hrd.mono ?_
  clear hrd
  rintro e w9 ⟨R, rfl, hR9, hRl, hb9⟩
  have HB9 := Lib.hid (bT HB8.out hb9)
  clear hb9
  have hR9' : w9.heap[R]? = some (.cells (bCells ([l1, l2, l0] : List Sec).flatten).toArray 5 (0, 0)) := by rw [hR9, dCells_flat]; rfl
  clear hR9
  obtain ⟨F, hF⟩ : ∃ F : List UInt8, F = ([l1, l2, l0] : List Sec).flatten := ⟨_, rfl⟩
  have hFl : F.length = 192 := by rw [hF, hl0, hl1, hl2]; rfl
  have hFs : bs l1 ++ bs l2 ++ bs l0 = bs F := by rw [hF, bs_app, bs_app]; simp
  have hz1 : (bs l1).size = 64 := by rw [bs_size, hl1]; rfl
  have hz2 : (bs l2).size = 64 := by rw [bs_size, hl2]; rfl
  have hz0 : (bs l0).size = 64 := by rw [bs_size, hl0]; rfl
  have hz12 : (bs l1 ++ bs l2).size = 128 := by rw [bs_app, bs_size, hl1, hl2]; rfl
  obtain ⟨al, hal⟩ : ∃ al : World → World, ∀ W, al W = W.alloc (.cells (bCells l0).toArray 5) := ⟨_, fun _ => rfl⟩
  have hal1 : ∀ W, (al W).heap[W.heap.size]? = some (.cells (bCells l0).toArray 5 (0, 0)) := fun W => by rw [hal]; exact heap_new W _
  have hal2 : ∀ W, Below W.heap.size W (al W) := fun W => by rw [hal]; exact bA (Below.refl _ _) _
  have hmk : ∀ W : World, (Instr.makeSlice 22 (.int .i64 64) (.int .i64 64)).run Try.prog W = .ok (.slice (some ⟨W.heap.size, 0, none⟩) 64 64) (al W) := fun W => by
    rw [hal, hl0]
    exact make_u8 W 64 (by decide)
  have hcF : ∀ b (X : World), X.heap[b]? = some (.cells (bCells F).toArray 5 (0, 0)) → (convert 22 9 (.slice (some ⟨b, 0, none⟩) 192 192)).run Try.prog X = .ok (.string (bs F)) X := fun b X hX => by
    have := conv_row hX
    rwa [hFl] at this
  have hc0 : ∀ b (X : World), X.heap[b]? = some (.cells (bCells l0).toArray 5 (0, 0)) → (convert 22 9 (.slice (some ⟨b, 0, none⟩) 64 64)).run Try.prog X = .ok (.string (bs l0)) X := fun b X hX => by
    have := conv_row hX
    rwa [show l0.length = 64 by rw [hl0]; rfl] at this
  have hc1 : ∀ b (X : World), X.heap[b]? = some (.cells (bCells l1).toArray 5 (0, 0)) → (convert 22 9 (.slice (some ⟨b, 0, none⟩) 64 64)).run Try.prog X = .ok (.string (bs l1)) X := fun b X hX => by
    have := conv_row hX
    rwa [show l1.length = 64 by rw [hl1]; rfl] at this
  have hc2 : ∀ b (X : World), X.heap[b]? = some (.cells (bCells l2).toArray 5 (0, 0)) → (convert 22 9 (.slice (some ⟨b, 0, none⟩) 64 64)).run Try.prog X = .ok (.string (bs l2)) X := fun b X hX => by
    have := conv_row hX
    rwa [show l2.length = 64 by rw [hl2]; rfl] at this
  have hf1 : ∀ W : World, Calls Try.prog 8 #[.int .u8 1, .int .i64 1, .int .i64 0] W fun e w' => e = .returned (.slice (some ⟨W.heap.size, 0, none⟩) 64 64) ∧ w'.heap[W.heap.size]? = some (.cells (bCells l1).toArray 5 (0, 0)) ∧ Below W.heap.size W w' := fun W => by
    rw [hl1]
    exact filled_any 1 1 0 64 (by decide) (by decide) (by decide) rfl W
  have hf2 : ∀ W : World, Calls Try.prog 8 #[.int .u8 2, .int .i64 1, .int .i64 0] W fun e w' => e = .returned (.slice (some ⟨W.heap.size, 0, none⟩) 64 64) ∧ w'.heap[W.heap.size]? = some (.cells (bCells l2).toArray 5 (0, 0)) ∧ Below W.heap.size W w' := fun W => by
    rw [hl2]
    exact filled_any 2 1 0 64 (by decide) (by decide) (by decide) rfl W
  rw [← hF] at hR9'
  clear hF hl0 hl1 hl2 hal
  go_wp2_with fail
  refine wp_region_noPanic ?_
  refine wp_region_held_drew (S := fun X => Below w.heap.size w X ∧ X.heap[R]? = some (.cells (bCells F).toArray 5 (0, 0))) (by kernel_rfl) (⟨bT HB9.out (bD (Below.refl _ _)), hR9'⟩) (fun hHeld => ?_)
  generalize w9.drew = x0 at *
  refine wpAnyH_take (i := 0) (v := ?_) rfl (by kernel_rfl) (by kernel_rfl) (by kernel_rfl) (fun _ _ _ h => h) (Or.inl ⟨by rfl, ?_⟩) (by assumption) ?_
  rotate_left
  · (intro w hSw; (try dsimp only at hSw); go_simp; try (with_reducible rfl))
  try simp only [Act.put, List.setIfInBounds_toArray, List.set_cons_zero, List.set_cons_succ, List.getElem_toArray, List.getElem_cons_zero]
  refine wpAnyH_take (i := 1) (v := ?_) rfl (by kernel_rfl) (by kernel_rfl) (by kernel_rfl) (fun _ _ _ h => h) (Or.inl ⟨by rfl, ?_⟩) (by assumption) ?_
  rotate_left
  · (intro w hSw; (try dsimp only at hSw); go_simp; try (with_reducible rfl))
  try simp only [Act.put, List.setIfInBounds_toArray, List.set_cons_zero, List.set_cons_succ, List.getElem_toArray, List.getElem_cons_zero, List.getElem_cons_succ]
  refine wpAnyH_take (i := 2) (v := ?_) rfl (by kernel_rfl) (by kernel_rfl) (by kernel_rfl) (fun _ _ _ h => h) (Or.inl ⟨by rfl, ?_⟩) (by assumption) ?_
  rotate_left
  · (intro w hSw; (try dsimp only at hSw); go_simp; try (with_reducible rfl))
  try simp only [Act.put, List.setIfInBounds_toArray, List.set_cons_zero, List.set_cons_succ, List.getElem_toArray, List.getElem_cons_zero, List.getElem_cons_succ]
  refine wpAnyH_take (i := 3) (v := ?_) rfl (by kernel_rfl) (by kernel_rfl) (by kernel_rfl) (fun _ _ _ h => h) (Or.inl ⟨by rfl, ?_⟩) (by assumption) ?_
  rotate_left
  · (intro w hSw; (try dsimp only at hSw); go_simp; try (with_reducible rfl))
  try simp only [Act.put, List.setIfInBounds_toArray, List.set_cons_zero, List.set_cons_succ, List.getElem_toArray, List.getElem_cons_zero, List.getElem_cons_succ]
  refine wpAnyH_take (i := 4) (v := ?_) rfl (by kernel_rfl) (by kernel_rfl) (by kernel_rfl) (fun _ _ _ h => h) (Or.inl ⟨by rfl, ?_⟩) (by assumption) ?_
  rotate_left
  · (intro w hSw; (try dsimp only at hSw); go_simp; try (with_reducible rfl))
  try simp only [Act.put, List.setIfInBounds_toArray, List.set_cons_zero, List.set_cons_succ, List.getElem_toArray, List.getElem_cons_zero, List.getElem_cons_succ]
  refine wpAnyH_take (i := 5) (v := ?_) rfl (by kernel_rfl) (by kernel_rfl) (by kernel_rfl) (fun _ _ _ h => h) (Or.inl ⟨by rfl, ?_⟩) (by assumption) ?_
  rotate_left
  · (intro w hSw; (try dsimp only at hSw); go_simp; try (with_reducible rfl))
  try simp only [Act.put, List.setIfInBounds_toArray, List.set_cons_zero, List.set_cons_succ, List.getElem_toArray, List.getElem_cons_zero, List.getElem_cons_succ]
  refine wpAnyH_take (i := 6) (v := ?_) rfl (by kernel_rfl) (by kernel_rfl) (by kernel_rfl) (fun _ _ _ h => h) (Or.inl ⟨by rfl, ?_⟩) (by assumption) ?_
  rotate_left
  · (intro w hSw; (try dsimp only at hSw); go_simp; try (with_reducible rfl))
  try simp only [Act.put, List.setIfInBounds_toArray, List.set_cons_zero, List.set_cons_succ, List.getElem_toArray, List.getElem_cons_zero, List.getElem_cons_succ]
  refine wpAnyH_take (i := 7) (v := ?_) rfl (by kernel_rfl) (by kernel_rfl) (by kernel_rfl) (fun _ _ _ h => h) (Or.inl ⟨by rfl, ?_⟩) (by assumption) ?_
  rotate_left
  · (intro w hSw; (try dsimp only at hSw); go_simp; try (with_reducible rfl))
  try simp only [Act.put, List.setIfInBounds_toArray, List.set_cons_zero, List.set_cons_succ, List.getElem_toArray, List.getElem_cons_zero, List.getElem_cons_succ]
  refine wpAnyH_take (i := 8) (v := ?_) rfl (by kernel_rfl) (by kernel_rfl) (by kernel_rfl) (fun _ _ _ h => h) (Or.inl ⟨by rfl, ?_⟩) (by assumption) ?_
  rotate_left
  · (intro w hSw; (try dsimp only at hSw); have hcvw := hcF _ _ hSw.2; go_simp; try (with_reducible rfl))
  try simp only [Act.put, List.setIfInBounds_toArray, List.set_cons_zero, List.set_cons_succ, List.getElem_toArray, List.getElem_cons_zero, List.getElem_cons_succ]
  refine wpAnyH_ready (rs := [9, 14]) (by kernel_rfl) (by simp) ?_
  refine AllReadyH.cons rfl (fun K hK => ?_) (AllReadyH.cons rfl (fun K hK => ?_) (AllReadyH.nil))
  · go_simp
    go_at_call 8
    refine (hf1 x0).mono ?_
    rintro e1 x1 ⟨rfl, hr1, hb1⟩
    refine hK.out _ _ ⟨bT (hHeld).1 hb1, (Chg.below hb1 (fun _ => False)).box (hHeld).2 (fun e => e)⟩ (fun hHeld2 => ?_)
    clear hK K hHeld
    refine wpAnyH_strong (S' := fun X => (Below w.heap.size w X ∧ X.heap[R]? = some (.cells (bCells F).toArray 5 (0, 0))) ∧ X.heap[x0.heap.size]? = some (.cells (bCells l1).toArray 5 (0, 0))) (fun X hX => hX.1) _ _ _ _ ?_
    have hHeld := And.intro hHeld2 hr1
    clear hHeld2
    try simp only [Act.put, List.setIfInBounds_toArray, List.set_cons_zero, List.set_cons_succ, List.getElem_toArray, List.getElem_cons_zero, List.getElem_cons_succ]
    refine wpAnyH_take (i := 10) (v := ?_) rfl (by kernel_rfl) (by kernel_rfl) (by kernel_rfl) (fun _ _ _ h => h) (Or.inl ⟨by rfl, ?_⟩) (by assumption) ?_
    rotate_left
    · (intro w hSw; (try dsimp only at hSw); have hcvw := hc1 _ _ hSw.2; go_simp; try (with_reducible rfl))
    try simp only [Act.put, List.setIfInBounds_toArray, List.set_cons_zero, List.set_cons_succ, List.getElem_toArray, List.getElem_cons_zero, List.getElem_cons_succ]
    refine wpAnyH_ready (rs := [11, 14]) (by kernel_rfl) (by simp) ?_
    refine AllReadyH.cons rfl (fun K hK => ?_) (AllReadyH.cons rfl (fun K hK => ?_) (AllReadyH.nil))
    · go_simp
      go_at_call 8
      refine (hf2 x1).mono ?_
      rintro e2 x2 ⟨rfl, hr2, hb2⟩
      refine hK.out _ _ ⟨⟨bT ((hHeld).1).1 hb2, (Chg.below hb2 (fun _ => False)).box ((hHeld).1).2 (fun e => e)⟩, (Chg.below hb2 (fun _ => False)).box ((hHeld).2) (fun e => e)⟩ (fun hHeld2 => ?_)
      clear hK K hHeld
      refine wpAnyH_strong (S' := fun X => ((Below w.heap.size w X ∧ X.heap[R]? = some (.cells (bCells F).toArray 5 (0, 0))) ∧ X.heap[x0.heap.size]? = some (.cells (bCells l1).toArray 5 (0, 0))) ∧ X.heap[x1.heap.size]? = some (.cells (bCells l2).toArray 5 (0, 0))) (fun X hX => hX.1) _ _ _ _ ?_
      have hHeld := And.intro hHeld2 hr2
      clear hHeld2
      try simp only [Act.put, List.setIfInBounds_toArray, List.set_cons_zero, List.set_cons_succ, List.getElem_toArray, List.getElem_cons_zero, List.getElem_cons_succ]
      refine wpAnyH_take (i := 12) (v := ?_) rfl (by kernel_rfl) (by kernel_rfl) (by kernel_rfl) (fun _ _ _ h => h) (Or.inl ⟨by rfl, ?_⟩) (by assumption) ?_
      rotate_left
      · (intro w hSw; (try dsimp only at hSw); have hcvw := hc2 _ _ hSw.2; go_simp; try (with_reducible rfl))
      try simp only [Act.put, List.setIfInBounds_toArray, List.set_cons_zero, List.set_cons_succ, List.getElem_toArray, List.getElem_cons_zero, List.getElem_cons_succ]
      refine wpAnyH_take (i := 13) (v := ?_) rfl (by kernel_rfl) (by kernel_rfl) (by kernel_rfl) (fun _ _ _ h => h) (Or.inl ⟨by rfl, ?_⟩) (by assumption) ?_
      rotate_left
      · (intro w hSw; (try dsimp only at hSw); go_simp; try (with_reducible rfl))
      try simp only [Act.put, List.setIfInBounds_toArray, List.set_cons_zero, List.set_cons_succ, List.getElem_toArray, List.getElem_cons_zero, List.getElem_cons_succ]
      refine wpAnyH_ready (rs := [14]) (by kernel_rfl) (by simp) ?_
      refine AllReadyH.cons rfl (fun K hK => ?_) (AllReadyH.nil)
      · go_simp
        have hr3 := hal1 x2
        have hb3 := hal2 x2
        generalize al x2 = x3 at *
        refine hK.out _ _ ⟨⟨⟨bT (((hHeld).1).1).1 hb3, (Chg.below hb3 (fun _ => False)).box (((hHeld).1).1).2 (fun e => e)⟩, (Chg.below hb3 (fun _ => False)).box (((hHeld).1).2) (fun e => e)⟩, (Chg.below hb3 (fun _ => False)).box ((hHeld).2) (fun e => e)⟩ (fun hHeld2 => ?_)
        clear hK K hHeld
        refine wpAnyH_strong (S' := fun X => (((Below w.heap.size w X ∧ X.heap[R]? = some (.cells (bCells F).toArray 5 (0, 0))) ∧ X.heap[x0.heap.size]? = some (.cells (bCells l1).toArray 5 (0, 0))) ∧ X.heap[x1.heap.size]? = some (.cells (bCells l2).toArray 5 (0, 0))) ∧ X.heap[x2.heap.size]? = some (.cells (bCells l0).toArray 5 (0, 0))) (fun X hX => hX.1) _ _ _ _ ?_
        have hHeld := And.intro hHeld2 hr3
        clear hHeld2
        try simp only [Act.put, List.setIfInBounds_toArray, List.set_cons_zero, List.set_cons_succ, List.getElem_toArray, List.getElem_cons_zero, List.getElem_cons_succ]
        refine wpAnyH_take (i := 15) (v := ?_) rfl (by kernel_rfl) (by kernel_rfl) (by kernel_rfl) (fun _ _ _ h => h) (Or.inl ⟨by rfl, ?_⟩) (by assumption) ?_
        rotate_left
        · (intro w hSw; (try dsimp only at hSw); have hcvw := hc0 _ _ hSw.2; go_simp; try (with_reducible rfl))
        try simp only [Act.put, List.setIfInBounds_toArray, List.set_cons_zero, List.set_cons_succ, List.getElem_toArray, List.getElem_cons_zero, List.getElem_cons_succ]
        refine wpAnyH_take (i := 16) (v := ?_) rfl (by kernel_rfl) (by kernel_rfl) (by kernel_rfl) (fun _ _ _ h => h) (Or.inl ⟨by rfl, ?_⟩) (by assumption) ?_
        rotate_left
        · (intro w hSw; (try dsimp only at hSw); go_simp; try (with_reducible rfl))
        try simp only [Act.put, List.setIfInBounds_toArray, List.set_cons_zero, List.set_cons_succ, List.getElem_toArray, List.getElem_cons_zero, List.getElem_cons_succ]
        refine wpAnyH_take (i := 17) (v := ?_) rfl (by kernel_rfl) (by kernel_rfl) (by kernel_rfl) (fun _ _ _ h => h) (Or.inl ⟨by rfl, ?_⟩) (by assumption) ?_
        rotate_left
        · (intro w hSw; (try dsimp only at hSw); go_simp; try (with_reducible rfl))
        try simp only [Act.put, List.setIfInBounds_toArray, List.set_cons_zero, List.set_cons_succ, List.getElem_toArray, List.getElem_cons_zero, List.getElem_cons_succ]
        refine wpAnyH_take (i := 18) (v := ?_) rfl (by kernel_rfl) (by kernel_rfl) (by kernel_rfl) (fun _ _ _ h => h) (Or.inl ⟨by rfl, ?_⟩) (by assumption) ?_
        rotate_left
        · (intro w hSw; (try dsimp only at hSw); go_simp; try (with_reducible rfl))
        try simp only [Act.put, List.setIfInBounds_toArray, List.set_cons_zero, List.set_cons_succ, List.getElem_toArray, List.getElem_cons_zero, List.getElem_cons_succ]
        refine wpAnyH_take (i := 19) (v := ?_) rfl (by kernel_rfl) (by kernel_rfl) (by kernel_rfl) (fun _ _ _ h => h) (Or.inl ⟨by rfl, ?_⟩) (by assumption) ?_
        rotate_left
        · (intro w hSw; (try dsimp only at hSw); go_simp; try (with_reducible rfl))
        try simp only [Act.put, List.setIfInBounds_toArray, List.set_cons_zero, List.getElem_toArray, List.getElem_cons_zero, List.getElem_cons_succ]
        refine wpAnyH_done (by kernel_rfl) ?_ _
        refine NoPanic.normal ?_
        have hBZ := hHeld.1.1.1.1
        clear hHeld
        go_wp2_with fail
        go_ret
        exact ⟨rfl, hBZ⟩
    · go_simp
      have hr2 := hal1 x1
      have hb2 := hal2 x1
      generalize al x1 = x2 at *
      refine hK.out _ _ ⟨⟨bT ((hHeld).1).1 hb2, (Chg.below hb2 (fun _ => False)).box ((hHeld).1).2 (fun e => e)⟩, (Chg.below hb2 (fun _ => False)).box ((hHeld).2) (fun e => e)⟩ (fun hHeld2 => ?_)
      clear hK K hHeld
      refine wpAnyH_strong (S' := fun X => ((Below w.heap.size w X ∧ X.heap[R]? = some (.cells (bCells F).toArray 5 (0, 0))) ∧ X.heap[x0.heap.size]? = some (.cells (bCells l1).toArray 5 (0, 0))) ∧ X.heap[x1.heap.size]? = some (.cells (bCells l0).toArray 5 (0, 0))) (fun X hX => hX.1) _ _ _ _ ?_
      have hHeld := And.intro hHeld2 hr2
      clear hHeld2
      try simp only [Act.put, List.setIfInBounds_toArray, List.set_cons_zero, List.set_cons_succ, List.getElem_toArray, List.getElem_cons_zero, List.getElem_cons_succ]
      refine wpAnyH_take (i := 15) (v := ?_) rfl (by kernel_rfl) (by kernel_rfl) (by kernel_rfl) (fun _ _ _ h => h) (Or.inl ⟨by rfl, ?_⟩) (by assumption) ?_
      rotate_left
      · (intro w hSw; (try dsimp only at hSw); have hcvw := hc0 _ _ hSw.2; go_simp; try (with_reducible rfl))
      try simp only [Act.put, List.setIfInBounds_toArray, List.set_cons_zero, List.set_cons_succ, List.getElem_toArray, List.getElem_cons_zero, List.getElem_cons_succ]
      refine wpAnyH_ready (rs := [11]) (by kernel_rfl) (by simp) ?_
      refine AllReadyH.cons rfl (fun K hK => ?_) (AllReadyH.nil)
      · go_simp
        go_at_call 8
        refine (hf2 x2).mono ?_
        rintro e3 x3 ⟨rfl, hr3, hb3⟩
        refine hK.out _ _ ⟨⟨⟨bT (((hHeld).1).1).1 hb3, (Chg.below hb3 (fun _ => False)).box (((hHeld).1).1).2 (fun e => e)⟩, (Chg.below hb3 (fun _ => False)).box (((hHeld).1).2) (fun e => e)⟩, (Chg.below hb3 (fun _ => False)).box ((hHeld).2) (fun e => e)⟩ (fun hHeld2 => ?_)
        clear hK K hHeld
        refine wpAnyH_strong (S' := fun X => (((Below w.heap.size w X ∧ X.heap[R]? = some (.cells (bCells F).toArray 5 (0, 0))) ∧ X.heap[x0.heap.size]? = some (.cells (bCells l1).toArray 5 (0, 0))) ∧ X.heap[x1.heap.size]? = some (.cells (bCells l0).toArray 5 (0, 0))) ∧ X.heap[x2.heap.size]? = some (.cells (bCells l2).toArray 5 (0, 0))) (fun X hX => hX.1) _ _ _ _ ?_
        have hHeld := And.intro hHeld2 hr3
        clear hHeld2
        try simp only [Act.put, List.setIfInBounds_toArray, List.set_cons_zero, List.set_cons_succ, List.getElem_toArray, List.getElem_cons_zero, List.getElem_cons_succ]
        refine wpAnyH_take (i := 12) (v := ?_) rfl (by kernel_rfl) (by kernel_rfl) (by kernel_rfl) (fun _ _ _ h => h) (Or.inl ⟨by rfl, ?_⟩) (by assumption) ?_
        rotate_left
        · (intro w hSw; (try dsimp only at hSw); have hcvw := hc2 _ _ hSw.2; go_simp; try (with_reducible rfl))
        try simp only [Act.put, List.setIfInBounds_toArray, List.set_cons_zero, List.set_cons_succ, List.getElem_toArray, List.getElem_cons_zero, List.getElem_cons_succ]
        refine wpAnyH_take (i := 13) (v := ?_) rfl (by kernel_rfl) (by kernel_rfl) (by kernel_rfl) (fun _ _ _ h => h) (Or.inl ⟨by rfl, ?_⟩) (by assumption) ?_
        rotate_left
        · (intro w hSw; (try dsimp only at hSw); go_simp; try (with_reducible rfl))
        try simp only [Act.put, List.setIfInBounds_toArray, List.set_cons_zero, List.set_cons_succ, List.getElem_toArray, List.getElem_cons_zero, List.getElem_cons_succ]
        refine wpAnyH_take (i := 16) (v := ?_) rfl (by kernel_rfl) (by kernel_rfl) (by kernel_rfl) (fun _ _ _ h => h) (Or.inl ⟨by rfl, ?_⟩) (by assumption) ?_
        rotate_left
        · (intro w hSw; (try dsimp only at hSw); go_simp; try (with_reducible rfl))
        try simp only [Act.put, List.setIfInBounds_toArray, List.set_cons_zero, List.set_cons_succ, List.getElem_toArray, List.getElem_cons_zero, List.getElem_cons_succ]
        refine wpAnyH_take (i := 17) (v := ?_) rfl (by kernel_rfl) (by kernel_rfl) (by kernel_rfl) (fun _ _ _ h => h) (Or.inl ⟨by rfl, ?_⟩) (by assumption) ?_
        rotate_left
        · (intro w hSw; (try dsimp only at hSw); go_simp; try (with_reducible rfl))
        try simp only [Act.put, List.setIfInBounds_toArray, List.set_cons_zero, List.set_cons_succ, List.getElem_toArray, List.getElem_cons_zero, List.getElem_cons_succ]
        refine wpAnyH_take (i := 18) (v := ?_) rfl (by kernel_rfl) (by kernel_rfl) (by kernel_rfl) (fun _ _ _ h => h) (Or.inl ⟨by rfl, ?_⟩) (by assumption) ?_
        rotate_left
        · (intro w hSw; (try dsimp only at hSw); go_simp; try (with_reducible rfl))
        try simp only [Act.put, List.setIfInBounds_toArray, List.set_cons_zero, List.set_cons_succ, List.getElem_toArray, List.getElem_cons_zero, List.getElem_cons_succ]
        refine wpAnyH_take (i := 19) (v := ?_) rfl (by kernel_rfl) (by kernel_rfl) (by kernel_rfl) (fun _ _ _ h => h) (Or.inl ⟨by rfl, ?_⟩) (by assumption) ?_
        rotate_left
        · (intro w hSw; (try dsimp only at hSw); go_simp; try (with_reducible rfl))
        try simp only [Act.put, List.setIfInBounds_toArray, List.set_cons_zero, List.getElem_toArray, List.getElem_cons_zero, List.getElem_cons_succ]
        refine wpAnyH_done (by kernel_rfl) ?_ _
        refine NoPanic.normal ?_
        have hBZ := hHeld.1.1.1.1
        clear hHeld
        go_wp2_with fail
        go_ret
        exact ⟨rfl, hBZ⟩
  · go_simp
    have hr1 := hal1 x0
    have hb1 := hal2 x0
    generalize al x0 = x1 at *
    refine hK.out _ _ ⟨bT (hHeld).1 hb1, (Chg.below hb1 (fun _ => False)).box (hHeld).2 (fun e => e)⟩ (fun hHeld2 => ?_)
    clear hK K hHeld
    refine wpAnyH_strong (S' := fun X => (Below w.heap.size w X ∧ X.heap[R]? = some (.cells (bCells F).toArray 5 (0, 0))) ∧ X.heap[x0.heap.size]? = some (.cells (bCells l0).toArray 5 (0, 0))) (fun X hX => hX.1) _ _ _ _ ?_
    have hHeld := And.intro hHeld2 hr1
    clear hHeld2
    try simp only [Act.put, List.setIfInBounds_toArray, List.set_cons_zero, List.set_cons_succ, List.getElem_toArray, List.getElem_cons_zero, List.getElem_cons_succ]
    refine wpAnyH_take (i := 15) (v := ?_) rfl (by kernel_rfl) (by kernel_rfl) (by kernel_rfl) (fun _ _ _ h => h) (Or.inl ⟨by rfl, ?_⟩) (by assumption) ?_
    rotate_left
    · (intro w hSw; (try dsimp only at hSw); have hcvw := hc0 _ _ hSw.2; go_simp; try (with_reducible rfl))
    try simp only [Act.put, List.setIfInBounds_toArray, List.set_cons_zero, List.set_cons_succ, List.getElem_toArray, List.getElem_cons_zero, List.getElem_cons_succ]
    refine wpAnyH_ready (rs := [9]) (by kernel_rfl) (by simp) ?_
    refine AllReadyH.cons rfl (fun K hK => ?_) (AllReadyH.nil)
    · go_simp
      go_at_call 8
      refine (hf1 x1).mono ?_
      rintro e2 x2 ⟨rfl, hr2, hb2⟩
      refine hK.out _ _ ⟨⟨bT ((hHeld).1).1 hb2, (Chg.below hb2 (fun _ => False)).box ((hHeld).1).2 (fun e => e)⟩, (Chg.below hb2 (fun _ => False)).box ((hHeld).2) (fun e => e)⟩ (fun hHeld2 => ?_)
      clear hK K hHeld
      refine wpAnyH_strong (S' := fun X => ((Below w.heap.size w X ∧ X.heap[R]? = some (.cells (bCells F).toArray 5 (0, 0))) ∧ X.heap[x0.heap.size]? = some (.cells (bCells l0).toArray 5 (0, 0))) ∧ X.heap[x1.heap.size]? = some (.cells (bCells l1).toArray 5 (0, 0))) (fun X hX => hX.1) _ _ _ _ ?_
      have hHeld := And.intro hHeld2 hr2
      clear hHeld2
      try simp only [Act.put, List.setIfInBounds_toArray, List.set_cons_zero, List.set_cons_succ, List.getElem_toArray, List.getElem_cons_zero, List.getElem_cons_succ]
      refine wpAnyH_take (i := 10) (v := ?_) rfl (by kernel_rfl) (by kernel_rfl) (by kernel_rfl) (fun _ _ _ h => h) (Or.inl ⟨by rfl, ?_⟩) (by assumption) ?_
      rotate_left
      · (intro w hSw; (try dsimp only at hSw); have hcvw := hc1 _ _ hSw.2; go_simp; try (with_reducible rfl))
      try simp only [Act.put, List.setIfInBounds_toArray, List.set_cons_zero, List.set_cons_succ, List.getElem_toArray, List.getElem_cons_zero, List.getElem_cons_succ]
      refine wpAnyH_ready (rs := [11]) (by kernel_rfl) (by simp) ?_
      refine AllReadyH.cons rfl (fun K hK => ?_) (AllReadyH.nil)
      · go_simp
        go_at_call 8
        refine (hf2 x2).mono ?_
        rintro e3 x3 ⟨rfl, hr3, hb3⟩
        refine hK.out _ _ ⟨⟨⟨bT (((hHeld).1).1).1 hb3, (Chg.below hb3 (fun _ => False)).box (((hHeld).1).1).2 (fun e => e)⟩, (Chg.below hb3 (fun _ => False)).box (((hHeld).1).2) (fun e => e)⟩, (Chg.below hb3 (fun _ => False)).box ((hHeld).2) (fun e => e)⟩ (fun hHeld2 => ?_)
        clear hK K hHeld
        refine wpAnyH_strong (S' := fun X => (((Below w.heap.size w X ∧ X.heap[R]? = some (.cells (bCells F).toArray 5 (0, 0))) ∧ X.heap[x0.heap.size]? = some (.cells (bCells l0).toArray 5 (0, 0))) ∧ X.heap[x1.heap.size]? = some (.cells (bCells l1).toArray 5 (0, 0))) ∧ X.heap[x2.heap.size]? = some (.cells (bCells l2).toArray 5 (0, 0))) (fun X hX => hX.1) _ _ _ _ ?_
        have hHeld := And.intro hHeld2 hr3
        clear hHeld2
        try simp only [Act.put, List.setIfInBounds_toArray, List.set_cons_zero, List.set_cons_succ, List.getElem_toArray, List.getElem_cons_zero, List.getElem_cons_succ]
        refine wpAnyH_take (i := 12) (v := ?_) rfl (by kernel_rfl) (by kernel_rfl) (by kernel_rfl) (fun _ _ _ h => h) (Or.inl ⟨by rfl, ?_⟩) (by assumption) ?_
        rotate_left
        · (intro w hSw; (try dsimp only at hSw); have hcvw := hc2 _ _ hSw.2; go_simp; try (with_reducible rfl))
        try simp only [Act.put, List.setIfInBounds_toArray, List.set_cons_zero, List.set_cons_succ, List.getElem_toArray, List.getElem_cons_zero, List.getElem_cons_succ]
        refine wpAnyH_take (i := 13) (v := ?_) rfl (by kernel_rfl) (by kernel_rfl) (by kernel_rfl) (fun _ _ _ h => h) (Or.inl ⟨by rfl, ?_⟩) (by assumption) ?_
        rotate_left
        · (intro w hSw; (try dsimp only at hSw); go_simp; try (with_reducible rfl))
        try simp only [Act.put, List.setIfInBounds_toArray, List.set_cons_zero, List.set_cons_succ, List.getElem_toArray, List.getElem_cons_zero, List.getElem_cons_succ]
        refine wpAnyH_take (i := 16) (v := ?_) rfl (by kernel_rfl) (by kernel_rfl) (by kernel_rfl) (fun _ _ _ h => h) (Or.inl ⟨by rfl, ?_⟩) (by assumption) ?_
        rotate_left
        · (intro w hSw; (try dsimp only at hSw); go_simp; try (with_reducible rfl))
        try simp only [Act.put, List.setIfInBounds_toArray, List.set_cons_zero, List.set_cons_succ, List.getElem_toArray, List.getElem_cons_zero, List.getElem_cons_succ]
        refine wpAnyH_take (i := 17) (v := ?_) rfl (by kernel_rfl) (by kernel_rfl) (by kernel_rfl) (fun _ _ _ h => h) (Or.inl ⟨by rfl, ?_⟩) (by assumption) ?_
        rotate_left
        · (intro w hSw; (try dsimp only at hSw); go_simp; try (with_reducible rfl))
        try simp only [Act.put, List.setIfInBounds_toArray, List.set_cons_zero, List.set_cons_succ, List.getElem_toArray, List.getElem_cons_zero, List.getElem_cons_succ]
        refine wpAnyH_take (i := 18) (v := ?_) rfl (by kernel_rfl) (by kernel_rfl) (by kernel_rfl) (fun _ _ _ h => h) (Or.inl ⟨by rfl, ?_⟩) (by assumption) ?_
        rotate_left
        · (intro w hSw; (try dsimp only at hSw); go_simp; try (with_reducible rfl))
        try simp only [Act.put, List.setIfInBounds_toArray, List.set_cons_zero, List.set_cons_succ, List.getElem_toArray, List.getElem_cons_zero, List.getElem_cons_succ]
        refine wpAnyH_take (i := 19) (v := ?_) rfl (by kernel_rfl) (by kernel_rfl) (by kernel_rfl) (fun _ _ _ h => h) (Or.inl ⟨by rfl, ?_⟩) (by assumption) ?_
        rotate_left
        · (intro w hSw; (try dsimp only at hSw); go_simp; try (with_reducible rfl))
        try simp only [Act.put, List.setIfInBounds_toArray, List.set_cons_zero, List.getElem_toArray, List.getElem_cons_zero, List.getElem_cons_succ]
        refine wpAnyH_done (by kernel_rfl) ?_ _
        refine NoPanic.normal ?_
        have hBZ := hHeld.1.1.1.1
        clear hHeld
        go_wp2_with fail
        go_ret
        exact ⟨rfl, hBZ⟩
end Go.Proofs.Ytaogfokdllmfeaa
