/-
  Sync.
-/
import Derived.Test.YtgcifhhbhoafcaaDiskStore
namespace Go.Proofs.Ytgcifhhbhoafcaa
open Go.RowKit Go.Shelf
attribute [local go_sem] Oper.semAt_some

set_option maxRecDepth 100000 in
set_option maxHeartbeats 4000000 in
theorem sync_on (D g : Nat) (S : List Sec) (v : Value) (ws : List Wq) (c : Int) (hl : -9223372036854775808 ≤ c ∧ c ≤ 9223372036854775807) (hcz : c ≠ 0) (hws : ws.length ≤ 1000000) (w0 w : World) (H0 : DiskAt w0 D g S v ws c) (hDg : D ≠ g) (hwt : tick w0 D c = w) (H : DiskAt w D g S v ws (less c)) :
    Calls Try.prog 73 #[.pointer (some ⟨D, 0, none⟩)] w0 fun e w' => e = .returned (.int .i64 0) ∧ DiskAt w' D g (doneS S ws) (.slice none 0 0) [] (less c) ∧ Chg (fun k => k = D ∨ k = g) w w' := by
  have HH := Lib.hid H
  have hD0 : D < w0.heap.size := (Array.getElem?_eq_some_iff.1 H0.box).1
  have hst : w.heap.size = w0.heap.size := by rw [← hwt]; exact tick_size w0 D c
  have hgl : g < w.heap.size := (Array.getElem?_eq_some_iff.1 H.dur).1
  have HREC0 := Lib.hid (fun (W : World) (hW : Below w0.heap.size w0 W) => (H0.on hW).box)
  have HREC := Lib.hid (fun (W : World) (hW : Below w.heap.size w W) => (H.on hW).box)
  have HWT := Lib.hid hwt
  have HST := Lib.hid hst
  clear H H0 hwt hst
  refine (callsIn_wide (n := 5)).1 ?_
  refine callsIn_of_wp_marks Try.func73 rfl trivial ?_ rfl
  simp only [Try.ntmps73, List.size_toArray, List.length_cons, List.length_nil, Nat.reduceAdd, Nat.reduceSub, Array.replicate_succ, Array.replicate_zero, List.push_toArray, List.append_toArray, List.nil_append, List.cons_append]
  gi_wp2_with fail
  refine ⟨trivial, (callsIn_wide.2 (call_any D g S.length v c hl hcz _ (HREC0.out _ (bA (Below.refl _ _) _)))).mono ?_⟩
  rintro e w1 ⟨rfl, hw1⟩
  rw [tick_alloc w0 D c _ hD0, HWT.out] at hw1
  rw [← HST.out] at hD0 ⊢
  have hDl := hD0
  clear hD0 HREC0 HWT HST
  replace hw1 := hw1.symm

  have hb1 : Below w.heap.size w w1 := by rw [← hw1]; exact bA (Below.refl _ _) _
  have hB1 : w1.heap[w.heap.size]? = some (.cells #[.pointer (some ⟨D, 0, none⟩)] 26 (0, 0)) := by rw [← hw1]; exact heap_new w _
  have hs1 : w1.heap.size = w.heap.size + 1 := by rw [← hw1]; simp
  clear hw1
  have HB1 := Lib.hid hb1
  have HX1 := Lib.hid hB1
  have c1 : w1.cell? ⟨w.heap.size, 0, none⟩ = some (.pointer (some ⟨D, 0, none⟩)) := by rw [cell_in hB1]; rfl
  have HC1 := Lib.hid (fun W (hW : Below w1.heap.size w1 W) => ((hW.cell (p := ⟨w.heap.size, 0, none⟩) (by rw [hs1]; simp)).trans c1 : W.cell? ⟨w.heap.size, 0, none⟩ = _))
  clear hb1 hB1
  gi_wp2
  refine wpIn_wide.2 ?_
  refine wp_region_noPanic ?_
  refine wp_region_held_drew (S := fun W => Below w1.heap.size w1 W ∧ W.cell? ⟨w.heap.size, 0, none⟩ = some (.pointer (some ⟨D, 0, none⟩))) (by kernel_rfl) (⟨bD (Below.refl _ _), HC1.out _ (bD (Below.refl _ _))⟩) (fun hHeld => ?_)
  refine wpAnyH_take (i := 0) (v := ?_) rfl (by kernel_rfl) (by kernel_rfl) (by kernel_rfl) (fun _ _ _ h => h) (Or.inl ⟨by rfl, ?_⟩) (by assumption) ?_
  rotate_left
  · (intro w hSw; (try dsimp only at hSw); go_simp; try (with_reducible rfl))
  try simp only [Act.put, List.setIfInBounds_toArray, List.set_cons_zero, List.set_cons_succ, List.getElem_toArray, List.getElem_cons_zero]
  refine wpAnyH_take (i := 1) (v := ?_) rfl (by kernel_rfl) (by kernel_rfl) (by kernel_rfl) (fun _ _ _ h => h) (Or.inl ⟨by rfl, ?_⟩) (by assumption) ?_
  rotate_left
  · (intro w hSw; (try dsimp only at hSw); go_simp; try (with_reducible rfl))
  try simp only [Act.put, List.setIfInBounds_toArray, List.set_cons_zero, List.set_cons_succ, List.getElem_toArray, List.getElem_cons_zero, List.getElem_cons_succ]
  refine wpAnyH_ready (rs := [2]) (by kernel_rfl) (by simp) ?_
  refine AllReadyH.cons rfl (fun K hK => ?_) AllReadyH.nil
  go_simp
  go_at_call 47
  refine (size_any D g S.length v (less c) _ (HREC.out _ (bT HB1.out (bD (Below.refl _ _))))).mono ?_
  rintro e3 w3 ⟨rfl, rfl⟩
  refine hK.out _ _ (⟨bD (Below.refl _ _), HC1.out _ (bD (Below.refl _ _))⟩) (fun hHeld2 => ?_)
  clear hK K hHeld
  have hHeld := hHeld2
  clear hHeld2
  try simp only [Act.put, List.setIfInBounds_toArray, List.set_cons_zero, List.set_cons_succ, List.getElem_toArray, List.getElem_cons_zero, List.getElem_cons_succ]
  refine wpAnyH_ready (rs := [3]) (by kernel_rfl) (by simp) ?_
  refine AllReadyH.cons rfl (fun K hK => ?_) AllReadyH.nil
  go_simp
  go_at_call 46
  refine (pending_any D 0 S.length _).mono ?_
  rintro e4 w4 ⟨rfl, hw4⟩
  have hwl : Below w1.heap.size w1 w4 := by rw [hw4]; exact bA (bA (bA (bD (Below.refl _ _)) _) _) _
  refine hK.out _ _ (⟨hwl, HC1.out _ hwl⟩) (fun hHeld2 => ?_)
  clear hK K hHeld
  have hHeld := hHeld2
  clear hHeld2
  try simp only [Act.put, List.setIfInBounds_toArray, List.set_cons_zero, List.set_cons_succ, List.getElem_toArray, List.getElem_cons_zero, List.getElem_cons_succ]
  refine wpAnyH_done (by kernel_rfl) ?_ _
  refine NoPanic.normal ?_
  simp only [World.size_drew, hs1]
  obtain ⟨B, hB⟩ : ∃ B, w.heap.size = B := ⟨_, rfl⟩
  have hs1' : w1.drew.heap.size = B + 1 := by rw [World.size_drew, hs1, hB]
  have hbD : w4.heap[B + 1]? = some (.cells #[.pointer (some ⟨D, 0, none⟩)] 26 (0, 0)) := by
    rw [hw4, ← hs1']
    exact (Below.heap_alloc _ _ _ (by simp; omega)).trans ((Below.heap_alloc _ _ _ (by simp)).trans (heap_new w1.drew _))
  have hbA : w4.heap[B + 1 + 1]? = some (.cells #[.int .i64 0] 3 (0, 0)) := by
    rw [hw4, ← hs1']
    exact (Below.heap_alloc _ _ _ (by simp)).trans (by simpa using heap_new (w1.drew.alloc (.cells #[.pointer (some ⟨D, 0, none⟩)] 26)) (.cells #[.int .i64 0] 3))
  have hbN : w4.heap[B + 1 + 1 + 1]? = some (.cells #[.int .i64 (S.length : Int)] 3 (0, 0)) := by
    rw [hw4, ← hs1']
    simpa using heap_new ((w1.drew.alloc (.cells #[.pointer (some ⟨D, 0, none⟩)] 26)).alloc (.cells #[.int .i64 0] 3)) (.cells #[.int .i64 (S.length : Int)] 3)
  have hs4 : w4.heap.size = B + 4 := by rw [hw4]; simp; omega
  have hb04 : Below w.heap.size w w4 := bT HB1.out hwl
  have hX4 : w4.heap[B]? = some (.cells #[.pointer (some ⟨D, 0, none⟩)] 26 (0, 0)) := by rw [← hB]; exact (hwl.block _ (by rw [hs1]; omega)).trans HX1.out
  have HD4 := Lib.hid (HH.out.on hb04)
  rw [hB] at hDl hgl hb04 ⊢
  have HBD := Lib.hid hbD
  have HBA := Lib.hid hbA
  have HBN := Lib.hid hbN
  have HS4 := Lib.hid hs4
  have HB4 := Lib.hid hb04
  have HX4 := Lib.hid hX4
  have HBE := Lib.hid hB
  clear hbD hbA hbN hs4 hb04 hX4 hw4 hwl hHeld HC1 HX1 HB1 hs1 hs1' c1 HREC hB
  gi_wp2
  obtain ⟨Z, hZs, hz⟩ := zero_wr
  have hkl : ∀ k, k = B + 1 ∨ k = B + 1 + 1 ∨ k = B + 1 + 1 + 1 ∨ v.ownBlock = some k → k < w4.heap.size := fun k hk => by
    have := HS4.out
    rcases hk with rfl | rfl | rfl | hk
    · omega
    · omega
    · omega
    · exact (HD4.out.row.lt k hk).2
  refine wpIn_rangeFunc_ownH (n := 5) (α := Pw S.length ws.length) rfl (by decide) (gf := 61) (lb := #[.pointer (some ⟨B + 1, 0, none⟩), .pointer (some ⟨B + 1 + 1, 0, none⟩), .pointer (some ⟨B + 1 + 1 + 1, 0, none⟩)]) rfl trivial (enters_of Try.func61 (by kernel_rfl) rfl)
    (pend_stops 4 (B + 1) (B + 1 + 1) (B + 1 + 1 + 1) D g S.length 0 S.length (less c) v ws (fun x hx => ⟨Nat.zero_le _, by have := (HD4.out.a64 x hx).1; omega⟩) (by have := HD4.out.few; omega) HD4.out.a64 hws HD4.out.few w4 HBD.out HBA.out HBN.out HD4.out.box (D + 1) HD4.out.row) KeepB.trans
    (fun W l o o' hl ho _ _ => ⟨by simp, fun k hk => World.putObj_heap_other (fun e => by have := hkl k hk; omega)⟩) (Below.refl _ _) (fun _ => rfl)
    (fun pre W => W.heap[g]? = some (.cells (dCells (doneS S (pre.map (fun x => x.1.2)))).toArray 82 (0, 0)) ∧ Chg (fun k => k = g) w4 W)
    (fun _ _ _ => False)
    (OwnFrom.and (Own.from (cells_own g (fun pre : List (Pw S.length ws.length) => .cells (dCells (doneS S (pre.map (fun x => x.1.2)))).toArray 82 (0, 0)) (fun _ => rfl)) _) (ownFrom_chg (Nat.le_refl _)))
    (fun _ _ _ _ _ hs _ _ => hs)
    ⟨HD4.out.dur, Chg.refl _ _⟩
    (fun x a' W => ∃ Bx, B + 4 ≤ Bx ∧ W.heap[Bx]? = some (.cells (wCell x.1.2).toArray 84 (0, 0)) ∧ a' = { tmps := #[.pointer (some ⟨D, 0, none⟩), .pointer (some ⟨B, 0, none⟩), .int .i64 0, undef, .pointer (some ⟨Bx, 0, none⟩), .pointer (some ⟨D, 0, none⟩), .bool true, .bool false, .pointer (some ⟨D, 0, none⟩), .pointer (some ⟨D, 0, none⟩), .int .i64 (S.length : Int), .func (.func 61) #[] #[.pointer (some ⟨B + 1, 0, none⟩), .pointer (some ⟨B + 1 + 1, 0, none⟩), .pointer (some ⟨B + 1 + 1 + 1, 0, none⟩)], .int .i64 (x.1.1 : Int), .agg (wCell x.1.2).toArray, undef, undef, undef, undef, undef, undef, undef, undef, undef, undef, undef, undef], defers := [] })
    (fun x a' _ W W' row hs hg hr => by
      obtain ⟨Bx, h1, h2, h3⟩ := hs
      refine ⟨Bx, h1, (hg.block Bx (Array.getElem?_eq_some_iff.1 h2).1 (fun e => ?_)).trans h2, h3⟩
      obtain ⟨_, o, ho, hc⟩ := hr Bx e.symm
      rw [h2] at ho
      cases ho
      cases hc) ?assign ?body ?done ?stop
  case assign =>
    intro l pre x W K hI hK
    obtain ⟨⟨num, xw⟩, hx1, hx2, hx3⟩ := x
    have hx64 : xw.2.length = 64 := hx3
    have hcl : (wCell xw).length = 65 := wCell_len hx64
    have hi65 : (Try.prog.info? 84).map (·.size) = some (wCell xw).length := by rw [hcl]; exact size_wr
    have hall : (wCell xw).toArray.all (·.oneCell') = true := all_oneCell_toArray (wCell_one xw)
    have HI := Lib.hid hI
    have HI65 := Lib.hid hi65
    have HALL := Lib.hid hall
    have HCL := Lib.hid hcl
    have HZS := Lib.hid hZs
    have HK := Lib.hid hK
    clear hI hi65 hall hcl hZs hx64 hK
    simp only [encP]
    gi_wp2_with (refine list_in (ro := some l) (by simp) rfl (fun K hK => ?_); refine wp_store_new 84 (.tmp 4) (.tmp 13) rfl Z (wCell xw).toArray rfl rfl (by rw [HI65.out]; simp) (by rw [HZS.out]; simp [HCL.out]) HALL.out (hK _ _ ?_))
    refine HK.out _ _ ((KeepsOthers.alloc _ _).from _) (KeepB.chg (Chg.alloc (fun _ => False) W _) (fun k hk => ⟨Nat.lt_of_lt_of_le (hkl k hk) HI.out.2.size, fun e => e⟩)) ⟨(Chg.alloc (fun _ => False) W _).box HI.out.1 (fun e => e), HI.out.2.trans (Chg.alloc _ W _)⟩ ⟨W.heap.size, by have := HI.out.2.size; have := HS4.out; omega, heap_new W _, rfl⟩
  case body =>
    rintro l pre x a' W hl hr ⟨hdur, hchg⟩ ⟨Bx, hB4, hbx, rfl⟩ hlt
    obtain ⟨⟨num, xw⟩, hx1, hx2, hx3⟩ := x
    have hx2' : xw.1 < S.length := hx2
    have hx3' : xw.2.length = 64 := hx3
    have hXB := hchg.box HX4.out (by omega)
    have hRD : Rec W D g S.length v (less c) := hchg.box HD4.out.box hDg
    have kB : W.drew.cell? ⟨B, 0, none⟩ = some (.pointer (some ⟨D, 0, none⟩)) := by show W.cell? _ = _; rw [cell_in hXB]; rfl
    have kD : W.drew.cell? ⟨D, 0, none⟩ = some (.slice (some ⟨g, 0, none⟩) S.length S.length) := hRD.cells.1
    have kX : W.drew.cell? ⟨Bx, 0, none⟩ = some (.int .i64 (xw.1 : Int)) := by show W.cell? _ = _; rw [cell_in hbx]; rfl
    have kR : W.drew.rangeAt Bx 1 (bCells xw.2) := fun j u hj => by
      show W.cell? _ = _
      rw [cell_in hbx, List.getElem?_toArray, Nat.add_comm 1 j]
      exact hj
    have hSl : (doneS S (pre.map (fun x => x.1.2))).length = S.length := doneS_len _ _
    have hS64 : ∀ s ∈ doneS S (pre.map (fun x => x.1.2)), s.length = 64 := doneS_64 HD4.out.s64 (fun y hy => by
      obtain ⟨z, _, rfl⟩ := List.mem_map.1 hy
      exact z.2.2.2)
    have hth : W.drew.there g (xw.1 * 64) (bCells xw.2).toArray.size := by
      refine there_in (W := W.drew) hdur _ _ ?_
      rw [List.size_toArray, List.size_toArray, dCells_len hS64, hSl, bCells_len, hx3']
      omega
    have hgX : Bx ≠ g := by omega
    have hgB : B ≠ g := by omega
    have j0 : (0 : Int) ≤ (xw.1 : Int) := by omega
    have j1 : (xw.1 : Int) < (S.length : Int) := by omega
    have HDUR := Lib.hid hdur
    have HCHG := Lib.hid hchg
    have HTH := Lib.hid hth
    have HSL := Lib.hid hSl
    have HS64 := Lib.hid hS64
    have HX3 := Lib.hid hx3'
    clear hdur hchg hth hSl hS64 hXB hRD hbx
    gi_wp2
    refine region_round (S := fun X => X.cell? ⟨B, 0, none⟩ = some (.pointer (some ⟨D, 0, none⟩)) ∧ X.cell? ⟨D, 0, none⟩ = some (.slice (some ⟨g, 0, none⟩) S.length S.length) ∧ X.cell? ⟨Bx, 0, none⟩ = some (.int .i64 (xw.1 : Int)) ∧ X.rangeAt Bx 1 (bCells xw.2)) (by kernel_rfl) (by rintro ⟨_, _, h⟩; exact h) (by kernel_rfl) (⟨kB, kD, kX, kR⟩) (fun hHeld => ?_)
    refine wpAnyH_take (i := 0) (v := ?_) rfl (by kernel_rfl) (by kernel_rfl) (by kernel_rfl) (fun _ _ _ h => h) (Or.inl ⟨by rfl, ?_⟩) (by assumption) ?_
    rotate_left
    · (intro w hSw; (try dsimp only at hSw); go_simp; try (with_reducible rfl))
    try simp only [Act.put, List.setIfInBounds_toArray, List.set_cons_zero, List.set_cons_succ, List.getElem_toArray, List.getElem_cons_zero]
    refine wpAnyH_take (i := 1) (v := ?_) rfl (by kernel_rfl) (by kernel_rfl) (by kernel_rfl) (fun _ _ _ h => h) (Or.inl ⟨by rfl, ?_⟩) (by assumption) ?_
    rotate_left
    · (intro w hSw; (try dsimp only at hSw); go_simp; try (with_reducible rfl))
    try simp only [Act.put, List.setIfInBounds_toArray, List.set_cons_zero, List.set_cons_succ, List.getElem_toArray, List.getElem_cons_zero, List.getElem_cons_succ]
    refine wpAnyH_take (i := 2) (v := ?_) rfl (by kernel_rfl) (by kernel_rfl) (by kernel_rfl) (fun _ _ _ h => h) (Or.inl ⟨by rfl, ?_⟩) (by assumption) ?_
    rotate_left
    · (intro w hSw; (try dsimp only at hSw); go_simp; try (with_reducible rfl))
    try simp only [Act.put, List.setIfInBounds_toArray, List.set_cons_zero, List.set_cons_succ, List.getElem_toArray, List.getElem_cons_zero, List.getElem_cons_succ]
    refine wpAnyH_take (i := 3) (v := ?_) rfl (by kernel_rfl) (by kernel_rfl) (by kernel_rfl) (fun _ _ _ h => h) (Or.inl ⟨by rfl, ?_⟩) (by assumption) ?_
    rotate_left
    · (intro w hSw; (try dsimp only at hSw); go_simp; try (with_reducible rfl))
    try simp only [Act.put, List.setIfInBounds_toArray, List.set_cons_zero, List.set_cons_succ, List.getElem_toArray, List.getElem_cons_zero, List.getElem_cons_succ]
    refine wpAnyH_take (i := 4) (v := ?_) rfl (by kernel_rfl) (by kernel_rfl) (by kernel_rfl) (fun _ _ _ h => h) (Or.inl ⟨by rfl, ?_⟩) (by assumption) ?_
    rotate_left
    · (intro w hSw; (try dsimp only at hSw); go_simp; try (with_reducible rfl))
    try simp only [Act.put, List.setIfInBounds_toArray, List.set_cons_zero, List.set_cons_succ, List.getElem_toArray, List.getElem_cons_zero, List.getElem_cons_succ]
    refine wpAnyH_take (i := 5) (v := ?_) rfl (by kernel_rfl) (by kernel_rfl) (by kernel_rfl) (fun _ _ _ h => h) (Or.inl ⟨by rfl, ?_⟩) (by assumption) ?_
    rotate_left
    · (intro w hSw; (try dsimp only at hSw); go_simp; try (with_reducible rfl))
    try simp only [Act.put, List.setIfInBounds_toArray, List.set_cons_zero, List.set_cons_succ, List.getElem_toArray, List.getElem_cons_zero, List.getElem_cons_succ]
    refine wpAnyH_take (i := 6) (v := ?_) rfl (by kernel_rfl) (by kernel_rfl) (by kernel_rfl) (fun _ _ _ h => h) (Or.inl ⟨by rfl, ?_⟩) (by assumption) ?_
    rotate_left
    · (intro w hSw; (try dsimp only at hSw); go_simp; try (with_reducible rfl))
    try simp only [Act.put, List.setIfInBounds_toArray, List.set_cons_zero, List.set_cons_succ, List.getElem_toArray, List.getElem_cons_zero, List.getElem_cons_succ]
    refine wpAnyH_take (i := 7) (v := .agg (bCells xw.2).toArray) rfl (by kernel_rfl) (by kernel_rfl) (by kernel_rfl) (fun _ _ _ h => h) (yieldsIf_load_mid (by rfl) 82 (.tmp 20) rfl Bx (1) rfl (bCells xw.2) _ (fun X hX => hX.2.2.2) Try.underlying82 rfl (by rw [bCells_len, HX3.out]; exact size_sec)) (by assumption) ?_
    try simp only [Act.put, List.setIfInBounds_toArray, List.set_cons_zero, List.set_cons_succ, List.getElem_toArray, List.getElem_cons_zero, List.getElem_cons_succ]
    refine wpAnyH_take (i := 8) (v := ?_) rfl (by kernel_rfl) (by kernel_rfl) (by kernel_rfl) (fun _ _ _ h => h) (Or.inl ⟨by rfl, ?_⟩) (by assumption) ?_
    rotate_left
    · (intro w hSw; (try dsimp only at hSw); go_simp; try (with_reducible rfl))
    try simp only [Act.put, List.setIfInBounds_toArray, List.set_cons_zero, List.set_cons_succ, List.getElem_toArray, List.getElem_cons_zero, List.getElem_cons_succ]
    refine wpAnyH_ready (rs := [9]) (by kernel_rfl) (by simp) ?_
    refine AllReadyH.cons rfl (fun K hK => ?_) AllReadyH.nil
    rw [if_pos (by rfl)]
    refine wp_store_mid 82 (.tmp 22) (.tmp 21) rfl g (xw.1 * 64) (bCells xw.2).toArray rfl rfl HTH.out (by rw [List.size_toArray, bCells_len, HX3.out]; exact size_sec) (all_oneCell_toArray (bCells_one _)) ?_
    rw [List.toList_toArray]
    have hout : ∀ q : Addr, q.block ≠ g → (W.drew.setCells g (xw.1 * 64) (bCells xw.2)).cell? q = W.drew.cell? q := fun q hq => World.cell?_setCells_out g _ _ _ q (fun e _ => absurd e hq)
    refine hK.out _ _ (⟨(hout _ hgB).trans kB, (hout _ hDg).trans kD, (hout _ hgX).trans kX, World.rangeAt_setCells_apart kR g _ _ (.inl hgX)⟩) (fun hHeld2 => ?_)
    clear hK K hHeld
    have hHeld := hHeld2
    clear hHeld2
    refine wpAnyH_done (by kernel_rfl) ?_ _
    refine ⟨((KeepsOthers.drew W).trans (keeps_setCells g (bCells xw.2) (xw.1 * 64) W.drew)).from _, KeepB.chg ((Chg.drew (fun k => k = g) W).trans (chg_setCells g _ _ _)) (fun k hk => ⟨Nat.lt_of_lt_of_le (hkl k hk) HCHG.out.size, fun e => ?_⟩), ?_, HCHG.out.trans ((Chg.drew (fun k => k = g) W).trans (chg_setCells g _ _ _))⟩
    · subst e
      rcases hk with h | h | h | h
      · omega
      · omega
      · omega
      · exact own_ne HD4.out.row HD4.out.dur (by decide) h
    · rw [List.map_append, List.map_cons, List.map_nil, doneS_snoc]
      exact dur_set (W := W.drew) HDUR.out HS64.out xw.1 (by rw [HSL.out]; exact hx2') xw.2 HX3.out
  case done =>
    rintro Dd ys W hD rfl ⟨hdur, hchg⟩ hKd
    have hXB := hchg.box HX4.out (by omega)
    have hRD : Rec W D g S.length v (less c) := hchg.box HD4.out.box hDg
    have kB : W.cell? ⟨B, 0, none⟩ = some (.pointer (some ⟨D, 0, none⟩)) := by rw [cell_in hXB]; rfl
    have kD := hRD.cells.2.1
    have fD := frozen_in hRD 1
    have HDUR := Lib.hid hdur
    have HCHG := Lib.hid hchg
    have HRD := Lib.hid hRD
    have HKD := Lib.hid hKd
    clear hdur hchg hRD hKd hXB
    gi_wp2
    refine ⟨by simp, .inl ⟨_, _, rfl, run_takeDeferred ((KeepsOthers.setCell W ⟨D, 1, none⟩ (.slice none 0 0)).same Dd _ HKD.out rfl), ?_⟩⟩
    have hDd := HS4.out
    have hdl := doneS_len S ws
    have hc1 : Chg (fun k => k = Dd) (W.setCell ⟨D, 1, none⟩ (.slice none 0 0)) ((W.setCell ⟨D, 1, none⟩ (.slice none 0 0)).putObj Dd (.deferred none)) := (Chg.grown (grownBy_putObj' _ Dd _)).weaken (fun k _ e => by cases e; rfl)
    have hmap : (pend S.length ws HD4.out.a64).map (fun x => x.1.2) = ws := by
      unfold pend
      rw [List.map_map]
      apply List.ext_getElem
      · simp
      · intro i h1 h2
        simp
    have hdur := HDUR.out
    rw [hmap] at hdur
    have hbe := HBE.out
    refine ⟨_, results_tmp rfl _ _ _, rfl, ⟨?_, ?_, World.ownsRow_nil _ _ _ _, doneS_64 HD4.out.s64 (fun x hx => (HD4.out.a64 x hx).2), fun x hx => by simp at hx, by rw [hdl]; exact HD4.out.few⟩, ?_⟩
    · unfold Rec
      rw [hdl]
      exact hc1.box (rec_set HRD.out _) (by omega)
    · exact hc1.box ((Chg.setCell W ⟨D, 1, none⟩ (.slice none 0 0)).box hdur (fun e => hDg e.symm)) (by omega)
    · exact ((((Chg.below (by rw [hbe]; exact HB4.out) (fun k => k = D ∨ k = g)).trans (HCHG.out.weaken (fun k _ e => .inr e))).trans ((Chg.setCell W ⟨D, 1, none⟩ (.slice none 0 0)).weaken (fun k _ e => .inl e))).trans2 hc1 (fun k hk e => by rw [hbe] at hk; omega))
  case stop =>
    rintro Dd c' pre W _ _ h _
    exact h.elim
/-- Sync with the power on. -/
theorem sync_any (D g : Nat) (S : List Sec) (v : Value) (ws : List Wq) (c : Int) (hl : -9223372036854775808 ≤ c ∧ c ≤ 9223372036854775807) (hcz : c ≠ 0) (hws : ws.length ≤ 1000000) (w : World) (H : DiskAt w D g S v ws c) (hDg : D ≠ g) :
    Calls Try.prog 73 #[.pointer (some ⟨D, 0, none⟩)] w fun e w' => e = .returned (.int .i64 0) ∧ DiskAt w' D g (doneS S ws) (.slice none 0 0) [] (less c) ∧ Chg (fun k => k = D ∨ k = g) w w' := by
  refine (sync_on D g S v ws c hl hcz hws w _ H hDg rfl (tick_disk H hDg)).mono ?_
  rintro e w' ⟨rfl, h1, h2⟩
  exact ⟨rfl, h1, ((tick_chg w D c).weaken (fun k _ e => .inl e)).trans h2⟩
set_option maxRecDepth 100000 in
/-- Sync with the power off. -/
theorem sync_off (D g n : Nat) (v : Value) (w : World) (H : Rec w D g n v 0) :
    Calls Try.prog 73 #[.pointer (some ⟨D, 0, none⟩)] w fun e w' => e = .returned (.int .i64 20) ∧ Below w.heap.size w w' := by
  have hD0 : D < w.heap.size := (Array.getElem?_eq_some_iff.1 H).1
  have hR : Rec (w.alloc (.cells #[.pointer (some ⟨D, 0, none⟩)] 26)) D g n v 0 := (Below.heap_alloc _ _ _ hD0).trans H
  refine (callsIn_wide (n := 5)).1 ?_
  refine callsIn_of_wp_marks Try.func73 rfl trivial ?_ rfl
  simp only [Try.ntmps73, List.size_toArray, List.length_cons, List.length_nil, Nat.reduceAdd, Nat.reduceSub, Array.replicate_succ, Array.replicate_zero, List.push_toArray, List.append_toArray, List.nil_append, List.cons_append]
  gi_wp2_with fail
  refine ⟨trivial, (callsIn_wide.2 (call_off D g n v _ hR)).mono ?_⟩
  rintro e w1 ⟨rfl, rfl⟩
  gi_wp2
  exact ⟨_, results_tmp rfl _ _ _, rfl, bA (Below.refl _ _) _⟩
end Go.Proofs.Ytgcifhhbhoafcaa
