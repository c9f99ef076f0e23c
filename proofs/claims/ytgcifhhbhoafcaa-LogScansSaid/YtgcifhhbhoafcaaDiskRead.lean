/-
  Read, of all sectors.
-/
import Derived.Test.YtgcifhhbhoafcaaLogPend
namespace Go.Proofs.Ytgcifhhbhoafcaa
open Go.RowKit Go.Shelf
attribute [local go_sem] Oper.semAt_some

theorem wp_copy_cells {P : Program} {op : Oper} {a : Act} {w : World} {K : Act → World → Prop} {Q : Exit → Act → World → Prop} (d s : Operand) (dT sT elem : TypeId) (ho : op.op = .call { callee := .builtin .copy, args := #[d, s], argTypes := #[dT, sT] }) (b o dLen dCap : Nat) (ad : Addr) (sLen sCap : Nat) (cs : List Value)
    (hd : a.eval d = .slice (some ⟨b, o, none⟩) dLen dCap) (hs : a.eval s = .slice (some ad) sLen sCap) (hu : P.underlying dT = some (.slice elem)) (hz : (P.info? elem).map (·.size) = some 1) (hn : cs.length = Nat.min sLen dLen)
    (hsrc : ∀ j v, cs[j]? = some v → w.cell? (ad.add j) = some v) (ht : w.there b o cs.length) (h1 : ∀ v ∈ cs, v.oneCell' = true) (h : K (a.put op.dst (goInt cs.length)) (w.setCells b o cs)) : op.wp P a w K Q := by
  have hr := run_copy_cells (P := P) w dT sT op.type elem b o dLen dCap ad sLen sCap cs hu hz hn hsrc (fun j hj => (ht j hj).1) (fun j hj => (ht j hj).2) h1
  unfold Oper.wp execOp
  simp only [ho, resolve, invoke, builtin, Sem.run_bind, Sem.run_pure, Result.andThen_ok, List.map_toArray, List.map_cons, List.map_nil, hd, hs, hr]
  exact h

theorem size_u8 : (Try.prog.info? 5).map (·.size) = some 1 := by kernel_rfl
theorem info_u8 : (Try.prog.info? 5).map (fun i => (i.zero, i.size, i.bytes)) = some (some (.int .u8 0), 1, 1) := by kernel_rfl
theorem make_u8 (w : World) (n : Nat) (hn : n ≤ 1099511627776) : (Instr.makeSlice 22 (.int .i64 (n : Int)) (.int .i64 (n : Int))).run Try.prog w = .ok (.slice (some ⟨w.heap.size, 0, none⟩) n n) (w.alloc (.cells (List.replicate n (Value.int .u8 0)).toArray 5)) := by
  obtain ⟨i0, hi, hz0, hz1, hz2⟩ := info_parts info_u8
  have h := run_make (P := Try.prog) w 22 5 i0 (.int .u8 0) Try.underlying22 hi hz0 .i64 .i64 (n : Int) (n : Int) (by omega) (by omega) (by rw [hz2]; omega) (by omega)
  rw [h]
  have e1 : ((n : Int)).toNat = n := by omega
  rw [e1, hz1, Nat.mul_one]
  have : madeCells (Value.int .u8 0).cells n = (List.replicate n (Value.int .u8 0)).toArray := by
    apply Array.toList_inj.1
    exact toList_madeCells_one _ _
  rw [this]
/-- The first i sectors, zeros behind. -/
def headS (S : List Sec) (i : Nat) : List Sec := S.take i ++ zeroS (S.length - i)
theorem headS_len (S : List Sec) (i : Nat) (h : i ≤ S.length) : (headS S i).length = S.length := by simp [headS, zeroS]; omega
theorem headS_64 {S : List Sec} (hS : ∀ s ∈ S, s.length = 64) (i : Nat) : ∀ s ∈ headS S i, s.length = 64 := fun s hs => by
  rcases List.mem_append.1 hs with h | h
  · exact hS s (List.mem_of_mem_take h)
  · rw [List.eq_of_mem_replicate h, List.length_replicate]
theorem headS_next (S : List Sec) (i : Nat) (h : i < S.length) : (headS S i).set i S[i] = headS S (i + 1) := by
  unfold headS zeroS
  rw [List.set_append_right _ _ (by rw [List.length_take]; omega), List.length_take, Nat.min_eq_left (by omega), Nat.sub_self, show S.length - i = (S.length - (i + 1)) + 1 by omega, List.replicate_succ, List.set_cons_zero, List.take_succ_eq_append_getElem h, List.append_assoc]
  rfl
theorem headS_zero (S : List Sec) : headS S 0 = zeroS S.length := by simp [headS]
theorem headS_all (S : List Sec) : headS S S.length = S := by simp [headS, zeroS]

/-- The writes, numbered from sector A on. -/
def shW (A : Nat) (ws : List Wq) : List Wq := ws.map fun x => (x.1 - A, x.2)
theorem shW_64 {A : Nat} {ws : List Wq} (h : ∀ x ∈ ws, x.2.length = 64) : ∀ x ∈ shW A ws, x.2.length = 64 := fun x hx => by
  obtain ⟨y, hy, rfl⟩ := List.mem_map.1 hx
  exact h y hy
/-- A part of the sectors. -/
def partS (S : List Sec) (A N : Nat) : List Sec := (S.drop A).take N
theorem partS_len {S : List Sec} {A N : Nat} (h : A + N ≤ S.length) : (partS S A N).length = N := by simp [partS]; omega
theorem partS_64 {S : List Sec} {A N : Nat} (h : ∀ s ∈ S, s.length = 64) : ∀ s ∈ partS S A N, s.length = 64 := fun s hs => h s (List.mem_of_mem_drop (List.mem_of_mem_take hs))
theorem partS_at {S : List Sec} {A N : Nat} (h : A + N ≤ S.length) (i : Nat) (hi : i < N) : (partS S A N)[i]'(by rw [partS_len h]; exact hi) = S[A + i] := by simp [partS]
/-- What is read of a part: the part, behind the writes. -/
theorem partS_done (A N : Nat) : ∀ (ws : List Wq) (S : List Sec), A + N ≤ S.length → (∀ x ∈ ws, A ≤ x.1 ∧ x.1 < A + N) → doneS (partS S A N) (shW A ws) = partS (doneS S ws) A N
  | [], S, _, _ => rfl
  | x :: ws, S, h, hx => by
    have h1 := hx x List.mem_cons_self
    have e : (partS S A N).set (x.1 - A) x.2 = partS (S.set x.1 x.2) A N := by
      unfold partS
      rw [List.drop_set, if_neg (by omega), List.take_set]
    show doneS ((partS S A N).set (x.1 - A) x.2) (shW A ws) = _
    rw [e, partS_done A N ws _ (by rw [List.length_set]; exact h) (fun y hy => hx y (List.mem_cons_of_mem _ hy))]
    rfl

theorem partS_some (A N : Nat) : ∀ (ws : List Wq) (S : List Sec), A + N ≤ S.length → doneS (partS S A N) (shW A (ws.filter (inR A (A + N)))) = partS (doneS S ws) A N
  | [], S, _ => rfl
  | x :: ws, S, h => by
    have ih := partS_some A N ws (S.set x.1 x.2) (by rw [List.length_set]; exact h)
    by_cases hx : A ≤ x.1 ∧ x.1 < A + N
    · have e : (partS S A N).set (x.1 - A) x.2 = partS (S.set x.1 x.2) A N := by
        unfold partS
        rw [List.drop_set, if_neg (by omega), List.take_set]
      rw [List.filter_cons_of_pos (by simp [inR, hx])]
      show doneS ((partS S A N).set (x.1 - A) x.2) (shW A (ws.filter (inR A (A + N)))) = _
      rw [e, ih]
      rfl
    · have e : partS (S.set x.1 x.2) A N = partS S A N := by
        unfold partS
        rw [List.drop_set]
        split
        · rfl
        · rw [List.take_set, List.set_eq_of_length_le (by rw [List.length_take]; omega)]
      rw [List.filter_cons_of_neg (by simp only [inR, Bool.and_eq_true, decide_eq_true_eq]; exact hx), ← e, ih]
      rfl

set_option maxRecDepth 100000 in
set_option maxHeartbeats 8000000 in
theorem read_on (D g : Nat) (S : List Sec) (v : Value) (ws : List Wq) (c : Int) (hl : -9223372036854775808 ≤ c ∧ c ≤ 9223372036854775807) (hcz : c ≠ 0) (hws : ws.length ≤ 1000000) (A N : Nat) (h1S : 1 ≤ N) (hAN : A + N ≤ S.length) (w0 w : World) (H0 : DiskAt w0 D g S v ws c) (hwt : tick w0 D c = w) (H : DiskAt w D g S v ws (less c)) :
    Calls Try.prog 28 #[.pointer (some ⟨D, 0, none⟩), .int .i64 A, .int .i64 (N : Int)] w0 fun e w' => ∃ R, e = .returned (.tuple #[.slice (some ⟨R, 0, none⟩) (N * 64) (N * 64), .int .i64 0]) ∧ w'.heap[R]? = some (.cells (dCells (doneS (partS S A N) (shW A (ws.filter (inR A (A + N)))))).toArray 5 (0, 0)) ∧ w.heap.size ≤ R ∧ Below w.heap.size w w' := by
  have HH := Lib.hid H
  have hD0 : D < w0.heap.size := (Array.getElem?_eq_some_iff.1 H0.box).1
  have hst : w.heap.size = w0.heap.size := by rw [← hwt]; exact tick_size w0 D c
  have hDl : D < w.heap.size := by rw [hst]; exact hD0
  have hgl : g < w.heap.size := (Array.getElem?_eq_some_iff.1 H.dur).1
  have hNf := H.few
  have HREC0 := Lib.hid (fun (W : World) (hW : Below w0.heap.size w0 W) => (H0.on hW).box)
  have HREC := Lib.hid (fun (W : World) (hW : Below w.heap.size w W) => (H.on hW).box)
  have HWT := Lib.hid hwt
  have HST := Lib.hid hst
  have hTl := partS_len hAN
  have hT64 := partS_64 (A := A) (N := N) H.s64
  have HTAT := Lib.hid (fun i hi => partS_at hAN i hi)
  obtain ⟨T, hT⟩ : ∃ T, partS S A N = T := ⟨_, rfl⟩
  obtain ⟨NS, hNS⟩ : ∃ NS, NS = S.length := ⟨_, rfl⟩
  have HNS := Lib.hid hNS
  rw [← hNS] at hNf hAN HREC0 HREC
  rw [hT] at hTl hT64 ⊢
  have HTE := Lib.hid hT
  have HN := Lib.hid hTl.symm
  have HT64 := Lib.hid hT64
  have HIN := Lib.hid (show ∀ x ∈ ws, x.2.length = 64 from fun x hx => (H.a64 x hx).2)
  obtain ⟨L, hL⟩ : ∃ L, L = N * 64 := ⟨_, rfl⟩
  have HL := Lib.hid hL
  have hLI : (N : Int) * 64 = (L : Int) := by omega
  have hLb : L ≤ 10000000 := by omega
  rw [← hL]
  have hmk := fun W => make_u8 W L (by omega)
  have hzc : List.replicate L (Value.int .u8 0) = dCells (headS T 0) := by rw [headS_zero, hTl, hL]; exact zero_cellsN N
  simp only [hzc] at hmk
  clear H H0 hwt hst hL hzc hTl hT64 hNS hT
  refine (callsIn_wide (n := 5)).1 ?_
  refine callsIn_of_wp_marks Try.func28 rfl trivial ?_ rfl
  simp only [Try.ntmps28, List.size_toArray, List.length_cons, List.length_nil, Nat.reduceAdd, Nat.reduceSub, Array.replicate_succ, Array.replicate_zero, List.push_toArray, List.append_toArray, List.nil_append, List.cons_append]
  gi_wp2_with fail
  have hHS := has_any D g NS v c A N h1S (by omega) hNf _ (HREC0.out _ (bA (Below.refl w0.heap.size w0) (.cells #[.int .i64 A] 3)))
  refine ⟨trivial, (callsIn_wide.2 hHS).mono ?_⟩
  rintro e w2 ⟨rfl, rfl⟩
  gi_wp2_with fail
  refine ⟨trivial, (callsIn_wide.2 (call_any D g NS v c hl hcz _ (HREC0.out _ (bA (Below.refl w0.heap.size w0) (.cells #[.int .i64 A] 3))))).mono ?_⟩
  rintro e w1 ⟨rfl, hw1⟩
  rw [tick_alloc w0 D c _ hD0, HWT.out] at hw1
  rw [← HST.out]
  clear hD0 HREC0 HWT HST hHS
  replace hw1 := hw1.symm

  have hb1 : Below w.heap.size w w1 := by rw [← hw1]; exact bA (Below.refl _ _) _
  have hA1 : w1.heap[w.heap.size]? = some (.cells #[.int .i64 A] 3 (0, 0)) := by rw [← hw1]; exact heap_new w _
  have hs1 : w1.heap.size = w.heap.size + 1 := by rw [← hw1]; simp
  clear hw1
  have HB1 := Lib.hid hb1
  have HA1 := Lib.hid hA1
  clear hb1 hA1
  gi_wp2
  have hb3 : Below w.heap.size w ((w1.alloc (.cells (dCells (headS T 0)).toArray 5)).alloc (.cells #[.slice (some ⟨w.heap.size + 1, 0, none⟩) L L] 22)) := bA (bA HB1.out _) _
  have hA3 : ((w1.alloc (.cells (dCells (headS T 0)).toArray 5)).alloc (.cells #[.slice (some ⟨w.heap.size + 1, 0, none⟩) L L] 22)).heap[w.heap.size]? = some (.cells #[.int .i64 A] 3 (0, 0)) := (Below.heap_alloc _ _ _ (by simp; omega)).trans ((Below.heap_alloc _ _ _ (by omega)).trans HA1.out)
  have hR3 : ((w1.alloc (.cells (dCells (headS T 0)).toArray 5)).alloc (.cells #[.slice (some ⟨w.heap.size + 1, 0, none⟩) L L] 22)).heap[w.heap.size + 1]? = some (.cells (dCells (headS T 0)).toArray 5 (0, 0)) := (Below.heap_alloc _ _ _ (by simp; omega)).trans (by rw [← hs1]; exact heap_new w1 _)
  have hT3 : ((w1.alloc (.cells (dCells (headS T 0)).toArray 5)).alloc (.cells #[.slice (some ⟨w.heap.size + 1, 0, none⟩) L L] 22)).heap[w.heap.size + 1 + 1]? = some (.cells #[.slice (some ⟨w.heap.size + 1, 0, none⟩) L L] 22 (0, 0)) := by
    have := heap_new (w1.alloc (.cells (dCells (headS T 0)).toArray 5)) (.cells #[.slice (some ⟨w.heap.size + 1, 0, none⟩) L L] 22)
    rw [World.size_alloc, hs1] at this
    exact this
  have hs3 : ((w1.alloc (.cells (dCells (headS T 0)).toArray 5)).alloc (.cells #[.slice (some ⟨w.heap.size + 1, 0, none⟩) L L] 22)).heap.size = w.heap.size + 3 := by simp; omega
  clear hmk
  generalize (w1.alloc (.cells (dCells (headS T 0)).toArray 5)).alloc (.cells #[.slice (some ⟨w.heap.size + 1, 0, none⟩) L L] 22) = w3 at *
  obtain ⟨B, hB⟩ : ∃ B, w.heap.size = B := ⟨_, rfl⟩
  have HBE := Lib.hid hB
  have HD3 := Lib.hid (HH.out.on hb3)
  rw [hB] at hb3 hA3 hR3 hT3 hs3 hDl hgl ⊢
  clear hB hs1
  have HB3 := Lib.hid hb3
  have HA3 := Lib.hid hA3
  have HR3 := Lib.hid hR3
  have HT3 := Lib.hid hT3
  have HS3 := Lib.hid hs3
  clear hb3 hA3 hR3 hT3 hs3
  gi_loopw [24] (fun s24 wr => ∃ i : Nat, i ≤ N ∧ s24 = .int .i64 i ∧ Hid (wr.heap[B + 1]? = some (.cells (dCells (headS T i)).toArray 5 (0, 0))) ∧ Hid (Chg (fun k => k = B + 1) w3 wr)) (fun s24 _ => N - (intOf s24).toNat)
  case atStart => exact ⟨0, Nat.zero_le _, rfl, HR3, Lib.hid (Chg.refl _ _)⟩
  case round =>
    obtain ⟨i, hi, rfl, HRW, HCH⟩ := hrel
    by_cases hlt : i < N
    · have d1 : decide ((i : Int) < (N : Int)) = true := decide_eq_true (by omega)
      have d1' : decide (i < N) = true := decide_eq_true hlt
      have hiS : i < T.length := by have := HN.out; omega
      obtain ⟨q, hq⟩ : ∃ q, q = i * 64 := ⟨_, rfl⟩
      have hwq : IntKind.i64.wrap ((i : Int) * 64) = (q : Int) := by rw [IntKind.wrap_i64]; omega
      have hqL : q + 64 ≤ L := by have := HL.out; omega
      have hqz : (L = q) = False := eq_false (by omega)
      have j0 : (0 : Int) ≤ (q : Int) := by omega
      have j1 : (q : Int) ≤ (L : Int) := by omega
      have j2 : (0 : Int) ≤ (i : Int) := by omega
      have j3 : (i : Int) < (N : Int) := by omega
      have hwi : IntKind.i64.wrap ((A : Int) + (i : Int)) = (A : Int) + (i : Int) := by rw [IntKind.wrap_i64]; omega
      have j4 : (0 : Int) ≤ (A : Int) + (i : Int) := by omega
      have j5 : (A : Int) + (i : Int) < (NS : Int) := by omega
      have hAiS : A + i < S.length := by have := HNS.out; omega
      have hni : ((A : Int) + (i : Int)).toNat = A + i := by omega
      have HQ := Lib.hid hq
      have hRDw : Rec wr D g NS v (less c) := by have h := HCH.out.box HD3.out.box (by omega); rw [← HNS.out] at h; exact h
      have kT : wr.drew.cell? ⟨B + 1 + 1, 0, none⟩ = some (.slice (some ⟨B + 1, 0, none⟩) L L) := by show wr.cell? _ = _; rw [cell_in (HCH.out.box HT3.out (by omega))]; rfl
      have kA : wr.drew.cell? ⟨B, 0, none⟩ = some (.int .i64 A) := by show wr.cell? _ = _; rw [cell_in (HCH.out.box HA3.out (by omega))]; rfl
      have kD : wr.drew.cell? ⟨D, 0, none⟩ = some (.slice (some ⟨g, 0, none⟩) NS NS) := hRDw.cells.1
      have hdur3 : wr.heap[g]? = some (.cells (dCells S).toArray 82 (0, 0)) := HCH.out.box HD3.out.dur (by omega)
      have hx64 : T[i].length = 64 := HT64.out _ (List.getElem_mem hiS)
      have hTi : T[i] = S[A + i] := (by
        have h := HTAT.out i hlt
        simp only [HTE.out] at h
        exact h)
      have HSRC := Lib.hid (show ∀ j u, (bCells T[i])[j]? = some u → wr.drew.cell? ((⟨g, (A + i) * 64, none⟩ : Addr).add j) = some u from fun j u hj => by
        rw [Addr.add_mid]
        show wr.cell? _ = _
        have hjl : j < 64 := by
          have := (List.getElem?_eq_some_iff.1 hj).1
          rwa [bCells_len, hx64] at this
        rw [cell_in hdur3, List.getElem?_toArray]
        have := flat_at bCells 64 S (A + i) hAiS (fun s hs => by rw [bCells_len, HD3.out.s64 s hs]) j hjl
        unfold dCells
        rw [this, ← hTi]
        exact hj)
      have HTH := Lib.hid (show wr.drew.there (B + 1) q (bCells T[i]).length from there_in (W := wr.drew) HRW.out q _ (by
        rw [List.size_toArray, dCells_len (headS_64 HT64.out i), headS_len T i (by omega), bCells_len, hx64]
        have := HN.out
        have := HQ.out
        omega))
      have HX64 := Lib.hid hx64
      have HNX := Lib.hid (headS_next T i hiS)
      obtain ⟨y, hy⟩ : ∃ y, T[i] = y := ⟨_, rfl⟩
      rw [hy] at HSRC HTH HX64 HNX
      clear hq hRDw hdur3 hx64 hy hTi
      gi_wp2
      refine wpIn_wide.2 ?_
      refine wp_region_noPanic ?_
      refine wp_region_held_drew (S := fun X => X.cell? ⟨B + 1 + 1, 0, none⟩ = some (.slice (some ⟨B + 1, 0, none⟩) L L) ∧ X.cell? ⟨B, 0, none⟩ = some (.int .i64 A) ∧ X.cell? ⟨D, 0, none⟩ = some (.slice (some ⟨g, 0, none⟩) NS NS)) (by kernel_rfl) (⟨kT, kA, kD⟩) (fun hHeld => ?_)
      refine wpAnyH_take (i := 0) (v := ?_) rfl (by kernel_rfl) (by kernel_rfl) (by kernel_rfl) (fun _ _ _ h => h) (Or.inl ⟨by rfl, ?_⟩) (by assumption) ?_
      rotate_left
      · (intro w hSw; (try dsimp only at hSw); go_simp; try (with_reducible rfl))
      try simp only [Act.put, List.setIfInBounds_toArray, List.set_cons_zero, List.set_cons_succ, List.getElem_toArray, List.getElem_cons_zero]
      refine wpAnyH_take (i := 1) (v := ?_) rfl (by kernel_rfl) (by kernel_rfl) (by kernel_rfl) (fun _ _ _ h => h) (Or.inl ⟨by rfl, ?_⟩) (by assumption) ?_
      rotate_left
      · (intro w hSw; (try dsimp only at hSw); go_simp; try (with_reducible rfl))
      try simp only [Act.put, List.setIfInBounds_toArray, List.set_cons_zero, List.set_cons_succ, List.getElem_toArray, List.getElem_cons_zero, List.getElem_cons_succ]
      refine wpAnyH_take (i := 2) (v := ?_) rfl (by kernel_rfl) (by kernel_rfl) (by kernel_rfl) (fun _ _ _ h => h) (Or.inl ⟨by rfl, ?_⟩) (by assumption) ?_
      rotate_left
      · (intro w hSw; (try dsimp only at hSw); go_simp; try (with_reducible rfl))
      try simp only [Act.put, List.setIfInBounds_toArray, List.set_cons_zero, List.set_cons_succ, List.getElem_toArray, List.getElem_cons_zero, List.getElem_cons_succ]
      refine wpAnyH_take (i := 3) (v := ?_) rfl (by kernel_rfl) (by kernel_rfl) (by kernel_rfl) (fun _ _ _ h => h) (Or.inl ⟨by rfl, ?_⟩) (by assumption) ?_
      rotate_left
      · (intro w hSw; (try dsimp only at hSw); go_simp; try (with_reducible rfl))
      try simp only [Act.put, List.setIfInBounds_toArray, List.set_cons_zero, List.set_cons_succ, List.getElem_toArray, List.getElem_cons_zero, List.getElem_cons_succ]
      refine wpAnyH_take (i := 4) (v := ?_) rfl (by kernel_rfl) (by kernel_rfl) (by kernel_rfl) (fun _ _ _ h => h) (Or.inl ⟨by rfl, ?_⟩) (by assumption) ?_
      rotate_left
      · (intro w hSw; (try dsimp only at hSw); go_simp; try (with_reducible rfl))
      try simp only [Act.put, List.setIfInBounds_toArray, List.set_cons_zero, List.set_cons_succ, List.getElem_toArray, List.getElem_cons_zero, List.getElem_cons_succ]
      refine wpAnyH_take (i := 5) (v := ?_) rfl (by kernel_rfl) (by kernel_rfl) (by kernel_rfl) (fun _ _ _ h => h) (Or.inl ⟨by rfl, ?_⟩) (by assumption) ?_
      rotate_left
      · (intro w hSw; (try dsimp only at hSw); go_simp; try (with_reducible rfl))
      try simp only [Act.put, List.setIfInBounds_toArray, List.set_cons_zero, List.set_cons_succ, List.getElem_toArray, List.getElem_cons_zero, List.getElem_cons_succ]
      refine wpAnyH_take (i := 6) (v := ?_) rfl (by kernel_rfl) (by kernel_rfl) (by kernel_rfl) (fun _ _ _ h => h) (Or.inl ⟨by rfl, ?_⟩) (by assumption) ?_
      rotate_left
      · (intro w hSw; (try dsimp only at hSw); go_simp; try (with_reducible rfl))
      try simp only [Act.put, List.setIfInBounds_toArray, List.set_cons_zero, List.set_cons_succ, List.getElem_toArray, List.getElem_cons_zero, List.getElem_cons_succ]
      refine wpAnyH_take (i := 7) (v := ?_) rfl (by kernel_rfl) (by kernel_rfl) (by kernel_rfl) (fun _ _ _ h => h) (Or.inl ⟨by rfl, ?_⟩) (by assumption) ?_
      rotate_left
      · (intro w hSw; (try dsimp only at hSw); go_simp; try (with_reducible rfl))
      try simp only [Act.put, List.setIfInBounds_toArray, List.set_cons_zero, List.set_cons_succ, List.getElem_toArray, List.getElem_cons_zero, List.getElem_cons_succ]
      refine wpAnyH_take (i := 8) (v := ?_) rfl (by kernel_rfl) (by kernel_rfl) (by kernel_rfl) (fun _ _ _ h => h) (Or.inl ⟨by rfl, ?_⟩) (by assumption) ?_
      rotate_left
      · (intro w hSw; (try dsimp only at hSw); go_simp; try (with_reducible rfl))
      try simp only [Act.put, List.setIfInBounds_toArray, List.set_cons_zero, List.set_cons_succ, List.getElem_toArray, List.getElem_cons_zero, List.getElem_cons_succ]
      refine wpAnyH_take (i := 9) (v := ?_) rfl (by kernel_rfl) (by kernel_rfl) (by kernel_rfl) (fun _ _ _ h => h) (Or.inl ⟨by rfl, ?_⟩) (by assumption) ?_
      rotate_left
      · (intro w hSw; (try dsimp only at hSw); go_simp; try (with_reducible rfl))
      try simp only [Act.put, List.setIfInBounds_toArray, List.set_cons_zero, List.set_cons_succ, List.getElem_toArray, List.getElem_cons_zero, List.getElem_cons_succ]
      refine wpAnyH_take (i := 10) (v := ?_) rfl (by kernel_rfl) (by kernel_rfl) (by kernel_rfl) (fun _ _ _ h => h) (Or.inl ⟨by rfl, ?_⟩) (by assumption) ?_
      rotate_left
      · (intro w hSw; (try dsimp only at hSw); go_simp; try (with_reducible rfl))
      try simp only [Act.put, List.setIfInBounds_toArray, List.set_cons_zero, List.set_cons_succ, List.getElem_toArray, List.getElem_cons_zero, List.getElem_cons_succ]
      refine wpAnyH_take (i := 11) (v := ?_) rfl (by kernel_rfl) (by kernel_rfl) (by kernel_rfl) (fun _ _ _ h => h) (Or.inl ⟨by rfl, ?_⟩) (by assumption) ?_
      rotate_left
      · (intro w hSw; (try dsimp only at hSw); go_simp; try (with_reducible rfl))
      try simp only [Act.put, List.setIfInBounds_toArray, List.set_cons_zero, List.set_cons_succ, List.getElem_toArray, List.getElem_cons_zero, List.getElem_cons_succ]
      refine wpAnyH_take (i := 12) (v := ?_) rfl (by kernel_rfl) (by kernel_rfl) (by kernel_rfl) (fun _ _ _ h => h) (Or.inl ⟨by rfl, ?_⟩) (by assumption) ?_
      rotate_left
      · (intro w hSw; (try dsimp only at hSw); go_simp; try (with_reducible rfl))
      try simp only [Act.put, List.setIfInBounds_toArray, List.set_cons_zero, List.set_cons_succ, List.getElem_toArray, List.getElem_cons_zero, List.getElem_cons_succ]
      refine wpAnyH_ready (rs := [13]) (by kernel_rfl) (by simp) ?_
      refine AllReadyH.cons rfl (fun K hK => ?_) AllReadyH.nil
      rw [if_pos (by rfl)]
      refine wp_copy_cells (.tmp 30) (.tmp 39) 22 22 5 rfl (B + 1) q (L - q) (L - q) ⟨g, (A + i) * 64, none⟩ 64 64 (bCells y) rfl rfl Try.underlying22 size_u8 (by rw [bCells_len, HX64.out]; exact (Nat.min_eq_left (by omega)).symm) HSRC.out HTH.out (bCells_one _) ?_
      have hout : ∀ p : Addr, p.block ≠ B + 1 → (wr.drew.setCells (B + 1) q (bCells y)).cell? p = wr.drew.cell? p := fun p hp => World.cell?_setCells_out (B + 1) _ _ _ p (fun e _ => absurd e hp)
      refine hK.out _ _ (⟨(hout _ (by show B + 1 + 1 ≠ B + 1; omega)).trans kT, (hout _ (by show B ≠ B + 1; omega)).trans kA, (hout _ (by show D ≠ B + 1; omega)).trans kD⟩) (fun hHeld2 => ?_)
      clear hK K hHeld
      have hHeld := hHeld2
      clear hHeld2
      try simp only [Act.put, List.setIfInBounds_toArray, List.set_cons_zero, List.set_cons_succ, List.getElem_toArray, List.getElem_cons_zero, List.getElem_cons_succ]
      refine wpAnyH_done (by kernel_rfl) ?_ _
      refine NoPanic.normal ?_
      have hc7 := (Chg.drew (fun k => k = B + 1) wr).trans (chg_setCells (B + 1) (bCells y) q wr.drew)
      have hR7 : (wr.drew.setCells (B + 1) q (bCells y)).heap[B + 1]? = some (.cells (dCells (headS T (i + 1))).toArray 5 (0, 0)) := by
        rw [HQ.out, ← HNX.out]
        exact dur_set (W := wr.drew) HRW.out (headS_64 HT64.out i) i (by rw [headS_len T i (by omega)]; exact hiS) y HX64.out
      generalize wr.drew.setCells (B + 1) q (bCells y) = w7 at *
      have HR7 := Lib.hid hR7
      have HC7 := Lib.hid (HCH.out.trans hc7)
      clear hR7 hc7 kT kA kD hHeld hout
      gi_wp2
      go_roundw
      case rel => exact ⟨i + 1, by omega, by go_num, HR7, HC7⟩
      case measure => simp [intOf]; omega
    · have d1 : decide ((i : Int) < (N : Int)) = false := decide_eq_false (by omega)
      have d1' : decide (i < N) = false := decide_eq_false hlt
      have HR4 := Lib.hid (show wr.heap[B + 1]? = some (.cells (dCells T).toArray 5 (0, 0)) by
        have h := HRW.out
        rw [show i = T.length by have := HN.out; omega, headS_all] at h
        exact h)
      have kA : wr.cell? ⟨B, 0, none⟩ = some (.int .i64 A) := by rw [cell_in (HCH.out.box HA3.out (by omega))]; rfl
      have hb4 : Below w.heap.size w wr := HCH.out.on (by rw [HBE.out]; exact HB3.out) (by rw [HBE.out]; have := HS3.out; omega) (fun k hk => by rw [hk, HBE.out]; omega)
      have HB4 := Lib.hid hb4
      have hs4 := HCH.out.size
      clear hb4
      gi_wp2_with fail
      refine ⟨trivial, (callsIn_wide.2 (pending_any D A N wr)).mono ?_⟩
      rintro e w6 ⟨rfl, hw6⟩
      have hbD : w6.heap[wr.heap.size]? = some (.cells #[.pointer (some ⟨D, 0, none⟩)] 26 (0, 0)) := by
        rw [hw6]
        exact (Below.heap_alloc _ _ _ (by simp; omega)).trans ((Below.heap_alloc _ _ _ (by simp)).trans (heap_new wr _))
      have hbA : w6.heap[wr.heap.size + 1]? = some (.cells #[.int .i64 A] 3 (0, 0)) := by
        rw [hw6]
        exact (Below.heap_alloc _ _ _ (by simp)).trans (by simpa using heap_new (wr.alloc (.cells #[.pointer (some ⟨D, 0, none⟩)] 26)) (.cells #[.int .i64 A] 3))
      have hbN : w6.heap[wr.heap.size + 1 + 1]? = some (.cells #[.int .i64 (N : Int)] 3 (0, 0)) := by
        rw [hw6]
        simpa using heap_new ((wr.alloc (.cells #[.pointer (some ⟨D, 0, none⟩)] 26)).alloc (.cells #[.int .i64 A] 3)) (.cells #[.int .i64 (N : Int)] 3)
      have hs6 : w6.heap.size = wr.heap.size + 3 := by rw [hw6]; simp
      have hwl : Below wr.heap.size wr w6 := by rw [hw6]; exact bA (bA (bA (Below.refl _ _) _) _) _
      have hc6 := Chg.below hwl (fun _ => False)
      have hb06 := bT HB4.out hwl
      have HD6 := Lib.hid (HH.out.on hb06)
      have HA6 := Lib.hid (hc6.box (HCH.out.box HA3.out (by omega)) (fun e => e))
      have HT6 := Lib.hid (hc6.box (HCH.out.box HT3.out (by omega)) (fun e => e))
      have HR6 := Lib.hid (hc6.box HR4.out (fun e => e))
      have hPB : B + 3 ≤ wr.heap.size := by have := HS3.out; omega
      generalize wr.heap.size = P at *
      have HBD := Lib.hid hbD
      have HBA := Lib.hid hbA
      have HBN := Lib.hid hbN
      have HS6 := Lib.hid hs6
      have HB6 := Lib.hid hb06
      clear hbD hbA hbN hs6 hb06 hwl hc6 hw6 HCH HRW HR4 HB4 kA HR3 HT3 HA3 HS3 HB3 hs4
      gi_wp2
      obtain ⟨Z, hZs, hz⟩ := zero_wr
      have hkl6 : ∀ k, k = P ∨ k = P + 1 ∨ k = P + 1 + 1 ∨ v.ownBlock = some k → k < w6.heap.size := fun k hk => by
        have := HS6.out
        rcases hk with rfl | rfl | rfl | hk
        · omega
        · omega
        · omega
        · exact (HD6.out.row.lt k hk).2
      have hvw : ∀ k, v.ownBlock = some k → k < B := fun k hk => by
        have := (HH.out.row.lt k hk).2
        rw [HBE.out] at this
        exact this
      refine wpIn_rangeFunc_ownH (n := 5) (α := PwR A (A + N) ws.length) rfl (by decide) (gf := 61) (lb := #[.pointer (some ⟨P, 0, none⟩), .pointer (some ⟨P + 1, 0, none⟩), .pointer (some ⟨P + 1 + 1, 0, none⟩)]) rfl trivial (enters_of Try.func61 (by kernel_rfl) rfl)
        (pendR_stops 4 P (P + 1) (P + 1 + 1) D g S.length A (A + N) N (less c) v ws rfl HIN.out hws (by omega) w6 HBD.out HBA.out HBN.out HD6.out.box (D + 1) HD6.out.row) KeepB.trans
        (fun W l o o' hl ho _ _ => ⟨by simp, fun k hk => World.putObj_heap_other (fun e => by have := hkl6 k hk; omega)⟩) (Below.refl _ _) (fun _ => rfl)
        (fun pre W => W.heap[B + 1]? = some (.cells (dCells (doneS T (shW A (pre.map (fun x => x.1.2))))).toArray 5 (0, 0)) ∧ Chg (fun k => k = B + 1) w6 W)
        (fun _ _ _ => False)
        (OwnFrom.and (Own.from (cells_own (B + 1) (fun pre : List (PwR A (A + N) ws.length) => .cells (dCells (doneS T (shW A (pre.map (fun x => x.1.2))))).toArray 5 (0, 0)) (fun _ => rfl)) _) (ownFrom_chg (Nat.le_refl _)))
        (fun _ _ _ _ _ hs _ _ => hs)
        ⟨HR6.out, Chg.refl _ _⟩
        (fun x a' W => ∃ Bx, P + 3 ≤ Bx ∧ W.heap[Bx]? = some (.cells (wCell x.1.2).toArray 84 (0, 0)) ∧ a' = { tmps := #[.pointer (some ⟨D, 0, none⟩), .int .i64 A, .int .i64 N, undef, .pointer (some ⟨B, 0, none⟩), undef, .slice none 0 0, .int .i64 0, .pointer (some ⟨B + 1 + 1, 0, none⟩), u9, undef, .pointer (some ⟨Bx, 0, none⟩), .pointer (some ⟨D, 0, none⟩), .int .i64 A, .int .i64 N, .bool true, .bool false, .pointer (some ⟨D, 0, none⟩), .bool true, .bool false, .int .i64 N, .int .i64 L, .slice (some ⟨B + 1, 0, none⟩) L L, .int .i64 N, .int .i64 i, .bool false, u26, u27, u28, u29, u30, u31, u32, u33, u34, u35, u36, u37, u38, u39, u40, u41, .pointer (some ⟨D, 0, none⟩), .int .i64 A, .int .i64 N, .func (.func 61) #[] #[.pointer (some ⟨P, 0, none⟩), .pointer (some ⟨P + 1, 0, none⟩), .pointer (some ⟨P + 1 + 1, 0, none⟩)], .int .i64 (x.1.1 : Int), .agg (wCell x.1.2).toArray, undef, undef, undef, undef, undef, undef, undef, undef, undef, undef, undef], defers := [] })
        (fun x a' _ W W' row hs hg hr => by
          obtain ⟨Bx, h1, h2, h3⟩ := hs
          refine ⟨Bx, h1, (hg.block Bx (Array.getElem?_eq_some_iff.1 h2).1 (fun e => ?_)).trans h2, h3⟩
          obtain ⟨_, o, ho, hc⟩ := hr Bx e.symm
          rw [h2] at ho
          cases ho
          cases hc) ?assign ?body ?done ?stop
      case assign =>
        intro l pre x W K hI hK
        obtain ⟨⟨num, xw⟩, hx1, hx2, hx3⟩ := x
        have hx64 : xw.2.length = 64 := hx3
        have hcl : (wCell xw).length = 65 := wCell_len hx64
        have hi65 : (Try.prog.info? 84).map (·.size) = some (wCell xw).length := by rw [hcl]; exact size_wr
        have hall : (wCell xw).toArray.all (·.oneCell') = true := all_oneCell_toArray (wCell_one xw)
        have HI := Lib.hid hI
        have HI65 := Lib.hid hi65
        have HALL := Lib.hid hall
        have HCL := Lib.hid hcl
        have HZS := Lib.hid hZs
        have HK := Lib.hid hK
        clear hI hi65 hall hcl hZs hx64 hK
        simp only [encR]
        gi_wp2_with (refine list_in (ro := some l) (by simp) rfl (fun K hK => ?_); refine wp_store_new 84 (.tmp 11) (.tmp 47) rfl Z (wCell xw).toArray rfl rfl (by rw [HI65.out]; simp) (by rw [HZS.out]; simp [HCL.out]) HALL.out (hK _ _ ?_))
        refine HK.out _ _ ((KeepsOthers.alloc _ _).from _) (KeepB.chg (Chg.alloc (fun _ => False) W _) (fun k hk => ⟨Nat.lt_of_lt_of_le (hkl6 k hk) HI.out.2.size, fun e => e⟩)) ⟨(Chg.alloc (fun _ => False) W _).box HI.out.1 (fun e => e), HI.out.2.trans (Chg.alloc _ W _)⟩ ⟨W.heap.size, by have := HI.out.2.size; have := HS6.out; omega, heap_new W _, rfl⟩
      case body =>
        rintro l pre x a' W hl hr ⟨hdur, hchg⟩ ⟨Bx, hB4, hbx, rfl⟩ hlt
        obtain ⟨⟨num, xw⟩, hx1, hx2, hx3⟩ := x
        have hx2' : A ≤ xw.1 ∧ xw.1 < A + N := hx2
        have hx3' : xw.2.length = 64 := hx3
        have kT : W.drew.cell? ⟨B + 1 + 1, 0, none⟩ = some (.slice (some ⟨B + 1, 0, none⟩) L L) := by show W.cell? _ = _; rw [cell_in (hchg.box HT6.out (by omega))]; rfl
        have kA : W.drew.cell? ⟨B, 0, none⟩ = some (.int .i64 A) := by show W.cell? _ = _; rw [cell_in (hchg.box HA6.out (by omega))]; rfl
        have kX : W.drew.cell? ⟨Bx, 0, none⟩ = some (.int .i64 (xw.1 : Int)) := by show W.cell? _ = _; rw [cell_in hbx]; rfl
        obtain ⟨q, hq⟩ : ∃ q, q = (xw.1 - A) * 64 := ⟨_, rfl⟩
        have hqL : q + 64 ≤ L := by have := HL.out; have := HN.out; omega
        have hwq : IntKind.i64.wrap (((xw.1 : Int) - (A : Int)) * 64) = (q : Int) := by rw [IntKind.wrap_i64]; omega
        have hwa : IntKind.i64.wrap ((xw.1 : Int) - (A : Int)) = (xw.1 : Int) - (A : Int) := by rw [IntKind.wrap_i64]; omega
        have hqz : (L = q) = False := eq_false (by omega)
        have j0 : (0 : Int) ≤ (q : Int) := by omega
        have j1 : (q : Int) ≤ (L : Int) := by omega
        have hSl : (doneS T (shW A (pre.map (fun x => x.1.2)))).length = T.length := doneS_len _ _
        have hS64 : ∀ s ∈ doneS T (shW A (pre.map (fun x => x.1.2))), s.length = 64 := doneS_64 HT64.out (shW_64 (fun y hy => by
          obtain ⟨z, _, rfl⟩ := List.mem_map.1 hy
          exact z.2.2.2))
        have HSRC := Lib.hid (show ∀ j u, (bCells xw.2)[j]? = some u → W.drew.cell? ((⟨Bx, 1, none⟩ : Addr).add j) = some u from fun j u hj => by
          rw [Addr.add_mid]
          show W.cell? _ = _
          rw [cell_in hbx, List.getElem?_toArray, Nat.add_comm 1 j]
          exact hj)
        have HTH := Lib.hid (show W.drew.there (B + 1) q (bCells xw.2).length from there_in (W := W.drew) hdur q _ (by
          rw [List.size_toArray, dCells_len hS64, hSl, bCells_len, hx3', hq]
          have := HN.out
          omega))
        have HQ := Lib.hid hq
        have HDUR := Lib.hid hdur
        have HCHG := Lib.hid hchg
        have HSL := Lib.hid hSl
        have HS64 := Lib.hid hS64
        have HX3 := Lib.hid hx3'
        clear hdur hchg hSl hS64 hbx hq
        gi_wp2
        refine region_round (S := fun X => X.cell? ⟨B + 1 + 1, 0, none⟩ = some (.slice (some ⟨B + 1, 0, none⟩) L L) ∧ X.cell? ⟨B, 0, none⟩ = some (.int .i64 A) ∧ X.cell? ⟨Bx, 0, none⟩ = some (.int .i64 (xw.1 : Int))) (by kernel_rfl) (by rintro ⟨_, _, h⟩; exact h) (by kernel_rfl) (⟨kT, kA, kX⟩) (fun hHeld => ?_)
        refine wpAnyH_take (i := 0) (v := ?_) rfl (by kernel_rfl) (by kernel_rfl) (by kernel_rfl) (fun _ _ _ h => h) (Or.inl ⟨by rfl, ?_⟩) (by assumption) ?_
        rotate_left
        · (intro w hSw; (try dsimp only at hSw); go_simp; try (with_reducible rfl))
        try simp only [Act.put, List.setIfInBounds_toArray, List.set_cons_zero, List.set_cons_succ, List.getElem_toArray, List.getElem_cons_zero]
        refine wpAnyH_take (i := 1) (v := ?_) rfl (by kernel_rfl) (by kernel_rfl) (by kernel_rfl) (fun _ _ _ h => h) (Or.inl ⟨by rfl, ?_⟩) (by assumption) ?_
        rotate_left
        · (intro w hSw; (try dsimp only at hSw); go_simp; try (with_reducible rfl))
        try simp only [Act.put, List.setIfInBounds_toArray, List.set_cons_zero, List.set_cons_succ, List.getElem_toArray, List.getElem_cons_zero, List.getElem_cons_succ]
        refine wpAnyH_take (i := 2) (v := ?_) rfl (by kernel_rfl) (by kernel_rfl) (by kernel_rfl) (fun _ _ _ h => h) (Or.inl ⟨by rfl, ?_⟩) (by assumption) ?_
        rotate_left
        · (intro w hSw; (try dsimp only at hSw); go_simp; try (with_reducible rfl))
        try simp only [Act.put, List.setIfInBounds_toArray, List.set_cons_zero, List.set_cons_succ, List.getElem_toArray, List.getElem_cons_zero, List.getElem_cons_succ]
        refine wpAnyH_take (i := 3) (v := ?_) rfl (by kernel_rfl) (by kernel_rfl) (by kernel_rfl) (fun _ _ _ h => h) (Or.inl ⟨by rfl, ?_⟩) (by assumption) ?_
        rotate_left
        · (intro w hSw; (try dsimp only at hSw); go_simp; try (with_reducible rfl))
        try simp only [Act.put, List.setIfInBounds_toArray, List.set_cons_zero, List.set_cons_succ, List.getElem_toArray, List.getElem_cons_zero, List.getElem_cons_succ]
        refine wpAnyH_take (i := 4) (v := ?_) rfl (by kernel_rfl) (by kernel_rfl) (by kernel_rfl) (fun _ _ _ h => h) (Or.inl ⟨by rfl, ?_⟩) (by assumption) ?_
        rotate_left
        · (intro w hSw; (try dsimp only at hSw); go_simp; try (with_reducible rfl))
        try simp only [Act.put, List.setIfInBounds_toArray, List.set_cons_zero, List.set_cons_succ, List.getElem_toArray, List.getElem_cons_zero, List.getElem_cons_succ]
        refine wpAnyH_take (i := 5) (v := ?_) rfl (by kernel_rfl) (by kernel_rfl) (by kernel_rfl) (fun _ _ _ h => h) (Or.inl ⟨by rfl, ?_⟩) (by assumption) ?_
        rotate_left
        · (intro w hSw; (try dsimp only at hSw); go_simp; try (with_reducible rfl))
        try simp only [Act.put, List.setIfInBounds_toArray, List.set_cons_zero, List.set_cons_succ, List.getElem_toArray, List.getElem_cons_zero, List.getElem_cons_succ]
        refine wpAnyH_take (i := 6) (v := ?_) rfl (by kernel_rfl) (by kernel_rfl) (by kernel_rfl) (fun _ _ _ h => h) (Or.inl ⟨by rfl, ?_⟩) (by assumption) ?_
        rotate_left
        · (intro w hSw; (try dsimp only at hSw); go_simp; try (with_reducible rfl))
        try simp only [Act.put, List.setIfInBounds_toArray, List.set_cons_zero, List.set_cons_succ, List.getElem_toArray, List.getElem_cons_zero, List.getElem_cons_succ]
        refine wpAnyH_take (i := 7) (v := ?_) rfl (by kernel_rfl) (by kernel_rfl) (by kernel_rfl) (fun _ _ _ h => h) (Or.inl ⟨by rfl, ?_⟩) (by assumption) ?_
        rotate_left
        · (intro w hSw; (try dsimp only at hSw); go_simp; try (with_reducible rfl))
        try simp only [Act.put, List.setIfInBounds_toArray, List.set_cons_zero, List.set_cons_succ, List.getElem_toArray, List.getElem_cons_zero, List.getElem_cons_succ]
        refine wpAnyH_take (i := 8) (v := ?_) rfl (by kernel_rfl) (by kernel_rfl) (by kernel_rfl) (fun _ _ _ h => h) (Or.inl ⟨by rfl, ?_⟩) (by assumption) ?_
        rotate_left
        · (intro w hSw; (try dsimp only at hSw); go_simp; try (with_reducible rfl))
        try simp only [Act.put, List.setIfInBounds_toArray, List.set_cons_zero, List.set_cons_succ, List.getElem_toArray, List.getElem_cons_zero, List.getElem_cons_succ]
        refine wpAnyH_ready (rs := [9]) (by kernel_rfl) (by simp) ?_
        refine AllReadyH.cons rfl (fun K hK => ?_) AllReadyH.nil
        rw [if_pos (by rfl)]
        refine wp_copy_cells (.tmp 54) (.tmp 56) 22 22 5 rfl (B + 1) q (L - q) (L - q) ⟨Bx, 1, none⟩ 64 64 (bCells xw.2) rfl rfl Try.underlying22 size_u8 (by rw [bCells_len, HX3.out]; exact (Nat.min_eq_left (by omega)).symm) HSRC.out HTH.out (bCells_one _) ?_
        have hout : ∀ p : Addr, p.block ≠ B + 1 → (W.drew.setCells (B + 1) q (bCells xw.2)).cell? p = W.drew.cell? p := fun p hp => World.cell?_setCells_out (B + 1) _ _ _ p (fun e _ => absurd e hp)
        refine hK.out _ _ (⟨(hout _ (by show B + 1 + 1 ≠ B + 1; omega)).trans kT, (hout _ (by show B ≠ B + 1; omega)).trans kA, (hout _ (by show Bx ≠ B + 1; omega)).trans kX⟩) (fun hHeld2 => ?_)
        clear hK K hHeld
        have hHeld := hHeld2
        clear hHeld2
        try simp only [Act.put, List.setIfInBounds_toArray, List.set_cons_zero, List.set_cons_succ, List.getElem_toArray, List.getElem_cons_zero, List.getElem_cons_succ]
        refine wpAnyH_done (by kernel_rfl) ?_ _
        have hc7 := (Chg.drew (fun k => k = B + 1) W).trans (chg_setCells (B + 1) (bCells xw.2) q W.drew)
        refine ⟨((KeepsOthers.drew W).trans (keeps_setCells (B + 1) (bCells xw.2) q W.drew)).from _, KeepB.chg hc7 (fun k hk => ⟨Nat.lt_of_lt_of_le (hkl6 k hk) HCHG.out.size, fun e => ?_⟩), ?_, HCHG.out.trans hc7⟩
        · subst e
          rcases hk with h | h | h | h
          · omega
          · omega
          · omega
          · have := hvw _ h
            omega
        · rw [List.map_append, List.map_cons, List.map_nil, show shW A (List.map (fun x : PwR A (A + N) ws.length => x.1.2) pre ++ [xw]) = shW A (List.map (fun x => x.1.2) pre) ++ [(xw.1 - A, xw.2)] by simp [shW], doneS_snoc, HQ.out]
          exact dur_set (W := W.drew) HDUR.out HS64.out (xw.1 - A) (by rw [HSL.out, ← HN.out]; omega) xw.2 HX3.out
      case done =>
        rintro Dd zs W hD rfl ⟨hdur, hchg⟩ hKd
        have kT : W.cell? ⟨B + 1 + 1, 0, none⟩ = some (.slice (some ⟨B + 1, 0, none⟩) L L) := by rw [cell_in (hchg.box HT6.out (by omega))]; rfl
        have HDUR := Lib.hid hdur
        have HCHG := Lib.hid hchg
        have HKD := Lib.hid hKd
        clear hdur hchg hKd
        gi_wp2
        refine ⟨by simp, .inl ⟨_, _, rfl, run_takeDeferred HKD.out, ?_⟩⟩
        have hDd := HS6.out
        have hc1 : Chg (fun k => k = Dd) W (W.putObj Dd (.deferred none)) := (Chg.grown (grownBy_putObj' _ Dd _)).weaken (fun k _ e => by cases e; rfl)
        have hmap := pendR_map (A := A) (N := A + N) HIN.out
        have hdur := HDUR.out
        rw [hmap] at hdur
        have hbe := HBE.out
        refine ⟨_, results_tmp2 rfl _ _ _, B + 1, rfl, hc1.box hdur (by omega), by rw [hbe]; omega, ?_⟩
        exact hc1.on (HCHG.out.on HB6.out (by rw [hbe, hDd]; omega) (fun k hk => by rw [hk, hbe]; omega)) (by have := HCHG.out.size; rw [hbe]; omega) (fun k hk => by rw [hk, hbe]; omega)
      case stop =>
        rintro Dd cc pre W _ _ h _
        exact h.elim
/-- Read of N sectors from A on, with the power on. -/
theorem read_any (D g : Nat) (S : List Sec) (v : Value) (ws : List Wq) (c : Int) (hl : -9223372036854775808 ≤ c ∧ c ≤ 9223372036854775807) (hcz : c ≠ 0) (hws : ws.length ≤ 1000000) (A N : Nat) (h1S : 1 ≤ N) (hAN : A + N ≤ S.length) (w : World) (H : DiskAt w D g S v ws c) (hDg : D ≠ g) :
    Calls Try.prog 28 #[.pointer (some ⟨D, 0, none⟩), .int .i64 A, .int .i64 (N : Int)] w fun e w' => ∃ R, e = .returned (.tuple #[.slice (some ⟨R, 0, none⟩) (N * 64) (N * 64), .int .i64 0]) ∧ w'.heap[R]? = some (.cells (dCells (partS (doneS S ws) A N)).toArray 5 (0, 0)) ∧ w.heap.size ≤ R ∧ DiskAt w' D g S v ws (less c) ∧ Chg (fun k => k = D) w w' := by
  have h2 := tick_disk H hDg
  refine (read_on D g S v ws c hl hcz hws A N h1S hAN w _ H rfl h2).mono ?_
  rintro e w' ⟨R, rfl, h3, h4, h5⟩
  rw [tick_size] at h4
  rw [partS_some A N ws S hAN] at h3
  exact ⟨R, rfl, h3, h4, h2.on h5, (tick_chg w D c).trans (Chg.below h5 _)⟩
end Go.Proofs.Ytgcifhhbhoafcaa
