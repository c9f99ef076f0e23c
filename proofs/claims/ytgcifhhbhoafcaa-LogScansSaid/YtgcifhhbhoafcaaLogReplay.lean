/-
  The entries of a region.
-/
import Derived.Test.YtgcifhhbhoafcaaLogAppend
namespace Go.Proofs.Ytgcifhhbhoafcaa
open Go.RowKit Go.Shelf

theorem readrec_any (R o : Nat) (Bs : List Sec) (L : Nat) (hL : L = Bs.length * 64) (hSl : Bs.length ≤ 15000) (h64 : ∀ s ∈ Bs, s.length = 64) (stamp : Nat) (w : World) (hr : w.rangeAt R o (dCells Bs)) :
    Calls Try.prog 51 #[.slice (some ⟨R, o, none⟩) L L, .int .i64 stamp] w fun e w' => ReadR w Bs stamp e w' := by
  cases Bs with
  | nil =>
    subst hL
    exact read_nil R o stamp w
  | cons h rest => exact read_more R o h rest L hL (by simp at hSl; omega) (h64 h List.mem_cons_self) (fun s hs => h64 s (List.mem_cons_of_mem _ hs)) stamp w hr

/-- An entry: its stamp, where its body lies, its body. -/
structure Ent where
  st : Nat
  p : Option Addr
  cp : Nat
  body : List UInt8
def eCell (x : Ent) : List Value := [.int .i64 x.st, .slice x.p x.body.length x.cp]
def eCells (E : List Ent) : List Value := (E.map eCell).flatten
theorem eCells_snoc (E : List Ent) (x : Ent) : eCells (E ++ [x]) = eCells E ++ eCell x := by simp [eCells]
/-- An entry whose body is new memory. -/
def EntNew (w : World) (lo : Nat) (x : Ent) : Prop := ∃ g, x.p = some ⟨g, 0, none⟩ ∧ lo ≤ g ∧ x.cp = x.body.length ∧ w.heap[g]? = some (.cells (bCells x.body).toArray 5 (0, 0))
/-- The sectors that records take up. -/
def usedS (bs : List (List UInt8)) : Nat := (bs.map fun b => secs b.length).sum
theorem usedS_snoc (bs : List (List UInt8)) (b : List UInt8) : usedS (bs ++ [b]) = usedS bs + secs b.length := by simp [usedS]
theorem secs_pos (n : Nat) : 1 ≤ secs n := by unfold secs; omega
/-- Stamps one behind the other. -/
def Stamps (after : Nat) (E : List Ent) : Prop := ∀ (i : Nat) (h : i < E.length), (E[i]).st = after + 1 + i
theorem Stamps.snoc {after : Nat} {E : List Ent} (H : Stamps after E) (x : Ent) (hx : x.st = after + 1 + E.length) : Stamps after (E ++ [x]) := fun i h => by
  by_cases h1 : i < E.length
  · rw [List.getElem_append_left h1]
    exact H i h1
  · have e : i = E.length := by simp at h; omega
    subst e
    rw [List.getElem_append_right (Nat.le_refl _)]
    simpa using hx
structure RInv (w : World) (lo P D f N : Nat) (Bs : List Sec) (after : Nat) (wr : World) (v : Value) (E : List Ent) : Prop where
  row : wr.ownsRow lo 48 2 v E.length (eCells E)
  ents : ∀ x ∈ E, EntNew wr lo x
  log : LogAt wr P D f N (usedS (E.map (·.body))) (after + E.length) false
  few : E.length ≤ usedS (E.map (·.body)) ∧ usedS (E.map (·.body)) ≤ N
  st : Stamps after E
  more : ∃ fuel, N - usedS (E.map (·.body)) < fuel ∧ scan (N + 1) Bs after = E.map (·.body) ++ scan fuel (Bs.drop (usedS (E.map (·.body)))) (after + E.length)
  chg : Chg (fun k => k = P) w wr
theorem EntNew.chg {ex : Nat → Prop} {w w' : World} {lo : Nat} {x : Ent} (H : EntNew w lo x) (hc : Chg ex w w') (hn : ∀ (g : Nat) (c : Array Value), w.heap[g]? = some (.cells c 5 (0, 0)) → lo ≤ g → ¬ ex g) : EntNew w' lo x := by
  obtain ⟨g, h1, h2, h3, h4⟩ := H
  exact ⟨g, h1, h2, h3, hc.box h4 (hn g _ h4 h2)⟩
theorem RInv.below {w : World} {lo P D f N : Nat} {Bs : List Sec} {after : Nat} {wr w' : World} {v : Value} {E : List Ent} (H : RInv w lo P D f N Bs after wr v E) (hb : Below wr.heap.size wr w') : RInv w lo P D f N Bs after w' v E :=
  ⟨(Chg.below hb (fun _ => False)).own H.row (fun _ _ e => e), fun x hx => (H.ents x hx).chg (Chg.below hb (fun _ => False)) (fun _ _ _ _ e => e), H.log.chg (Chg.below hb (fun _ => False)) (fun e => e), H.few, H.st, H.more, H.chg.trans (Chg.below hb _)⟩
theorem RInv.step {w : World} {lo P D f N : Nat} {Bs : List Sec} {after : Nat} {wr w3 w4 w5 : World} {v v' : Value} {E : List Ent} {body : List UInt8} {gb : Nat} {o : Obj} (H : RInv w lo P D f N Bs after wr v E) (hlo : lo = w.heap.size) (hP : P < lo) (h64 : ∀ s ∈ Bs, s.length = 64) (hBl : Bs.length = N)
    (hb : Below wr.heap.size wr w3) (hg : w3.heap[gb]? = some (.cells (bCells body).toArray 5 (0, 0))) (hgl : wr.heap.size ≤ gb) (hc : Chg (fun k => k = P) w3 w4) (hl : LogAt w4 P D f N (usedS (E.map (·.body)) + secs body.length) (after + E.length + 1) false)
    (hgr : (w4.alloc o).grownBy w5 v.ownBlock) (hrow : w5.ownsRow lo 48 2 v' (E.length + 1) (eCells E ++ eCell ⟨after + E.length + 1, some ⟨gb, 0, none⟩, body.length, body⟩)) (hrec : rdRec (Bs.drop (usedS (E.map (·.body)))) (after + E.length + 1) = some body) (hmax : after + E.length < 1152921504606846975) :
    RInv w lo P D f N Bs after w5 v' (E ++ [⟨after + E.length + 1, some ⟨gb, 0, none⟩, body.length, body⟩]) := by
  have hlw := H.chg.size
  have hsz := hb.size
  have hPl := H.log.lt
  have c1 : Chg (fun k => k = P) wr w4 := (Chg.below hb _).trans hc
  have c2 : Chg (fun k => k = P) wr (w4.alloc o) := c1.trans (Chg.alloc _ w4 o)
  have c3 : Chg (fun k => k = P ∨ v.ownBlock = some k) wr w5 := (c2.weaken (fun k _ e => .inl e)).trans2 (Chg.grown hgr) (fun k _ e => .inr e.symm)
  have hown : ∀ k, v.ownBlock = some k → lo ≤ k ∧ k < wr.heap.size := fun k hk => H.row.lt k hk
  have hmap : (E ++ [(⟨after + E.length + 1, some ⟨gb, 0, none⟩, body.length, body⟩ : Ent)]).map (·.body) = E.map (·.body) ++ [body] := by simp
  obtain ⟨_, rest, hrest⟩ := rdRec_some (fun s hs => h64 s (List.mem_of_mem_drop hs)) hrec
  have hfit : usedS (E.map (·.body)) + secs body.length ≤ N := by
    have h1 := congrArg List.length hrest
    rw [List.length_drop, hBl, List.length_cons, List.length_append, packed_len] at h1
    have := H.few.2
    unfold secs
    omega
  have hsp := secs_pos body.length
  refine ⟨?_, ?_, ?_, ?_, H.st.snoc _ (by show after + E.length + 1 = _; omega), ?_, ?_⟩
  · rw [eCells_snoc, List.length_append]
    exact hrow
  · intro x hx
    rcases List.mem_append.1 hx with h | h
    · refine (H.ents x h).chg c3 (fun g c hgc hgl2 => ?_)
      rintro (e | e)
      · omega
      · exact own_ne H.row hgc (by decide) e
    · rw [List.mem_singleton] at h
      subst h
      refine ⟨gb, rfl, by omega, rfl, ?_⟩
      have h4 := hc.box hg (by omega)
      have h5 := (Chg.alloc (fun _ => False) w4 o).box h4 (fun e => e)
      refine (Chg.grown hgr).box h5 (fun e => ?_)
      have := (hown gb e.symm).2
      omega
  · rw [hmap, usedS_snoc, List.length_append, List.length_cons, List.length_nil, ← Nat.add_assoc]
    refine (hl.chg (Chg.alloc (fun _ => False) w4 o) (fun e => e)).chg (Chg.grown hgr) (fun e => ?_)
    have := (hown P e.symm).1
    omega
  · rw [hmap, usedS_snoc, List.length_append, List.length_cons, List.length_nil]
    have := H.few.1
    omega
  · obtain ⟨fuel, hf1, hf2⟩ := H.more
    have hfew := H.few
    cases fuel with
    | zero => omega
    | succ fuel =>
      refine ⟨fuel, by rw [hmap, usedS_snoc]; omega, ?_⟩
      rw [hf2, hmap, usedS_snoc, List.length_append, List.length_cons, List.length_nil, scan, if_pos hmax, hrec]
      show _ ++ (body :: scan fuel ((Bs.drop (usedS (E.map (·.body)))).drop (secs body.length)) (after + E.length + 1)) = _
      rw [List.drop_drop, List.append_assoc]
      rfl
  · exact H.chg.trans2 c3 (fun k hk e => by
      rcases e with e | e
      · exact e
      · have := (hown k e).1
        omega)
def lenOf : Value → Nat
  | .slice _ n _ => n
  | _ => 0
theorem info_ent : (Try.prog.info? 48).map (fun i => (i.zero, i.size, i.bytes)) = some (some (.agg #[.int .i64 0, .slice none 0 0]), 2, 32) := by kernel_rfl

set_option maxRecDepth 20000 in
set_option maxHeartbeats 4000000 in
theorem replay_any (P D f N after R : Nat) (Bs : List Sec) (h64 : ∀ s ∈ Bs, s.length = 64) (hBl : Bs.length = N) (hN : N ≤ 15000) (ha : after ≤ 1152921504606846975) (w : World) (HL : LogAt w P D f N 0 after false) (hR : w.heap[R]? = some (.cells (dCells Bs).toArray 5 (0, 0))) (hPR : P ≠ R) :
    Calls Try.prog 36 #[.pointer (some ⟨P, 0, none⟩), .slice (some ⟨R, 0, none⟩) (N * 64) (N * 64)] w fun e w' => ∃ v E, e = .returned v ∧ RInv w w.heap.size P D f N Bs after w' v E ∧ E.map (·.body) = scan (N + 1) Bs after := by
  obtain ⟨L, hL⟩ : ∃ L, L = N * 64 := ⟨_, rfl⟩
  have HLN := Lib.hid hL
  rw [← hL]
  have hLb : L ≤ 1000000 := by omega
  have HR := Lib.hid hR
  have hPl : P < w.heap.size := HL.lt
  have hRl : R < w.heap.size := (Array.getElem?_eq_some_iff.1 hR).1
  have H0 := Lib.hid (show RInv w w.heap.size P D f N Bs after w (.slice none 0 0) [] from ⟨World.ownsRow_nil _ _ _ _, fun x hx => by simp at hx, HL, ⟨Nat.zero_le _, Nat.zero_le _⟩, fun i h => by simp at h, ⟨N + 1, by simp [usedS], by simp [usedS]⟩, Chg.refl _ _⟩)
  obtain ⟨i0, hi, hz0, hz1, hz2⟩ := info_parts info_ent
  clear hL hR HL
  go_enter Try.func36, Try.ntmps36
  go_wp2
  go_loopw [5] (fun s5 wr => ∃ E pv cv j, s5 = .slice pv j cv ∧ Hid (j = E.length) ∧ Hid (RInv w w.heap.size P D f N Bs after wr (.slice pv j cv) E)) (fun s5 _ => N - lenOf s5)
  case atStart => exact ⟨[], none, 0, 0, rfl, Lib.hid rfl, H0⟩
  case round =>
    obtain ⟨E, pv, cv, j, rfl, HJ, HI⟩ := hrel
    clear H0
    obtain ⟨u, hu⟩ : ∃ u, u = usedS (E.map (·.body)) := ⟨_, rfl⟩
    obtain ⟨l, hl⟩ : ∃ l, l = after + E.length := ⟨_, rfl⟩
    have hj := HJ.out
    have hlog := HI.out.log
    have hfew := HI.out.few
    rw [← hu, ← hl] at hlog
    rw [← hu, ← hj] at hfew
    obtain ⟨k0, k1, k2, k3, k4, k5⟩ := hlog.cells
    have hlb : l ≤ 1152921504606846975 + 15000 := by omega
    have HLG := Lib.hid hlog
    have HU := Lib.hid hu
    have HLE := Lib.hid hl
    clear hlog hu hl hj
    by_cases hmax : l < 1152921504606846975
    · have d1 : decide ((l : Int) < 1152921504606846975) = true := decide_eq_true (by omega)
      have d1' : decide (l < 1152921504606846975) = true := decide_eq_true hmax
      obtain ⟨q, hq⟩ : ∃ q, q = u * 64 := ⟨_, rfl⟩
      have hqL : q ≤ L := by have := HLN.out; omega
      have hqI : IntKind.i64.wrap ((u : Int) * 64) = (q : Int) := by rw [IntKind.wrap_i64]; omega
      have i1 : (0 : Int) ≤ (q : Int) := by omega
      have i2 : (q : Int) ≤ (L : Int) := by omega
      have hwl : IntKind.i64.wrap ((l : Int) + 1) = (l : Int) + 1 := by rw [IntKind.wrap_i64]; omega
      obtain ⟨ra, hra⟩ : ∃ ra, (if L = q then (some ⟨R, 0, none⟩ : Option Addr) else some ⟨R, q, none⟩) = some ⟨R, ra, none⟩ := by
        by_cases h : L = q
        · exact ⟨0, if_pos h⟩
        · exact ⟨q, if_neg h⟩
      have hrd : ∀ W, Below wr.heap.size wr W → Calls Try.prog 51 #[.slice (some ⟨R, ra, none⟩) (L - q) (L - q), .int .i64 ((l : Int) + 1)] W fun e w' => ReadR W (Bs.drop u) (l + 1) e w' := fun W hW => by
        have hRW : W.heap[R]? = some (.cells (dCells Bs).toArray 5 (0, 0)) := (Chg.below hW (fun _ => False)).box (HI.out.chg.box HR.out (fun e => hPR e.symm)) (fun e => e)
        refine readrec_any R ra (Bs.drop u) (L - q) ?_ ?_ (fun s hs => h64 s (List.mem_of_mem_drop hs)) (l + 1) W ?_
        · rw [List.length_drop, HLN.out, hBl]
          omega
        · rw [List.length_drop]
          omega
        · by_cases h : L = q
          · have : Bs.drop u = [] := List.drop_eq_nil_of_le (by have := HLN.out; omega)
            rw [this]
            exact fun j u hj => by simp [dCells] at hj
          · rw [if_neg h] at hra
            simp only [Option.some.injEq, Addr.mk.injEq, true_and, and_true] at hra
            rw [← hra]
            intro k x hk
            rw [cell_in hRW, List.getElem?_toArray]
            have e : dCells Bs = dCells (Bs.take u) ++ dCells (Bs.drop u) := by rw [← dCells_app, List.take_append_drop]
            have e2 : (dCells (Bs.take u)).length = q := by rw [dCells_len (fun s hs => h64 s (List.mem_of_mem_take hs)), List.length_take, hBl, Nat.min_eq_left (by omega), hq]
            rw [e, List.getElem?_append_right (by omega), e2, Nat.add_sub_cancel_left]
            exact hk
      have HRD := Lib.hid hrd
      have kk3 : ∀ W, Below wr.heap.size wr W → W.cell? ⟨P, 3, none⟩ = some (.int .i64 u) := fun W hW => (HLG.out.chg (Chg.below hW (fun _ => False)) (fun e => e)).cells.2.2.2.1
      have kk4 : ∀ W, Below wr.heap.size wr W → W.cell? ⟨P, 4, none⟩ = some (.int .i64 l) := fun W hW => (HLG.out.chg (Chg.below hW (fun _ => False)) (fun e => e)).cells.2.2.2.2.1
      have HK3 := Lib.hid kk3
      have HK4 := Lib.hid kk4
      clear hrd kk3 kk4 hq
      go_wp2
      refine wp_region_noPanic ?_
      refine wp_region_held_drew (S := fun X => Below wr.heap.size wr X ∧ X.cell? ⟨P, 3, none⟩ = some (.int .i64 u) ∧ X.cell? ⟨P, 4, none⟩ = some (.int .i64 l)) (by kernel_rfl) (⟨bD (Below.refl _ _), HK3.out _ (bD (Below.refl _ _)), HK4.out _ (bD (Below.refl _ _))⟩) (fun hHeld => ?_)
      refine wpAnyH_take (i := 0) (v := ?_) rfl (by kernel_rfl) (by kernel_rfl) (by kernel_rfl) (fun _ _ _ h => h) (Or.inl ⟨by rfl, ?_⟩) (by assumption) ?_
      rotate_left
      · (intro w hSw; (try dsimp only at hSw); go_simp; try (with_reducible rfl))
      try simp only [Act.put, List.setIfInBounds_toArray, List.set_cons_zero, List.set_cons_succ, List.getElem_toArray, List.getElem_cons_zero]
      refine wpAnyH_take (i := 1) (v := ?_) rfl (by kernel_rfl) (by kernel_rfl) (by kernel_rfl) (fun _ _ _ h => h) (Or.inl ⟨by rfl, ?_⟩) (by assumption) ?_
      rotate_left
      · (intro w hSw; (try dsimp only at hSw); go_simp; try (with_reducible rfl))
      try simp only [Act.put, List.setIfInBounds_toArray, List.set_cons_zero, List.set_cons_succ, List.getElem_toArray, List.getElem_cons_zero, List.getElem_cons_succ]
      refine wpAnyH_take (i := 2) (v := ?_) rfl (by kernel_rfl) (by kernel_rfl) (by kernel_rfl) (fun _ _ _ h => h) (Or.inl ⟨by rfl, ?_⟩) (by assumption) ?_
      rotate_left
      · (intro w hSw; (try dsimp only at hSw); go_simp; try (with_reducible rfl))
      try simp only [Act.put, List.setIfInBounds_toArray, List.set_cons_zero, List.set_cons_succ, List.getElem_toArray, List.getElem_cons_zero, List.getElem_cons_succ]
      refine wpAnyH_take (i := 3) (v := ?_) rfl (by kernel_rfl) (by kernel_rfl) (by kernel_rfl) (fun _ _ _ h => h) (Or.inl ⟨by rfl, ?_⟩) (by assumption) ?_
      rotate_left
      · (intro w hSw; (try dsimp only at hSw); go_simp; try (with_reducible rfl))
      try simp only [Act.put, List.setIfInBounds_toArray, List.set_cons_zero, List.set_cons_succ, List.getElem_toArray, List.getElem_cons_zero, List.getElem_cons_succ]
      refine wpAnyH_take (i := 4) (v := ?_) rfl (by kernel_rfl) (by kernel_rfl) (by kernel_rfl) (fun _ _ _ h => h) (Or.inl ⟨by rfl, ?_⟩) (by assumption) ?_
      rotate_left
      · (intro w hSw; (try dsimp only at hSw); go_simp; try (with_reducible rfl))
      try simp only [Act.put, List.setIfInBounds_toArray, List.set_cons_zero, List.set_cons_succ, List.getElem_toArray, List.getElem_cons_zero, List.getElem_cons_succ]
      refine wpAnyH_take (i := 5) (v := ?_) rfl (by kernel_rfl) (by kernel_rfl) (by kernel_rfl) (fun _ _ _ h => h) (Or.inl ⟨by rfl, ?_⟩) (by assumption) ?_
      rotate_left
      · (intro w hSw; (try dsimp only at hSw); go_simp; try (with_reducible rfl))
      try simp only [Act.put, List.setIfInBounds_toArray, List.set_cons_zero, List.set_cons_succ, List.getElem_toArray, List.getElem_cons_zero, List.getElem_cons_succ]
      refine wpAnyH_take (i := 6) (v := ?_) rfl (by kernel_rfl) (by kernel_rfl) (by kernel_rfl) (fun _ _ _ h => h) (Or.inl ⟨by rfl, ?_⟩) (by assumption) ?_
      rotate_left
      · (intro w hSw; (try dsimp only at hSw); go_simp; try (with_reducible rfl))
      try simp only [Act.put, List.setIfInBounds_toArray, List.set_cons_zero, List.set_cons_succ, List.getElem_toArray, List.getElem_cons_zero, List.getElem_cons_succ]
      refine wpAnyH_take (i := 7) (v := ?_) rfl (by kernel_rfl) (by kernel_rfl) (by kernel_rfl) (fun _ _ _ h => h) (Or.inl ⟨by rfl, ?_⟩) (by assumption) ?_
      rotate_left
      · (intro w hSw; (try dsimp only at hSw); go_simp; try (with_reducible rfl))
      try simp only [Act.put, List.setIfInBounds_toArray, List.set_cons_zero, List.set_cons_succ, List.getElem_toArray, List.getElem_cons_zero, List.getElem_cons_succ]
      refine wpAnyH_take (i := 8) (v := ?_) rfl (by kernel_rfl) (by kernel_rfl) (by kernel_rfl) (fun _ _ _ h => h) (Or.inl ⟨by rfl, ?_⟩) (by assumption) ?_
      rotate_left
      · (intro w hSw; (try dsimp only at hSw); go_simp; try (with_reducible rfl))
      try simp only [Act.put, List.setIfInBounds_toArray, List.set_cons_zero, List.set_cons_succ, List.getElem_toArray, List.getElem_cons_zero, List.getElem_cons_succ]
      refine wpAnyH_take (i := 9) (v := ?_) rfl (by kernel_rfl) (by kernel_rfl) (by kernel_rfl) (fun _ _ _ h => h) (Or.inl ⟨by rfl, ?_⟩) (by assumption) ?_
      rotate_left
      · (intro w hSw; (try dsimp only at hSw); go_simp; try (with_reducible rfl))
      try simp only [Act.put, List.setIfInBounds_toArray, List.set_cons_zero, List.set_cons_succ, List.getElem_toArray, List.getElem_cons_zero, List.getElem_cons_succ]
      refine wpAnyH_take (i := 10) (v := ?_) rfl (by kernel_rfl) (by kernel_rfl) (by kernel_rfl) (fun _ _ _ h => h) (Or.inl ⟨by rfl, ?_⟩) (by assumption) ?_
      rotate_left
      · (intro w hSw; (try dsimp only at hSw); go_simp; try (with_reducible rfl))
      try simp only [Act.put, List.setIfInBounds_toArray, List.set_cons_zero, List.set_cons_succ, List.getElem_toArray, List.getElem_cons_zero, List.getElem_cons_succ]
      refine wpAnyH_take (i := 11) (v := ?_) rfl (by kernel_rfl) (by kernel_rfl) (by kernel_rfl) (fun _ _ _ h => h) (Or.inl ⟨by rfl, ?_⟩) (by assumption) ?_
      rotate_left
      · (intro w hSw; (try dsimp only at hSw); go_simp; try (with_reducible rfl))
      try simp only [Act.put, List.setIfInBounds_toArray, List.set_cons_zero, List.set_cons_succ, List.getElem_toArray, List.getElem_cons_zero, List.getElem_cons_succ]
      refine wpAnyH_ready (rs := [12]) (by kernel_rfl) (by simp) ?_
      refine AllReadyH.cons rfl (fun K hK => ?_) AllReadyH.nil
      go_simp
      go_at_call 51
      refine (HRD.out _ (bD (Below.refl _ _))).mono ?_
      rintro e2 w3 ⟨v3, ok, rfl, hb3', hres⟩
      have hb3 : Below wr.heap.size wr w3 := (bD (Below.refl _ _)).trans hb3'
      refine hK.out _ _ (⟨hb3, HK3.out _ hb3, HK4.out _ hb3⟩) (fun hHeld2 => ?_)
      clear hK K hHeld
      have hHeld := hHeld2
      clear hHeld2
      try simp only [Act.put, List.setIfInBounds_toArray, List.set_cons_zero, List.set_cons_succ, List.getElem_toArray, List.getElem_cons_zero, List.getElem_cons_succ]
      refine wpAnyH_take (i := 13) (v := ?_) rfl (by kernel_rfl) (by kernel_rfl) (by kernel_rfl) (fun _ _ _ h => h) (Or.inl ⟨by rfl, ?_⟩) (by assumption) ?_
      rotate_left
      · (intro w hSw; (try dsimp only at hSw); go_simp; try (with_reducible rfl))
      try simp only [Act.put, List.setIfInBounds_toArray, List.set_cons_zero, List.set_cons_succ, List.getElem_toArray, List.getElem_cons_zero, List.getElem_cons_succ]
      refine wpAnyH_take (i := 14) (v := ?_) rfl (by kernel_rfl) (by kernel_rfl) (by kernel_rfl) (fun _ _ _ h => h) (Or.inl ⟨by rfl, ?_⟩) (by assumption) ?_
      rotate_left
      · (intro w hSw; (try dsimp only at hSw); go_simp; try (with_reducible rfl))
      try simp only [Act.put, List.setIfInBounds_toArray, List.set_cons_zero, List.set_cons_succ, List.getElem_toArray, List.getElem_cons_zero, List.getElem_cons_succ]
      refine wpAnyH_take (i := 15) (v := ?_) rfl (by kernel_rfl) (by kernel_rfl) (by kernel_rfl) (fun _ _ _ h => h) (Or.inl ⟨by rfl, ?_⟩) (by assumption) ?_
      rotate_left
      · (intro w hSw; (try dsimp only at hSw); go_simp; try (with_reducible rfl))
      try simp only [Act.put, List.setIfInBounds_toArray, List.set_cons_zero, List.set_cons_succ, List.getElem_toArray, List.getElem_cons_zero, List.getElem_cons_succ]
      refine wpAnyH_take (i := 16) (v := ?_) rfl (by kernel_rfl) (by kernel_rfl) (by kernel_rfl) (fun _ _ _ h => h) (Or.inl ⟨by rfl, ?_⟩) (by assumption) ?_
      rotate_left
      · (intro w hSw; (try dsimp only at hSw); go_simp; try (with_reducible rfl))
      try simp only [Act.put, List.setIfInBounds_toArray, List.set_cons_zero, List.set_cons_succ, List.getElem_toArray, List.getElem_cons_zero, List.getElem_cons_succ]
      refine wpAnyH_take (i := 17) (v := ?_) rfl (by kernel_rfl) (by kernel_rfl) (by kernel_rfl) (fun _ _ _ h => h) (Or.inl ⟨by rfl, ?_⟩) (by assumption) ?_
      rotate_left
      · (intro w hSw; (try dsimp only at hSw); go_simp; try (with_reducible rfl))
      try simp only [Act.put, List.setIfInBounds_toArray, List.set_cons_zero, List.set_cons_succ, List.getElem_toArray, List.getElem_cons_zero, List.getElem_cons_succ]
      refine wpAnyH_done (by kernel_rfl) ?_ _
      refine NoPanic.normal ?_
      clear hHeld
      have hbd3 := hb3
      rcases hdr : rdRec (Bs.drop u) (l + 1) with _ | body
      · rw [hdr] at hres
        subst hres
        have hsc : scan (N + 1) Bs after = E.map (·.body) := by
          obtain ⟨fuel, hf1, hf2⟩ := HI.out.more
          rw [← HU.out, ← HLE.out] at hf2
          rw [hf2]
          cases fuel with
          | zero => simp [scan]
          | succ fuel => simp [scan, hdr]
        have HSC := Lib.hid hsc
        have HB3 := Lib.hid hb3
        clear hsc hb3 hdr hbd3
        go_wp2
        go_ret
        exact ⟨_, E, rfl, HI.out.below HB3.out, HSC.out.symm⟩
      · rw [hdr] at hres
        obtain ⟨rfl, gb, rfl, hgb, hgl⟩ := hres
        obtain ⟨bl, hbl⟩ : ∃ bl, bl = body.length := ⟨_, rfl⟩
        have hbm := (rdRec_some (fun s hs => h64 s (List.mem_of_mem_drop hs)) hdr).1
        have hadv := advance_any P D f N u l false body.length (by omega) (by omega) (by omega) w3 (HLG.out.chg (Chg.below hb3 (fun _ => False)) (fun e => e))
        rw [← hbl] at hadv ⊢
        have HBL := Lib.hid hbl
        have HG := Lib.hid (show _ ∧ _ ∧ _ from ⟨hgb, hgl, hb3⟩)
        have HDR := Lib.hid hdr
        clear hbl hgb hgl hb3 hb3' hbd3 hbm hdr
        go_wp2_with fail
        refine hadv.mono ?_
        rintro e4 w4 ⟨rfl, hL4, hc4⟩
        have kk4' := hL4.cells.2.2.2.2.1
        rw [Int.natCast_add, Int.natCast_one] at kk4'
        have HX := Lib.hid (show _ ∧ _ from ⟨hL4, hc4⟩)
        have hj63 : j ≤ 15000 := by omega
        obtain ⟨x4, hx4⟩ : ∃ x4 : Obj, x4 = .cells #[.int .i64 ((l : Int) + 1), .slice (some ⟨gb, 0, none⟩) bl bl] 48 := ⟨_, rfl⟩
        have hown4 : (w4.alloc x4).ownsRow w.heap.size 48 2 (.slice pv j cv) j (eCells E) := by
          have h0 := HI.out.row
          rw [← HJ.out] at h0
          have h1 := (Chg.below HG.out.2.2 (fun _ => False)).own h0 (fun _ _ e => e)
          have h2 := hc4.own h1 (fun k hk e => by have := (h0.lt k hk).1; omega)
          exact (Chg.alloc (fun _ => False) w4 x4).own h2 (fun _ _ e => e)
        rw [hx4] at hown4
        have HROW := Lib.hid hown4
        have hbase : w.heap.size ≤ w4.heap.size := by
          have := HI.out.chg.size
          have := HG.out.2.2.size
          have := hc4.size
          omega
        clear hL4 hc4 hown4 hadv
        go_wp2_with (at_builtin; refine wpList_append_lies _ rfl (.tmp 35) (.tmp 42) 35 rfl w.heap.size 48 i0 (.agg #[.int .i64 0, .slice none 0 0]) 2 32 Try.underlying35 hi hz0 hz1 hz2 rfl (by decide) _ j _ rfl HROW.out ⟨w4.heap.size, 0, none⟩ 1 1 [.int .i64 ((l : Int) + 1), .slice (some ⟨gb, 0, none⟩) bl bl] rfl rfl ?c1 (by simp; exact ⟨rfl, rfl⟩) (by decide) (by unfold maxLen; omega) (by omega) (by simp; omega) _ rfl ?_)
        case c1 =>
          intro k u hk
          have hnew := heap_new w4 (.cells #[.int .i64 ((l : Int) + 1), .slice (some ⟨gb, 0, none⟩) bl bl] 48)
          rw [Addr.add_mid, Nat.zero_add, cell_in hnew, ← hk]
          match k with
          | 0 => rfl
          | 1 => rfl
          | k + 2 => rfl
        intro g cap' w5 hown hgrow hgs hgl
        have hstep := HI.out.step (v' := .slice (some ⟨g, 0, none⟩) (j + 1) cap') rfl hPl h64 hBl HG.out.2.2 HG.out.1 HG.out.2.1 HX.out.2 (by
          have h := HX.out.1
          rw [HU.out, HLE.out, HBL.out] at h
          exact h) hgrow (by
          rw [HBL.out, HLE.out, HJ.out] at hown
          rw [HJ.out]
          exact hown) (by
          have h := HDR.out
          rw [HU.out, HLE.out] at h
          exact h) (by rw [← HLE.out]; exact hmax)
        have HST := Lib.hid hstep
        have HJL := Lib.hid (show E.length = j from HJ.out.symm)
        clear hown hgrow hstep hgs hgl
        go_wp2
        go_roundw
        case rel => exact ⟨_, some ⟨g, 0, none⟩, cap', j + 1, rfl, Lib.hid (by rw [List.length_append, HJL.out]; rfl), HST⟩
        case measure =>
          have := HST.out.few
          rw [List.length_append, HJL.out] at this
          simp at this
          simp [lenOf]
          omega
    · have d1 : decide ((l : Int) < 1152921504606846975) = false := decide_eq_false (by omega)
      have d1' : decide (l < 1152921504606846975) = false := decide_eq_false hmax
      have hsc : scan (N + 1) Bs after = E.map (·.body) := by
        obtain ⟨fuel, hf1, hf2⟩ := HI.out.more
        rw [← HU.out, ← HLE.out] at hf2
        rw [hf2]
        cases fuel with
        | zero => simp [scan]
        | succ fuel => simp [scan, hmax]
      have HSC := Lib.hid hsc
      clear hsc
      go_wp2
      go_ret
      exact ⟨_, E, rfl, HI.out, HSC.out.symm⟩
end Go.Proofs.Ytgcifhhbhoafcaa
