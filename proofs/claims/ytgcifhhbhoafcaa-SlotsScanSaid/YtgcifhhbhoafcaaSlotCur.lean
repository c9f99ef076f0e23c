/-
  The current checkpoint of a region.
-/
import Derived.Test.YtgcifhhbhoafcaaSlotRead
namespace Go.Proofs.Ytgcifhhbhoafcaa
open Go.RowKit Go.Shelf
attribute [local go_sem] Oper.semAt_some

/-- A checkpoint, or none, as a value. -/
def encB (b : Option Ck) (q : Option Addr) (cap : Nat) : Array Value := #[.int .i64 (genOf b : Nat), .int .i64 (stOf b : Nat), .slice q (bodyOf b).length cap]
/-- Its body in memory. -/
def Held (lo : Nat) (W : World) (b : Option Ck) (q : Option Addr) (cap : Nat) : Prop := (b = none → q = none ∧ cap = 0) ∧ (∀ c, b = some c → NewAt lo W q cap c.body)
theorem Held.none (lo : Nat) (W : World) : Held lo W Option.none Option.none 0 := ⟨fun _ => ⟨rfl, rfl⟩, fun c h => by cases h⟩
theorem Held.on {lo : Nat} {W W' : World} {b : Option Ck} {q : Option Addr} {cap : Nat} (H : Held lo W b q cap) (hb : Below W.heap.size W W') : Held lo W' b q cap := ⟨H.1, fun c h => (H.2 c h).on hb⟩
theorem NewAt.low {lo lo' : Nat} {w : World} {q : Option Addr} {cap : Nat} {l : List UInt8} (H : NewAt lo w q cap l) (h : lo' ≤ lo) : NewAt lo' w q cap l := by
  obtain ⟨h1, ⟨b, hq, hlo, hh⟩, h2⟩ := H
  exact ⟨h1, ⟨b, hq, by omega, hh⟩, h2⟩
theorem Held.low {lo lo' : Nat} {W : World} {b : Option Ck} {q : Option Addr} {cap : Nat} (H : Held lo W b q cap) (h : lo' ≤ lo) : Held lo' W b q cap := ⟨H.1, fun c hc => (H.2 c hc).low h⟩
/-- A block of another type is written. -/
theorem NewAt.apart {lo k : Nat} {w w' : World} {q : Option Addr} {cap : Nat} {l : List UInt8} {cs : Array Value} {t : TypeId} {fr : Nat × Nat} (H : NewAt lo w q cap l) (hc : Chg (fun x => x = k) w w') (hk : w.heap[k]? = some (.cells cs t fr)) (ht : t ≠ 5) : NewAt lo w' q cap l := by
  obtain ⟨h1, ⟨b, hqb, hlo, cs', fr', hh⟩, h2⟩ := H
  have hbne : b ≠ k := fun e => by
    rw [e, hk] at hh
    simp only [Option.some.injEq, Obj.cells.injEq] at hh
    exact ht hh.2.1
  exact ⟨h1.chg hc (fun b' o' e' => by rw [hqb] at e'; cases e'; exact hbne), ⟨b, hqb, hlo, cs', fr', hc.box hh hbne⟩, h2⟩
theorem Held.apart {lo k : Nat} {w w' : World} {b : Option Ck} {q : Option Addr} {cap : Nat} {cs : Array Value} {t : TypeId} {fr : Nat × Nat} (H : Held lo w b q cap) (hc : Chg (fun x => x = k) w w') (hk : w.heap[k]? = some (.cells cs t fr)) (ht : t ≠ 5) : Held lo w' b q cap := ⟨H.1, fun c h => (H.2 c h).apart hc hk ht⟩
theorem newer_eq (b c : Option Ck) (hc : ∀ x, c = some x → 1 ≤ x.g) : newer b c = if c.isSome = true ∧ genOf b < genOf c then c else b := by
  cases b with
  | none =>
    cases c with
    | none => rfl
    | some y =>
      have := hc y rfl
      rw [if_pos ⟨rfl, by show 0 < y.g; omega⟩]
      rfl
  | some x =>
    cases c with
    | none => rfl
    | some y =>
      show (if x.g < y.g then some y else some x) = _
      by_cases h : x.g < y.g
      · rw [if_pos h, if_pos ⟨rfl, h⟩]
      · rw [if_neg h, if_neg (fun e => h e.2)]
theorem gen_lt {slot : Nat} {B : List Sec} : genOf (chk slot B) < 9223372036854775808 := by
  cases h : chk slot B with
  | none => show 0 < _; omega
  | some c => exact (chk_pos h).2.1
theorem sread_u (slot R o m : Nat) (B : List Sec) (cap : Nat) (hs : slot < 2) (hm : B.length = m) (hm1 : 1 ≤ m) (hcap : m * 64 ≤ cap) (hc63 : cap ≤ 100000000) (hmb : m ≤ 70000) (h64 : ∀ s ∈ B, s.length = 64) (w : World) (hr : w.rangeAt R o (dCells B)) :
    Calls Try.prog 55 #[.int .i64 slot, .slice (some ⟨R, o, none⟩) (m * 64) cap] w fun e w' => ∃ q cq, e = .returned (.tuple #[.agg (encB (chk slot B) q cq), .bool (chk slot B).isSome]) ∧ Below w.heap.size w w' ∧ Held w.heap.size w' (chk slot B) q cq := by
  cases B with
  | nil => simp at hm; omega
  | cons h rest =>
    have hml : m = rest.length + 1 := by rw [← hm]; rfl
    refine (sread_any slot R o h rest (m * 64) cap hs (by rw [hml]) hcap hc63 (by omega) (h64 h List.mem_cons_self) (fun s hs => h64 s (List.mem_cons_of_mem _ hs)) w hr).mono ?_
    rintro e w' ⟨v, ok, rfl, hb, hx⟩
    cases hc : chk slot (h :: rest) with
    | none =>
      rw [hc] at hx
      obtain ⟨rfl, rfl⟩ := hx
      exact ⟨none, 0, rfl, hb, Held.none _ _⟩
    | some c =>
      rw [hc] at hx
      obtain ⟨rfl, q, cq, rfl, hq⟩ := hx
      refine ⟨q, cq, rfl, hb, ?_, ?_⟩
      · intro h
        cases h
      · intro c' h
        cases h
        exact hq

/-- The checkpoints of the first k slots, the newest of them. -/
def bestK (m : Nat) (S : List Sec) (k : Nat) : Option Ck := if k = 0 then none else if k = 1 then chk 0 (S.take m) else cur m S
theorem best_gen (m : Nat) (S : List Sec) (k : Nat) : genOf (bestK m S k) < 9223372036854775808 := by
  unfold bestK
  split
  · show 0 < _; omega
  · split
    · exact gen_lt
    · unfold cur newer
      cases h0 : chk 0 (S.take m) with
      | none => exact gen_lt
      | some a =>
        cases h1 : chk 1 ((S.drop m).take m) with
        | none => exact (chk_pos h0).2.1
        | some b =>
          dsimp only
          split
          · exact (chk_pos h1).2.1
          · exact (chk_pos h0).2.1
def sl (m : Nat) (S : List Sec) (k : Nat) : List Sec := (S.drop (k * m)).take m
theorem best_next (m : Nat) (S : List Sec) (k : Nat) (hk : k < 2) : bestK m S (k + 1) = if (chk k (sl m S k)).isSome = true ∧ genOf (bestK m S k) < genOf (chk k (sl m S k)) then chk k (sl m S k) else bestK m S k := by
  rw [← newer_eq _ _ (fun x hx => (chk_pos hx).1)]
  match k, hk with
  | 0, _ =>
    unfold bestK sl
    rw [Nat.zero_mul, List.drop_zero]
    rfl
  | 1, _ =>
    unfold bestK sl cur
    rw [Nat.one_mul]
    rfl
theorem dCells_part {w : World} {R : Nat} {S : List Sec} (h64 : ∀ s ∈ S, s.length = 64) (h : w.rangeAt R 0 (dCells S)) (i n : Nat) : w.rangeAt R (i * 64) (dCells ((S.drop i).take n)) := fun j u hj => by
  have hl := (List.getElem?_eq_some_iff.1 hj).1
  have e : dCells S = dCells (S.take i) ++ (dCells ((S.drop i).take n) ++ dCells ((S.drop i).drop n)) := by
    unfold dCells
    rw [← List.flatten_append, ← List.flatten_append, ← List.map_append, ← List.map_append, List.take_append_drop, List.take_append_drop]
  have hi : i ≤ S.length ∨ S.length < i := by omega
  have hlen : (dCells (S.take i)).length = i * 64 := by
    rcases hi with hi | hi
    · rw [dCells_len (fun s hs => h64 s (List.mem_of_mem_take hs)), List.length_take]
      omega
    · rw [List.drop_eq_nil_of_le (by omega)] at hl
      simp [dCells] at hl
  have := h (i * 64 + j) u (by rw [e, List.getElem?_append_right (by omega), hlen, Nat.add_sub_cancel_left, List.getElem?_append_left hl]; exact hj)
  rwa [Nat.zero_add] at this

set_option maxRecDepth 20000 in
set_option maxHeartbeats 4000000 in
theorem scurrent_any (R m : Nat) (S : List Sec) (hSl : S.length = 2 * m) (hm1 : 1 ≤ m) (hmb : m ≤ 65536) (h64 : ∀ s ∈ S, s.length = 64) (w : World) (hr : w.heap[R]? = some (.cells (dCells S).toArray 5 (0, 0))) :
    Calls Try.prog 41 #[.slice (some ⟨R, 0, none⟩) (2 * m * 64) (2 * m * 64)] w fun e w' => ∃ q cq, e = .returned (.tuple #[.agg (encB (cur m S) q cq), .bool (cur m S).isSome]) ∧ Below w.heap.size w w' ∧ Held w.heap.size w' (cur m S) q cq := by
  obtain ⟨L, hL⟩ : ∃ L, L = 2 * m * 64 := ⟨_, rfl⟩
  rw [← hL]
  obtain ⟨cu, hcu⟩ : ∃ cu, cur m S = cu := ⟨_, rfl⟩
  have HCU := Lib.hid (show bestK m S 2 = cu from hcu)
  have HPOS := Lib.hid (show cu.isSome = decide (0 < genOf cu) by
    rw [← hcu]
    cases hcx : cur m S with
    | none => rfl
    | some c =>
      have : 1 ≤ c.g := by
        have h1 := hcx
        unfold cur at h1
        rw [newer_eq _ _ (fun x hx => (chk_pos hx).1)] at h1
        split at h1
        · exact (chk_pos h1).1
        · exact (chk_pos h1).1
      exact (decide_eq_true (show 0 < c.g by omega)).symm)
  rw [hcu]
  clear hcu
  obtain ⟨s, hs⟩ : ∃ s, s = m * 64 := ⟨_, rfl⟩
  have hq1 : (L : Int).tdiv 2 = (s : Int) := by rw [Int.tdiv_eq_ediv_of_nonneg (by omega)]; omega
  have hsL : L = 2 * s := by omega
  have hs1 : 64 ≤ s := by omega
  have hsb : s ≤ 4194304 := by omega
  have HRD := Lib.hid (show ∀ k W, Below w.heap.size w W → W.rangeAt R (k * s) (dCells (sl m S k)) from fun k W hW => by
    have hr0 : W.rangeAt R 0 (dCells S) := fun j u hj => by
      rw [Nat.zero_add, cell_in ((Chg.below hW (fun _ => False)).box hr (fun e => e)), List.getElem?_toArray]
      exact hj
    have := dCells_part h64 hr0 (k * m) m
    rwa [Nat.mul_assoc, ← hs] at this)
  have HSL := Lib.hid (show ∀ k, k < 2 → (sl m S k).length = m from fun k hk => by
    unfold sl
    rw [List.length_take, List.length_drop, hSl]
    have : k * m ≤ m := by
      match k, hk with
      | 0, _ => omega
      | 1, _ => omega
    omega)
  have H64 := Lib.hid (show ∀ k, ∀ x ∈ sl m S k, x.length = 64 from fun k x hx => h64 x (List.mem_of_mem_drop (List.mem_of_mem_take hx)))
  have HS := Lib.hid hs
  clear hr hSl h64 hL hs
  have hz : (zeroValue 93).run Try.prog w = (zeroValue 93).run Try.prog w := rfl
  clear hz
  obtain ⟨X, hX⟩ : ∃ X, w.heap.size = X := ⟨_, rfl⟩
  have HX := Lib.hid hX
  obtain ⟨w2, hw2⟩ : ∃ w2, (w.alloc (.cells #[.int .i64 0, .int .i64 0, .slice none 0 0] 93)).alloc (.cells #[.int .i64 0, .int .i64 0, .slice none 0 0] 93) = w2 := ⟨_, rfl⟩
  have hX1 : w2.heap[X]? = some (.cells #[.int .i64 0, .int .i64 0, .slice none 0 0] 93 (0, 0)) := by
    rw [← hw2, ← hX, Below.heap_alloc _ _ _ (by simp)]
    exact heap_new w _
  have hY1 : w2.heap[X + 1]? = some (.cells #[.int .i64 0, .int .i64 0, .slice none 0 0] 93 (0, 0)) := by
    rw [← hw2, ← hX]
    have := heap_new (w.alloc (.cells #[.int .i64 0, .int .i64 0, .slice none 0 0] 93)) (.cells #[.int .i64 0, .int .i64 0, .slice none 0 0] 93)
    simpa using this
  have hb2 : Below w.heap.size w w2 := by rw [← hw2]; exact bA (bA (Below.refl _ _) _) _
  have HX1 := Lib.hid hX1
  have HY1 := Lib.hid hY1
  have HB2 := Lib.hid hb2
  clear hX hX1 hY1 hb2
  go_enter Try.func41, Try.ntmps41
  go_wp2
  rw [HX.out]
  clear hw2
  go_loopw [12] (fun s12 wr => ∃ k : Nat, ∃ q cq, k ≤ 2 ∧ s12 = .int .i64 k ∧ Hid (wr.heap[X]? = some (.cells #[.int .i64 0, .int .i64 0, .slice none 0 0] 93 (0, 0))) ∧ Hid (wr.heap[X + 1]? = some (.cells (encB (bestK m S k) q cq) 93 (0, 0))) ∧ Hid (Held w.heap.size wr (bestK m S k) q cq) ∧ Hid (Below w.heap.size w wr)) (fun s12 _ => 2 - (intOf s12).toNat)
  case atStart => exact ⟨0, none, 0, by omega, rfl, HX1, HY1, Lib.hid (Held.none _ _), HB2⟩
  case round =>
    clear HX1 HY1 HB2
    obtain ⟨k, q, cq, hk, rfl, HXW, HYW, HH, HB⟩ := hrel
    by_cases hlt : k < 2
    · have d1 : decide ((k : Int) < 2) = true := decide_eq_true (by omega)
      have d1' : decide (k < 2) = true := decide_eq_true hlt
      have hks : k * s ≤ s := by
        match k, hlt with
        | 0, _ => omega
        | 1, _ => omega
      obtain ⟨ks, hks0⟩ : ∃ ks, ks = k * s := ⟨_, rfl⟩
      have hki : (k : Int) * (s : Int) = (ks : Int) := by rw [hks0]; simp
      have hrd := sread_u k R ks m (sl m S k) (L - ks) hlt (HSL.out k hlt) hm1 (by have := HS.out; omega) (by omega) (by omega) (H64.out k) wr (by rw [hks0]; exact HRD.out k wr HB.out)
      rw [← HS.out] at hrd
      have HNX := Lib.hid (best_next m S k hlt)
      have hpos : 0 < L := by omega
      rw [← hks0] at hks
      clear hks0
      have c1 : (L = ks) = False := eq_false (by omega)
      have i1 : (ks : Int) ≤ (L : Int) := by omega
      have i2 : (s : Int) ≤ (L : Int) - (ks : Int) := by omega
      have i3 : s ≤ L - ks := by omega
      have i4 : ks ≤ L := by omega
      have i5 : (0 : Int) ≤ (ks : Int) := by omega
      obtain ⟨bb, hbb⟩ : ∃ bb, bestK m S k = bb := ⟨_, rfl⟩
      obtain ⟨cc, hcc⟩ : ∃ cc, chk k (sl m S k) = cc := ⟨_, rfl⟩
      rw [hbb] at HYW HH HNX
      rw [hcc] at hrd HNX
      have hgc : genOf cc < 9223372036854775808 := by rw [← hcc]; exact gen_lt
      have hgb : genOf bb < 9223372036854775808 := by rw [← hbb]; exact best_gen m S k
      clear hsL hbb hcc
      go_wp2_with fail
      refine hrd.mono ?_
      rintro e w3 ⟨q1, cq1, rfl, hb3, hh3⟩
      have hB3 := Chg.below hb3 (fun _ => False)
      have hX3 := hB3.box HXW.out (fun e => e)
      have hY3 := hB3.box HYW.out (fun e => e)
      have hH3 := HH.out.on hb3
      have hL3 := hh3.low HB.out.size
      have hBB3 := HB.out.trans (hb3.mono HB.out.size)
      unfold encB at hY3 ⊢
      generalize hgn1 : genOf bb = g0 at *
      generalize hst0 : stOf bb = t0 at *
      generalize hbl0 : (bodyOf bb).length = l0 at *
      generalize hgn2 : genOf cc = g1 at *
      generalize hst1 : stOf cc = t1 at *
      generalize hbl1 : (bodyOf cc).length = l1 at *
      obtain ⟨w4, hw4⟩ : ∃ w4, w3.alloc (.cells #[.int .i64 g1, .int .i64 t1, .slice q1 l1 cq1] 93) = w4 := ⟨_, rfl⟩
      have hb4 : Below w3.heap.size w3 w4 := by rw [← hw4]; exact bA (Below.refl _ _) _
      have hB4 := Chg.below hb4 (fun _ => False)
      have hX4 := hB4.box hX3 (fun e => e)
      have hY4 := hB4.box hY3 (fun e => e)
      have hC4 : w4.heap[w3.heap.size]? = some (.cells #[.int .i64 g1, .int .i64 t1, .slice q1 l1 cq1] 93 (0, 0)) := by rw [← hw4]; exact heap_new w3 _
      have HX4 := Lib.hid hX4
      have HY4 := Lib.hid hY4
      have HH4 := Lib.hid (hH3.on hb4)
      have HL4 := Lib.hid (hL3.on hb4)
      have HB4 := Lib.hid (hBB3.trans (hb4.mono hBB3.size))
      have kc0 : w4.cell? ⟨w3.heap.size, 0, none⟩ = some (.int .i64 g1) := by rw [cell_in hC4]; rfl
      have kc1 : w4.cell? ⟨w3.heap.size, 1, none⟩ = some (.int .i64 t1) := by rw [cell_in hC4]; rfl
      have kc2 : w4.cell? ⟨w3.heap.size, 2, none⟩ = some (.slice q1 l1 cq1) := by rw [cell_in hC4]; rfl
      have ky0 : w4.cell? ⟨X + 1, 0, none⟩ = some (.int .i64 g0) := by rw [cell_in hY4]; rfl
      have fy0 := frozen_in hY4 0
      have fy1 := frozen_in hY4 1
      have fy2 := frozen_in hY4 2
      have ky1 : (w4.cell? ⟨X + 1, 1, none⟩).isSome = true := by rw [cell_in hY4]; rfl
      have HENC := Lib.hid (show #[Value.int .i64 (g1 : Int), .int .i64 (t1 : Int), .slice q1 l1 cq1] = encB cc q1 cq1 by unfold encB; rw [hgn2, hst1, hbl1])
      have HENB := Lib.hid (show #[Value.int .i64 (g0 : Int), .int .i64 (t0 : Int), .slice q l0 cq] = encB bb q cq by unfold encB; rw [hgn1, hst0, hbl0])
      clear hb3 hh3 hB3 hX3 hY3 hH3 hL3 hBB3 hb4 hB4 hX4 hY4 hC4 hgn1 hgn2 hst1 hbl1 hst0 hbl0 hrd
      cases hok : cc.isSome
      · have HNX2 := Lib.hid (show bestK m S (k + 1) = bb by rw [HNX.out, if_neg (fun e => by rw [hok] at e; cases e.1)])
        clear hok
        go_wp2
        go_roundw
        case rel => exact ⟨k + 1, q, cq, by omega, by go_num, HX4, Lib.hid (by rw [HNX2.out, ← HENB.out]; exact HY4.out), Lib.hid (by rw [HNX2.out]; exact HH4.out), HB4⟩
        case measure => simp [intOf]; omega
      · by_cases hgt : g0 < g1
        · have d2 : decide ((g0 : Int) < (g1 : Int)) = true := decide_eq_true (by omega)
          have d2' : decide (g0 < g1) = true := decide_eq_true hgt
          have HNX2 := Lib.hid (show bestK m S (k + 1) = cc by rw [HNX.out, if_pos ⟨hok, hgt⟩])
          have ky1' : w4.cell? ⟨X + 1, 1, none⟩ = some (.int .i64 t0) := by rw [cell_in HY4.out]; rfl
          have ky2' : w4.cell? ⟨X + 1, 2, none⟩ = some (.slice q l0 cq) := by rw [cell_in HY4.out]; rfl
          clear hok hgt ky1
          go_wp2
          have hE : (((w4.setCell ⟨X + 1, 0, none⟩ (.int .i64 g1)).setCell ⟨X + 1, 1, none⟩ (.int .i64 t1)).setCell ⟨X + 1, 2, none⟩ (.slice q1 l1 cq1)) = set3 w4 (X + 1) (.int .i64 g1) (.int .i64 t1) (.slice q1 l1 cq1) := rfl
          rw [hE]
          clear hE
          have hh5 := set3_heap HY4.out (.int .i64 g1) (.int .i64 t1) (.slice q1 l1 cq1)
          have hc5 := set3_chg w4 (X + 1) (.int .i64 g1) (.int .i64 t1) (.slice q1 l1 cq1)
          have hH5 := HL4.out.apart hc5 HY4.out (by decide)
          have hX5 := hc5.box HX4.out (by omega)
          have hB5 := hc5.on HB4.out HB4.out.size (fun k e => by rw [e, HX.out]; omega)
          go_roundw
          case rel => exact ⟨k + 1, q1, cq1, by omega, by go_num, Lib.hid hX5, Lib.hid (by rw [HNX2.out, ← HENC.out]; exact hh5), Lib.hid (by rw [HNX2.out]; exact hH5), Lib.hid hB5⟩
          case measure => simp [intOf]; omega
        · have d2 : decide ((g0 : Int) < (g1 : Int)) = false := decide_eq_false (by omega)
          have d2' : decide (g0 < g1) = false := decide_eq_false hgt
          have HNX2 := Lib.hid (show bestK m S (k + 1) = bb by rw [HNX.out, if_neg (fun e => hgt e.2)])
          clear hok hgt
          go_wp2
          go_roundw
          case rel => exact ⟨k + 1, q, cq, by omega, by go_num, HX4, Lib.hid (by rw [HNX2.out, ← HENB.out]; exact HY4.out), Lib.hid (by rw [HNX2.out]; exact HH4.out), HB4⟩
          case measure => simp [intOf]; omega
    · have d1 : decide ((k : Int) < 2) = false := decide_eq_false (by omega)
      have d1' : decide (k < 2) = false := decide_eq_false hlt
      obtain rfl : k = 2 := by omega
      have hYW := HYW.out
      have HHC := HH
      rw [HCU.out] at hYW HHC
      clear HYW HH hlt
      unfold encB at hYW
      obtain ⟨g0, hg0⟩ : ∃ g0, genOf cu = g0 := ⟨_, rfl⟩
      obtain ⟨t0, ht0⟩ : ∃ t0, stOf cu = t0 := ⟨_, rfl⟩
      obtain ⟨l0, hl0⟩ : ∃ l0, (bodyOf cu).length = l0 := ⟨_, rfl⟩
      rw [hg0, ht0, hl0] at hYW
      have HENC := Lib.hid (show #[Value.int .i64 (g0 : Int), .int .i64 (t0 : Int), .slice q l0 cq] = encB cu q cq by unfold encB; rw [hg0, ht0, hl0])
      have HPO := Lib.hid (show cu.isSome = decide (0 < g0) by rw [HPOS.out, hg0])
      have ky0 : wr.cell? ⟨X + 1, 0, none⟩ = some (.int .i64 g0) := by rw [cell_in hYW]; rfl
      have ky1 : wr.cell? ⟨X + 1, 1, none⟩ = some (.int .i64 t0) := by rw [cell_in hYW]; rfl
      have ky2 : wr.cell? ⟨X + 1, 2, none⟩ = some (.slice q l0 cq) := by rw [cell_in hYW]; rfl
      have HYW := Lib.hid hYW
      clear hYW hg0 ht0 hl0 HPOS
      go_wp2_with fail
      have kx0 : (wr.cell? ⟨X, 0, none⟩) = some (.int .i64 0) := by rw [cell_in HXW.out]; rfl
      have kx1 : (wr.cell? ⟨X, 1, none⟩) = some (.int .i64 0) := by rw [cell_in HXW.out]; rfl
      have kx2 : (wr.cell? ⟨X, 2, none⟩) = some (.slice none 0 0) := by rw [cell_in HXW.out]; rfl
      have fx0 := frozen_in HXW.out 0
      have fx1 := frozen_in HXW.out 1
      have fx2 := frozen_in HXW.out 2
      have hdr : Below wr.heap.size wr wr.drew := bD (Below.refl _ _)
      have HDR := Lib.hid hdr
      have hxd := (Chg.below hdr (fun _ => False)).box HXW.out (fun e => e)
      have HXD := Lib.hid hxd
      clear hdr hxd
      refine wp_region_noPanic ?_
      refine wp_region_held_drew (S := fun W => W.cell? ⟨X + 1, 0, none⟩ = some (.int .i64 g0) ∧ W.cell? ⟨X + 1, 1, none⟩ = some (.int .i64 t0) ∧ W.cell? ⟨X + 1, 2, none⟩ = some (.slice q l0 cq)) (by kernel_rfl) (⟨ky0, ky1, ky2⟩) (fun hHeld => ?_)
      refine wpAnyH_take (i := 0) (v := ?_) rfl (by kernel_rfl) (by kernel_rfl) (by kernel_rfl) (fun _ _ _ h => h) (Or.inl ⟨by rfl, ?_⟩) (by assumption) ?_
      rotate_left
      · (intro w hSw; (try dsimp only at hSw); go_simp; try (with_reducible rfl))
      try simp only [Act.put, List.setIfInBounds_toArray, List.set_cons_zero, List.set_cons_succ, List.getElem_toArray, List.getElem_cons_zero]
      refine wpAnyH_take (i := 1) (v := ?_) rfl (by kernel_rfl) (by kernel_rfl) (by kernel_rfl) (fun _ _ _ h => h) (Or.inl ⟨by rfl, ?_⟩) (by assumption) ?_
      rotate_left
      · (intro w hSw; (try dsimp only at hSw); go_simp; try (with_reducible rfl))
      try simp only [Act.put, List.setIfInBounds_toArray, List.set_cons_zero, List.set_cons_succ, List.getElem_toArray, List.getElem_cons_zero, List.getElem_cons_succ]
      refine wpAnyH_take (i := 2) (v := ?_) rfl (by kernel_rfl) (by kernel_rfl) (by kernel_rfl) (fun _ _ _ h => h) (Or.inl ⟨by rfl, ?_⟩) (by assumption) ?_
      rotate_left
      · (intro w hSw; (try dsimp only at hSw); go_simp; try (with_reducible rfl))
      try simp only [Act.put, List.setIfInBounds_toArray, List.set_cons_zero, List.set_cons_succ, List.getElem_toArray, List.getElem_cons_zero, List.getElem_cons_succ]
      refine wpAnyH_take (i := 3) (v := ?_) rfl (by kernel_rfl) (by kernel_rfl) (by kernel_rfl) (fun _ _ _ h => h) (Or.inl ⟨by rfl, ?_⟩) (by assumption) ?_
      rotate_left
      · (intro w hSw; (try dsimp only at hSw); go_simp; try (with_reducible rfl))
      try simp only [Act.put, List.setIfInBounds_toArray, List.set_cons_zero, List.set_cons_succ, List.getElem_toArray, List.getElem_cons_zero, List.getElem_cons_succ]
      generalize wr.drew = wd at *
      have kd0 : (wd.cell? ⟨X, 0, none⟩) = some (.int .i64 0) := by rw [cell_in HXD.out]; rfl
      have kd1 : (wd.cell? ⟨X, 1, none⟩) = some (.int .i64 0) := by rw [cell_in HXD.out]; rfl
      have kd2 : (wd.cell? ⟨X, 2, none⟩) = some (.slice none 0 0) := by rw [cell_in HXD.out]; rfl
      have fd0 := frozen_in HXD.out 0
      have fd1 := frozen_in HXD.out 1
      have fd2 := frozen_in HXD.out 2
      have hc5 := set3_chg wd X (.int .i64 g0) (.int .i64 t0) (.slice q l0 cq)
      have HC5 := Lib.hid hc5
      have hh5 := set3_heap HXD.out (.int .i64 g0) (.int .i64 t0) (.slice q l0 cq)
      have HH5 := Lib.hid hh5
      clear hc5 hh5
      refine wpAnyH_ready (rs := [4]) (by kernel_rfl) (by simp) ?_
      refine AllReadyH.cons rfl (fun K hK => ?_) AllReadyH.nil
      go_simp
      show K _ (set3 wd X (.int .i64 g0) (.int .i64 t0) (.slice q l0 cq))
      generalize hw5 : set3 wd X (.int .i64 g0) (.int .i64 t0) (.slice q l0 cq) = w5 at *
      refine hK.out _ _ ((by have h1 := HC5.out.box ((Chg.below HDR.out (fun _ => False)).box HYW.out (fun e => e)) (by omega); exact ⟨by rw [cell_in h1]; rfl, by rw [cell_in h1]; rfl, by rw [cell_in h1]; rfl⟩)) (fun hHeld2 => ?_)
      clear hK K hHeld
      have hHeld := hHeld2
      clear hHeld2
      try simp only [Act.put, List.setIfInBounds_toArray, List.set_cons_zero, List.set_cons_succ, List.getElem_toArray, List.getElem_cons_zero, List.getElem_cons_succ]
      refine wpAnyH_ready (rs := [5]) (by kernel_rfl) (by simp) ?_
      refine AllReadyH.cons rfl (fun K hK => ?_) AllReadyH.nil
      go_simp
      refine hK.out _ _ (hHeld) (fun hHeld2 => ?_)
      clear hK K hHeld
      have hHeld := hHeld2
      clear hHeld2
      try simp only [Act.put, List.setIfInBounds_toArray, List.set_cons_zero, List.set_cons_succ, List.getElem_toArray, List.getElem_cons_zero, List.getElem_cons_succ]
      refine wpAnyH_done (by kernel_rfl) ?_ _
      refine NoPanic.normal ?_
      clear hHeld hw5
      go_wp2
      refine bodyPost_ret (results_cell_tmp rfl _ _ _ ⟨X, 0, none⟩ _ rfl (load3 HH5.out)) rfl ?_
      refine ⟨q, cq, ?_, ?_, ?_⟩
      · rw [HPO.out, ← HENC.out]
        rfl
      · have hb1 : Below w.heap.size w wd := HB.out.trans (HDR.out.mono HB.out.size)
        exact HC5.out.on hb1 hb1.size (fun k e => by rw [e, HX.out]; exact Nat.le_refl _)
      · exact (HHC.out.on HDR.out).apart HC5.out HXD.out (by decide)
end Go.Proofs.Ytgcifhhbhoafcaa
