/-
  New, Waiting, Feed of a reader that has failed; the reference's Words and Same.
-/
import Derived.Test.YtcikelcecfapcaaDoorReqTold
import Derived.Deep.RegionHeld3
namespace Go.Proofs.YtcikelcecfapcaaDoor
open Go.RowKit Rp Rq

theorem bDN {a w : World} {n : Nat} (h : Below a.heap.size a w) : Below a.heap.size a (w.drewN n) := (Chg.drewN w n (fun _ => False)).on h h.size (fun _ e => e.elim)

theorem new_any (w : World) :
    Calls Tryd.prog 20 #[] w fun e w' => e = .returned (.pointer (some ⟨w.heap.size, 0, none⟩)) ∧ w' = w.alloc (.cells #[.int .i64 0, .slice none 0 0, .int .i64 0, .slice none 0 0, .int .i64 0] 69) := by
  go_enter Tryd.func20, Tryd.ntmps20
  go_wp2
  go_ret
  exact ⟨rfl, rfl⟩

set_option maxHeartbeats 1000000 in
theorem waiting_any (R : Nat) (er : Int) (p : Option Addr) (n c : Nat) (cnt : Int) (wv : Value) (tk : Nat) (hn : n ≤ 1000000000) (ht : tk ≤ 1000000000) (w : World) (hB : Box w R er (.slice p n c) cnt wv tk) :
    Calls Tryd.prog 24 #[.pointer (some ⟨R, 0, none⟩)] w fun e w' => e = .returned (.int .i64 ((tk + n : Nat) : Int)) ∧ Below w.heap.size w w' := by
  obtain ⟨z0, z1, z2, z3, z4⟩ := cells5 hB
  clear hB
  go_enter Tryd.func24, Tryd.ntmps24
  go_wp2_with fail
  go_quiet (fail)
  go_wp2
  go_ret
  exact ⟨rfl, bDN (Below.refl _ _)⟩

set_option maxHeartbeats 1000000 in
theorem feed_failed (R : Nat) (x : Int) (hx : x ≠ 0) (pv : Value) (cnt : Int) (wv : Value) (tk : Int) (a : Value) (w : World) (hB : Box w R x pv cnt wv tk) :
    Calls Tryd.prog 21 #[.pointer (some ⟨R, 0, none⟩), a] w fun e w' => e = .returned (.tuple #[.slice none 0 0, .int .i64 x]) ∧ Below w.heap.size w w' := by
  obtain ⟨z0, z1, z2, z3, z4⟩ := cells5 hB
  have hx0 : (x != 0) = true := by rw [bne_iff_ne]; exact hx
  clear hB
  go_enter Tryd.func21, Tryd.ntmps21
  go_wp2_with fail
  go_quiet (fail)
  go_wp2
  go_ret2
  exact ⟨rfl, bDN (Below.refl _ _)⟩

/-! ### Same -/
/-- A row of words at a place. -/
def WAt (w : World) (g o : Nat) (ws : List Wd) : Prop := ∀ (j : Nat) (h : j < ws.length), w.cell? ⟨g, o + j, none⟩ = some (.string (bs ws[j]))
theorem WAt.below {w w' : World} {g o : Nat} {ws : List Wd} (H : WAt w g o ws) (hb : Below w.heap.size w w') : WAt w' g o ws := fun j h => cellBelow hb (H j h)

theorem words_len (ws us : List Wd) (h : ws.length ≠ us.length) (p q : Option Addr) (c d : Nat) (w : World) :
    Calls Tryd.prog 46 #[.slice p ws.length c, .slice q us.length d] w fun e w' => e = .returned (.bool false) ∧ w = w' := by
  have hb : ((ws.length : Int) != (us.length : Int)) = true := by rw [bne_iff_ne]; omega
  generalize ws.length = m at *
  generalize us.length = n at *
  go_enter Tryd.func46, Tryd.ntmps46
  go_wp2
  go_ret
  exact ⟨rfl, rfl⟩

theorem take_next {α : Type} {ws us : List α} {j : Nat} (h1 : j < ws.length) (h2 : j < us.length) (ht : ws.take j = us.take j) (he : ws[j] = us[j]) : ws.take (j + 1) = us.take (j + 1) := by
  rw [List.take_succ_eq_append_getElem h1, List.take_succ_eq_append_getElem h2, ht, he]
theorem take_end {α : Type} {ws us : List α} {j : Nat} (hl : ws.length = us.length) (h1 : ¬ j < ws.length) (ht : ws.take j = us.take j) : ws = us := by
  rwa [List.take_of_length_le (by omega), List.take_of_length_le (by omega)] at ht
theorem get_ne {α : Type} {ws us : List α} {j : Nat} (h1 : j < ws.length) (h2 : j < us.length) (h : ws[j] ≠ us[j]) : ws ≠ us := fun e => by subst e; exact h rfl

set_option maxRecDepth 20000 in
set_option maxHeartbeats 2000000 in
theorem words_eq (ws us : List Wd) (n : Nat) (hn : n ≤ 9223372036854775807) (h1 : ws.length = n) (h2 : us.length = n) (g o c g' o' c' : Nat) (w : World) (ha : WAt w g o ws) (hb : WAt w g' o' us) :
    Calls Tryd.prog 46 #[.slice (some ⟨g, o, none⟩) n c, .slice (some ⟨g', o', none⟩) n c'] w fun e w' => e = .returned (.bool (decide (ws = us))) ∧ Below w.heap.size w w' := by
  have HA := Lib.hid ha
  have HB := Lib.hid hb
  have H1 := Lib.hid h1
  have H2 := Lib.hid h2
  clear ha hb h1 h2
  go_enter Tryd.func46, Tryd.ntmps46
  go_wp2_with fail
  go_loopw [5] (fun s5 wr => ∃ j : Nat, j ≤ n ∧ s5 = .int .i64 j ∧ Hid (ws.take j = us.take j) ∧ Below w.heap.size w wr) (fun s5 _ => n - (intOf s5).toNat)
  case atStart => exact ⟨0, Nat.zero_le _, rfl, Lib.hid rfl, Below.refl _ _⟩
  case round =>
    obtain ⟨j, hj, rfl, HM, hbw⟩ := hrel
    by_cases hlt : j < n
    · have hd1 : decide ((j : Int) < (n : Int)) = true := decide_eq_true (by omega)
      have hj1 : j < ws.length := by have := H1.out; omega
      have hj2 : j < us.length := by have := H2.out; omega
      have k0 := cellBelow hbw (HA.out j hj1)
      have k1 := cellBelow hbw (HB.out j hj2)
      obtain ⟨x, hx⟩ : ∃ x, ws[j] = x := ⟨_, rfl⟩
      obtain ⟨y, hy⟩ : ∃ y, us[j] = y := ⟨_, rfl⟩
      rw [hx] at k0
      rw [hy] at k1
      have hstr := strs_eq x y
      by_cases hxy : x = y
      · have HT := Lib.hid (take_next hj1 hj2 HM.out (hx.trans (hxy.trans hy.symm)))
        have hne : ((bs x).toList == (bs y).toList) = true := by rw [hstr, hxy]; simp
        clear hx hy hstr hxy
        go_wp2_with fail
        go_quiet (fail)
        go_wp2_with fail
        go_roundw
        case rel => exact ⟨j + 1, by omega, by go_num, HT, bDN hbw⟩
        case measure => simp [intOf]; omega
      · have HF := Lib.hid (show decide (ws = us) = false from decide_eq_false (get_ne hj1 hj2 (by rw [hx, hy]; exact hxy)))
        have hne : ((bs x).toList == (bs y).toList) = false := by rw [hstr]; simp [hxy]
        clear hx hy hstr hxy
        go_wp2_with fail
        go_quiet (fail)
        go_wp2
        go_ret
        exact ⟨by rw [HF.out]; rfl, bDN hbw⟩
    · have HT := Lib.hid (show decide (ws = us) = true from decide_eq_true (take_end (H1.out.trans H2.out.symm) (by rw [H1.out]; exact hlt) HM.out))
      have hd1 : decide ((j : Int) < (n : Int)) = false := decide_eq_false (by omega)
      go_wp2
      go_ret
      exact ⟨by rw [HT.out]; rfl, hbw⟩

/-- The reference's Words. -/
theorem words_any (ws us : List Wd) (hn : ws.length ≤ 9223372036854775807) (g o c g' o' c' : Nat) (w : World) (ha : WAt w g o ws) (hb : WAt w g' o' us) :
    Calls Tryd.prog 46 #[.slice (some ⟨g, o, none⟩) ws.length c, .slice (some ⟨g', o', none⟩) us.length c'] w fun e w' => e = .returned (.bool (decide (ws = us))) ∧ Below w.heap.size w w' := by
  by_cases h : ws.length = us.length
  · rw [← h]
    exact words_eq ws us _ hn rfl h.symm g o c g' o' c' w ha hb
  · refine (words_len ws us h _ _ _ _ w).mono ?_
    rintro e w' ⟨rfl, rfl⟩
    rw [decide_eq_false (fun e => h (by rw [e]))]
    exact ⟨rfl, Below.refl _ _⟩

/-- A row of commands at a place. -/
def CAt (w : World) (g o : Nat) (xs : List (List Wd)) : Prop := ∀ (j : Nat) (h : j < xs.length), ∃ b i c, w.cell? ⟨g, o + j, none⟩ = some (.slice (some ⟨b, i, none⟩) xs[j].length c) ∧ WAt w b i xs[j]

theorem same_len (m n : Nat) (h : m ≠ n) (p q : Option Addr) (c d : Nat) (w : World) :
    Calls Tryd.prog 23 #[.slice p m c, .slice q n d] w fun e w' => e = .returned (.bool false) ∧ w = w' := by
  have hb : ((m : Int) != (n : Int)) = true := by rw [bne_iff_ne]; omega
  go_enter Tryd.func23, Tryd.ntmps23
  go_wp2
  go_ret
  exact ⟨rfl, rfl⟩
theorem same_none (p q : Option Addr) (c d : Nat) (w : World) :
    Calls Tryd.prog 23 #[.slice p 0 c, .slice q 0 d] w fun e w' => e = .returned (.bool true) ∧ w = w' := by
  go_enter Tryd.func23, Tryd.ntmps23
  go_wp2_with fail
  go_loopw [5] (fun s5 wr => s5 = .int .i64 0 ∧ wr = w) (fun _ _ => 0)
  case atStart => exact ⟨rfl, rfl⟩
  case round =>
    obtain ⟨rfl, rfl⟩ := hrel
    go_wp2
    go_ret
    exact ⟨rfl, rfl⟩

set_option maxRecDepth 20000 in
set_option maxHeartbeats 2000000 in
theorem same_eq (xs ys : List (List Wd)) (n : Nat) (hn : n ≤ 9223372036854775807) (hm : ∀ x ∈ xs, x.length ≤ 9223372036854775807) (h1 : xs.length = n) (h2 : ys.length = n) (g o c g' o' c' : Nat) (w : World) (ha : CAt w g o xs) (hb : CAt w g' o' ys) :
    Calls Tryd.prog 23 #[.slice (some ⟨g, o, none⟩) n c, .slice (some ⟨g', o', none⟩) n c'] w fun e w' => e = .returned (.bool (decide (xs = ys))) ∧ Below w.heap.size w w' := by
  have HA := Lib.hid ha
  have HB := Lib.hid hb
  have H1 := Lib.hid h1
  have H2 := Lib.hid h2
  clear ha hb h1 h2
  go_enter Tryd.func23, Tryd.ntmps23
  go_wp2_with fail
  go_loopw [5] (fun s5 wr => ∃ j : Nat, j ≤ n ∧ s5 = .int .i64 j ∧ Hid (xs.take j = ys.take j) ∧ Below w.heap.size w wr) (fun s5 _ => n - (intOf s5).toNat)
  case atStart => exact ⟨0, Nat.zero_le _, rfl, Lib.hid rfl, Below.refl _ _⟩
  case round =>
    obtain ⟨j, hj, rfl, HM, hbw⟩ := hrel
    by_cases hlt : j < n
    · have hd1 : decide ((j : Int) < (n : Int)) = true := decide_eq_true (by omega)
      have hj1 : j < xs.length := by have := H1.out; omega
      have hj2 : j < ys.length := by have := H2.out; omega
      obtain ⟨b, i, d, hc, hw⟩ := HA.out j hj1
      obtain ⟨b', i', d', hc', hw'⟩ := HB.out j hj2
      have e0 := cellBelow hbw hc
      have f0 := cellBelow hbw hc'
      have hwr := hw.below hbw
      have hwr' := hw'.below hbw
      obtain ⟨x, hx⟩ : ∃ x, xs[j] = x := ⟨_, rfl⟩
      obtain ⟨y, hy⟩ : ∃ y, ys[j] = y := ⟨_, rfl⟩
      rw [hx] at e0 hwr
      rw [hy] at f0 hwr'
      have HCL := Lib.hid (fun (w2 : World) (h : Below wr.heap.size wr w2) => words_any x y (hx ▸ hm _ (List.getElem_mem hj1)) b i d b' i' d' w2 (hwr.below h) (hwr'.below h))
      have HN1 := Lib.hid (fun (hxy : x = y) => take_next hj1 hj2 HM.out (hx.trans (hxy.trans hy.symm)))
      have HN2 := Lib.hid (fun (hxy : x ≠ y) => get_ne hj1 hj2 (show xs[j] ≠ ys[j] by rw [hx, hy]; exact hxy))
      have HBW := Lib.hid hbw
      have KK : Hid (∀ w', Below wr.heap.size wr w' → Below wr.heap.size wr w' ∧ w'.cell? ⟨g, o + j, none⟩ = some (.slice (some ⟨b, i, none⟩) x.length d) ∧ w'.cell? ⟨g', o' + j, none⟩ = some (.slice (some ⟨b', i', none⟩) y.length d')) := Lib.hid fun w' h => ⟨h, cellBelow h e0, cellBelow h f0⟩
      have i0 : (0 : Int) ≤ (j : Int) := by omega
      have i1 : (j : Int) < (n : Int) := by omega
      clear hc hw hc' hw' hwr hwr' hx hy hbw HM
      go_wp2_with fail
      go_region_held3 (fun w' => Below wr.heap.size wr w' ∧ w'.cell? ⟨g, o + j, none⟩ = some (.slice (some ⟨b, i, none⟩) x.length d) ∧ w'.cell? ⟨g', o' + j, none⟩ = some (.slice (some ⟨b', i', none⟩) y.length d'))
        ((first | exact KK.out _ (bD (Below.refl _ _)) | exact KK.out _ (bT (bD (Below.refl _ _)) hb1)))
        ((go_at_call 46; refine (HCL.out _ (bD (Below.refl _ _))).mono ?_; rintro e9 w1 ⟨rfl, hb1⟩))
      have hb2 := bT (bD (Below.refl wr.heap.size wr)) hb1
      clear KK HCL e0 f0 hb1
      rename_i hHeld
      clear hHeld
      by_cases hxy : x = y
      · have HT := Lib.hid (HN1.out hxy)
        rw [decide_eq_true hxy] at *
        clear hxy
        go_wp2_with fail
        go_roundw
        case rel => exact ⟨j + 1, by omega, by go_num, HT, bT HBW.out hb2⟩
        case measure => simp [intOf]; omega
      · have HF := Lib.hid (show decide (xs = ys) = false from decide_eq_false (HN2.out hxy))
        rw [decide_eq_false hxy] at *
        clear hxy
        go_wp2
        go_ret
        exact ⟨by rw [HF.out]; rfl, bT HBW.out hb2⟩
    · have HT := Lib.hid (show decide (xs = ys) = true from decide_eq_true (take_end (H1.out.trans H2.out.symm) (by rw [H1.out]; exact hlt) HM.out))
      have hd1 : decide ((j : Int) < (n : Int)) = false := decide_eq_false (by omega)
      go_wp2
      go_ret
      exact ⟨by rw [HT.out]; rfl, hbw⟩

/-- A value that is a row of commands. -/
def IsC (w : World) (v : Value) (xs : List (List Wd)) : Prop := ∃ p c, v = .slice p xs.length c ∧ (xs = [] ∨ ∃ g o, p = some ⟨g, o, none⟩ ∧ CAt w g o xs)
/-- The reference's Same. -/
theorem same_any (xs ys : List (List Wd)) (hn : xs.length ≤ 9223372036854775807) (hm : ∀ x ∈ xs, x.length ≤ 9223372036854775807) (v v' : Value) (w : World) (h : IsC w v xs) (h' : IsC w v' ys) :
    Calls Tryd.prog 23 #[v, v'] w fun e w' => e = .returned (.bool (decide (xs = ys))) ∧ Below w.heap.size w w' := by
  obtain ⟨p, c, rfl, hx⟩ := h
  obtain ⟨q, d, rfl, hy⟩ := h'
  by_cases hl : xs.length = ys.length
  · rcases hx with rfl | ⟨g, o, rfl, ha⟩
    · obtain rfl : ys = [] := List.eq_nil_of_length_eq_zero hl.symm
      refine (same_none p q c d w).mono ?_
      rintro e w' ⟨rfl, rfl⟩
      exact ⟨rfl, Below.refl _ _⟩
    · rcases hy with rfl | ⟨g', o', rfl, hb⟩
      · obtain rfl : xs = [] := List.eq_nil_of_length_eq_zero hl
        refine (same_none _ _ c d w).mono ?_
        rintro e w' ⟨rfl, rfl⟩
        exact ⟨rfl, Below.refl _ _⟩
      · rw [← hl]
        exact same_eq xs ys _ hn hm rfl hl.symm g o c g' o' d w ha hb
  · refine (same_len _ _ hl p q c d w).mono ?_
    rintro e w' ⟨rfl, rfl⟩
    rw [decide_eq_false (fun e => hl (by rw [e]))]
    exact ⟨rfl, Below.refl _ _⟩

/-- Commands that have been told. -/
theorem told_is {w : World} {lo lo' : Nat} {v : Value} {xs : List Hc} (hown : w.ownsRow lo 50 1 v xs.length (hCells xs)) (hx : ∀ x ∈ xs, Own w lo' x) : IsC w v (xs.map Hc.ws) := by
  rcases hown.2 with ⟨rfl, h⟩ | ⟨g, cap, cur, rfl, rest⟩
  · obtain rfl : xs = [] := List.eq_nil_of_length_eq_zero h
    exact ⟨none, 0, rfl, .inl rfl⟩
  · refine ⟨some ⟨g, 0, none⟩, cap, by rw [List.length_map], .inr ⟨g, 0, rfl, fun j hj => ?_⟩⟩
    rw [List.length_map] at hj
    rw [List.getElem_map]
    refine ⟨xs[j].g, 0, xs[j].cap, ?_, fun k hk => ?_⟩
    · rw [Nat.zero_add, hown.cellAt j (by omega)]
      simp [hCells, hj, Hc.val]
    · rw [Nat.zero_add, (hx _ (List.getElem_mem hj)).cellAt k (by omega)]
      simp [wCells, hk]
end Go.Proofs.YtcikelcecfapcaaDoor
