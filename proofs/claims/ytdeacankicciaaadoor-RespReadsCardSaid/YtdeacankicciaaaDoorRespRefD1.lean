/-
  The reference's Read where no array stands: what it answers.
-/
import Derived.Test.YtdeacankicciaaaDoorRespRefS
namespace Go.Proofs.YtdeacankicciaaaDoor
open Go.RowKit Rp

theorem cell_below {w w1 : World} (h : Below w.heap.size w w1) {p : Addr} {v : Value} (hc : w.cell? p = some v) : w1.cell? p = some v := (h.cell (World.block_lt_of_cell? w _ hc)).trans hc
theorem byte_ne {x y : UInt8} (h : ¬ x = y) : ((x.toNat : Int) != (y.toNat : Int)) = true := by
  rw [bne_iff_ne]
  intro e
  exact h (UInt8.toNat_inj.1 (by omega))
theorem byte_eq {x y : UInt8} (h : ¬ x = y) : ((x.toNat : Int) == (y.toNat : Int)) = false := by
  rw [beq_eq_false_iff_ne]
  intro e
  exact h (UInt8.toNat_inj.1 (by omega))
theorem rest_at {w : World} {b o c : Nat} {l : List UInt8} (h : Rest w (some ⟨b, o, none⟩) c l) : ∀ (j : Nat) (hj : j < l.length), w.cell? ⟨b, o + j, none⟩ = some (.int .u8 (l[j].toNat : Nat)) := by
  rcases h with ⟨h, _⟩ | ⟨b', o', h, _, _, h3⟩
  · cases h
  · simp only [Option.some.injEq, Addr.mk.injEq, and_true] at h
    obtain ⟨rfl, rfl⟩ := h
    exact h3

set_option maxRecDepth 20000 in
set_option maxHeartbeats 4000000 in
theorem rr_none (l : List UInt8) (hl : l.length ≤ 1000000000) (a : Nat) (ha : a ≤ l.length) (hln : lineR (l.drop a) = none) (D : Int) (b o c : Nat) (w : World) (h : Rest w (some ⟨b, o, none⟩) c l) :
    Calls Tryd.prog 11 #[.slice (some ⟨b, o, none⟩) l.length c, .int .i64 a, .int .i64 D] w fun e w' => RefV w.heap.size w' l.length e (none) ∧ Below w.heap.size w w' := by
  have HLN := Lib.hid hln
  clear hln
  have H3 := Lib.hid (rest_at h)
  have hmx := h.len
  have hcap := h.bin.cap
  have hcm := h.bin.max
  have HH := Lib.hid h
  unfold maxLen at hcm
  clear h
  go_enter Tryd.func11, Tryd.ntmps11
  have hB0 : Below w.heap.size w (w.alloc (.cells #[.int .i64 0, .string ⟨#[]⟩, .int .i64 0, .slice none 0 0] 26)) := bA (Below.refl _ _) _
  have HBX0 := Lib.hid (heap_alloc_new w (.cells #[.int .i64 0, .string ⟨#[]⟩, .int .i64 0, .slice none 0 0] 26))
  go_wp2_with fail
  generalize w.alloc (.cells #[.int .i64 0, .string ⟨#[]⟩, .int .i64 0, .slice none 0 0] 26 (0, 0)) = wB at *
  go_loop [8] (fun s8 => ∃ e : Nat, a ≤ e ∧ e ≤ l.length ∧ s8 = .int .i64 e ∧ Hid (Scan l a e)) (fun s8 => l.length - (intOf s8).toNat)
  case atStart => exact ⟨a, Nat.le_refl _, ha, rfl, Lib.hid (scan_start l a)⟩
  case round =>
    obtain ⟨e, hae, hel, rfl, HS⟩ := hrel
    by_cases hlt : e + 1 < l.length
    · obtain ⟨x0, hx0⟩ : ∃ x0, l[e] = x0 := ⟨_, rfl⟩
      obtain ⟨x1, hx1⟩ : ∃ x1, l[e + 1] = x1 := ⟨_, rfl⟩
      have k0 := cell_below hB0 (H3.out e (by omega))
      have k1 := cell_below hB0 (H3.out (e + 1) hlt)
      rw [hx0] at k0
      rw [hx1] at k1
      have hdl : decide ((e : Int) + 1 < (l.length : Int)) = true := decide_eq_true (by omega)
      by_cases g13 : x0 = 13
      · by_cases g10 : x1 = 10
        · subst g13 g10
          have HX0 := Lib.hid hx0
          have HX1 := Lib.hid hx1
          clear hx0 hx1
          exfalso; have := HS.out.found hlt HX0.out HX1.out; rw [HLN.out] at this; cases this
        · have hn : ((x1.toNat : Int) != 10) = true := byte_ne g10
          have HG := Lib.hid (fun (hh : l[e] = 13 ∧ l[e + 1] = 10) => g10 (hx1.symm.trans hh.2))
          have hsn := Lib.hid (HS.out.next hae hlt HG.out)
          subst g13
          clear hx0 hx1 g10
          go_wp2_with fail
          go_round
          case rel => exact ⟨e + 1, by omega, by omega, by go_num, hsn⟩
          case measure => simp [intOf]; omega
      · have hn : ((x0.toNat : Int) != 13) = true := byte_ne g13
        have hsn := Lib.hid (HS.out.next hae hlt (fun hh => g13 (hx0.symm.trans hh.1)))
        clear hx0 hx1 g13
        go_wp2_with fail
        go_round
        case rel => exact ⟨e + 1, by omega, by omega, by go_num, hsn⟩
        case measure => simp [intOf]; omega
    · have hdl : decide ((e : Int) + 1 < (l.length : Int)) = false := decide_eq_false (by omega)
      have hbx : wB.heap[w.heap.size]? = some (.cells #[.int .i64 0, .string ⟨#[]⟩, .int .i64 0, .slice none 0 0] 26 (0, 0)) := HBX0.out
      obtain ⟨z0, z1, z2, z3⟩ := cells4 hbx
      have fz := frozen4 hbx
      go_wp2_with fail
      have hE := heap_set4 hbx (.int .i64 0) (.string ⟨#[]⟩) (.int .i64 0) (.slice none 0 0)
      have HE : Below w.heap.size w (set4 (wB) w.heap.size (.int .i64 0) (.string ⟨#[]⟩) (.int .i64 0) (.slice none 0 0)) := set4_below (hB0) (Nat.le_refl _) _ _ _ _
      show bodyPost _ _ _ _ _ (set4 (wB) w.heap.size (.int .i64 0) (.string ⟨#[]⟩) (.int .i64 0) (.slice none 0 0))
      generalize set4 (wB) w.heap.size (.int .i64 0) (.string ⟨#[]⟩) (.int .i64 0) (.slice none 0 0) = W at *
      obtain ⟨e0, e1, e2, e3⟩ := cells4 hE
      refine bodyPost_ret (v := .tuple #[.agg #[.int .i64 0, .string ⟨#[]⟩, .int .i64 0, .slice none 0 0], .int .i64 (-1)]) (by simp [results, Tryd.results11, go_sem, e0, e1, e2, e3]) rfl ?_
      exact ⟨rfl, HE⟩

set_option maxRecDepth 20000 in
set_option maxHeartbeats 4000000 in
theorem rr_empty (l : List UInt8) (hl : l.length ≤ 1000000000) (a : Nat) (ha : a ≤ l.length) (r : List UInt8) (hln : lineR (l.drop a) = some ([], r)) (D : Int) (b o c : Nat) (w : World) (h : Rest w (some ⟨b, o, none⟩) c l) :
    Calls Tryd.prog 11 #[.slice (some ⟨b, o, none⟩) l.length c, .int .i64 a, .int .i64 D] w fun e w' => RefV w.heap.size w' l.length e (none) ∧ Below w.heap.size w w' := by
  have HLN := Lib.hid hln
  clear hln
  have H3 := Lib.hid (rest_at h)
  have hmx := h.len
  have hcap := h.bin.cap
  have hcm := h.bin.max
  have HH := Lib.hid h
  unfold maxLen at hcm
  clear h
  go_enter Tryd.func11, Tryd.ntmps11
  have hB0 : Below w.heap.size w (w.alloc (.cells #[.int .i64 0, .string ⟨#[]⟩, .int .i64 0, .slice none 0 0] 26)) := bA (Below.refl _ _) _
  have HBX0 := Lib.hid (heap_alloc_new w (.cells #[.int .i64 0, .string ⟨#[]⟩, .int .i64 0, .slice none 0 0] 26))
  go_wp2_with fail
  generalize w.alloc (.cells #[.int .i64 0, .string ⟨#[]⟩, .int .i64 0, .slice none 0 0] 26 (0, 0)) = wB at *
  go_loop [8] (fun s8 => ∃ e : Nat, a ≤ e ∧ e ≤ l.length ∧ s8 = .int .i64 e ∧ Hid (Scan l a e)) (fun s8 => l.length - (intOf s8).toNat)
  case atStart => exact ⟨a, Nat.le_refl _, ha, rfl, Lib.hid (scan_start l a)⟩
  case round =>
    obtain ⟨e, hae, hel, rfl, HS⟩ := hrel
    by_cases hlt : e + 1 < l.length
    · obtain ⟨x0, hx0⟩ : ∃ x0, l[e] = x0 := ⟨_, rfl⟩
      obtain ⟨x1, hx1⟩ : ∃ x1, l[e + 1] = x1 := ⟨_, rfl⟩
      have k0 := cell_below hB0 (H3.out e (by omega))
      have k1 := cell_below hB0 (H3.out (e + 1) hlt)
      rw [hx0] at k0
      rw [hx1] at k1
      have hdl : decide ((e : Int) + 1 < (l.length : Int)) = true := decide_eq_true (by omega)
      by_cases g13 : x0 = 13
      · by_cases g10 : x1 = 10
        · subst g13 g10
          have HX0 := Lib.hid hx0
          have HX1 := Lib.hid hx1
          clear hx0 hx1
          obtain ⟨he, -, -, -⟩ := line_where HS.out hae hlt HX0.out HX1.out HLN.out
          have he2 : e = a := by simpa using he
          clear he
          subst he2
          have hge : decide ((l.length : Int) ≤ (e : Int) + 1) = false := decide_eq_false (by omega)
          have hbx : wB.heap[w.heap.size]? = some (.cells #[.int .i64 0, .string ⟨#[]⟩, .int .i64 0, .slice none 0 0] 26 (0, 0)) := HBX0.out
          obtain ⟨z0, z1, z2, z3⟩ := cells4 hbx
          have fz := frozen4 hbx
          go_wp2_with fail
          have hE := heap_set4 hbx (.int .i64 0) (.string ⟨#[]⟩) (.int .i64 0) (.slice none 0 0)
          have HE : Below w.heap.size w (set4 (wB) w.heap.size (.int .i64 0) (.string ⟨#[]⟩) (.int .i64 0) (.slice none 0 0)) := set4_below (hB0) (Nat.le_refl _) _ _ _ _
          show bodyPost _ _ _ _ _ (set4 (wB) w.heap.size (.int .i64 0) (.string ⟨#[]⟩) (.int .i64 0) (.slice none 0 0))
          generalize set4 (wB) w.heap.size (.int .i64 0) (.string ⟨#[]⟩) (.int .i64 0) (.slice none 0 0) = W at *
          obtain ⟨e0, e1, e2, e3⟩ := cells4 hE
          refine bodyPost_ret (v := .tuple #[.agg #[.int .i64 0, .string ⟨#[]⟩, .int .i64 0, .slice none 0 0], .int .i64 (-1)]) (by simp [results, Tryd.results11, go_sem, e0, e1, e2, e3]) rfl ?_
          exact ⟨rfl, HE⟩
        · have hn : ((x1.toNat : Int) != 10) = true := byte_ne g10
          have HG := Lib.hid (fun (hh : l[e] = 13 ∧ l[e + 1] = 10) => g10 (hx1.symm.trans hh.2))
          have hsn := Lib.hid (HS.out.next hae hlt HG.out)
          subst g13
          clear hx0 hx1 g10
          go_wp2_with fail
          go_round
          case rel => exact ⟨e + 1, by omega, by omega, by go_num, hsn⟩
          case measure => simp [intOf]; omega
      · have hn : ((x0.toNat : Int) != 13) = true := byte_ne g13
        have hsn := Lib.hid (HS.out.next hae hlt (fun hh => g13 (hx0.symm.trans hh.1)))
        clear hx0 hx1 g13
        go_wp2_with fail
        go_round
        case rel => exact ⟨e + 1, by omega, by omega, by go_num, hsn⟩
        case measure => simp [intOf]; omega
    · have hdl : decide ((e : Int) + 1 < (l.length : Int)) = false := decide_eq_false (by omega)
      exfalso; have := HS.out.none hlt; rw [HLN.out] at this; cases this

theorem lineR_len {l t r : List UInt8} {x : UInt8} (h : lineR l = some (x :: t, r)) : t.length ≤ l.length := by
  have := lineR_split l _ r h
  rw [this]
  simp
  omega
theorem parsed (t : List UInt8) (htl : t.length ≤ 281474976710656) : ∃ (v : Int) (k : Bool), ∀ W, Calls Tryd.prog 33 #[.string (bs t)] W fun e w' => e = .returned (.tuple #[.int .i64 v, .bool k]) ∧ Below W.heap.size W w' := by
  have h := fun W => refparse_any t htl W
  cases hp : parseL t with
  | none => rw [hp] at h; exact ⟨0, false, h⟩
  | some v => rw [hp] at h; exact ⟨v, true, h⟩

set_option maxRecDepth 20000 in
set_option maxHeartbeats 4000000 in
theorem rr_else (l : List UInt8) (hl : l.length ≤ 1000000000) (a : Nat) (ha : a ≤ l.length) (x : UInt8) (t r : List UInt8) (hln : lineR (l.drop a) = some (x :: t, r)) (h1 : ¬ x = 43) (h2 : ¬ x = 45) (h3 : ¬ x = 58) (h4 : ¬ x = 36) (h5 : ¬ x = 42) (D : Int) (b o c : Nat) (w : World) (h : Rest w (some ⟨b, o, none⟩) c l) :
    Calls Tryd.prog 11 #[.slice (some ⟨b, o, none⟩) l.length c, .int .i64 a, .int .i64 D] w fun e w' => RefV w.heap.size w' l.length e (none) ∧ Below w.heap.size w w' := by
  have htl : t.length ≤ 281474976710656 := by
    have := lineR_len hln
    rw [List.length_drop] at this
    omega
  obtain ⟨pv, pk, hpr⟩ := parsed t htl
  have HPR := Lib.hid hpr
  have HLN := Lib.hid hln
  clear hln htl hpr
  have b1 : ((x.toNat : Int) == 43) = false := byte_eq h1
  have b2 : ((x.toNat : Int) == 45) = false := byte_eq h2
  have b3 : ((x.toNat : Int) == 58) = false := byte_eq h3
  have b4 : ((x.toNat : Int) == 36) = false := byte_eq h4
  have b5 : ((x.toNat : Int) == 42) = false := byte_eq h5
  clear h1 h2 h3 h4 h5
  have H3 := Lib.hid (rest_at h)
  have hmx := h.len
  have hcap := h.bin.cap
  have hcm := h.bin.max
  have HH := Lib.hid h
  unfold maxLen at hcm
  clear h
  go_enter Tryd.func11, Tryd.ntmps11
  have hB0 : Below w.heap.size w (w.alloc (.cells #[.int .i64 0, .string ⟨#[]⟩, .int .i64 0, .slice none 0 0] 26)) := bA (Below.refl _ _) _
  have HBX0 := Lib.hid (heap_alloc_new w (.cells #[.int .i64 0, .string ⟨#[]⟩, .int .i64 0, .slice none 0 0] 26))
  go_wp2_with fail
  generalize w.alloc (.cells #[.int .i64 0, .string ⟨#[]⟩, .int .i64 0, .slice none 0 0] 26 (0, 0)) = wB at *
  go_loop [8] (fun s8 => ∃ e : Nat, a ≤ e ∧ e ≤ l.length ∧ s8 = .int .i64 e ∧ Hid (Scan l a e)) (fun s8 => l.length - (intOf s8).toNat)
  case atStart => exact ⟨a, Nat.le_refl _, ha, rfl, Lib.hid (scan_start l a)⟩
  case round =>
    obtain ⟨e, hae, hel, rfl, HS⟩ := hrel
    by_cases hlt : e + 1 < l.length
    · obtain ⟨x0, hx0⟩ : ∃ x0, l[e] = x0 := ⟨_, rfl⟩
      obtain ⟨x1, hx1⟩ : ∃ x1, l[e + 1] = x1 := ⟨_, rfl⟩
      have k0 := cell_below hB0 (H3.out e (by omega))
      have k1 := cell_below hB0 (H3.out (e + 1) hlt)
      rw [hx0] at k0
      rw [hx1] at k1
      have hdl : decide ((e : Int) + 1 < (l.length : Int)) = true := decide_eq_true (by omega)
      by_cases g13 : x0 = 13
      · by_cases g10 : x1 = 10
        · subst g13 g10
          have HX0 := Lib.hid hx0
          have HX1 := Lib.hid hx1
          clear hx0 hx1
          obtain ⟨he, hu, hr, hlen⟩ := line_where HS.out hae hlt HX0.out HX1.out HLN.out
          rw [List.length_cons] at he hu hr hlen
          have hge : decide ((l.length : Int) ≤ (e : Int) + 1) = false := decide_eq_false (by omega)
          have hea : ((e : Int) == (a : Int)) = false := beq_eq_false_iff_ne.2 (by omega)
          have hxa : l[a]'(by omega) = x := by
            have := congrArg (fun y => y[0]?) hu
            simp only [List.getElem?_cons_zero, List.getElem?_take_of_lt (show 0 < t.length + 1 by omega), List.getElem?_drop, Nat.add_zero] at this
            rw [List.getElem?_eq_getElem (by omega)] at this
            simpa using this.symm
          have hta : t = (l.drop (a + 1)).take (e - (a + 1)) := by
            have h1 : (l.drop a) = x :: l.drop (a + 1) := by rw [List.drop_eq_getElem_cons (by omega), hxa]
            rw [h1, List.take_succ_cons] at hu
            rw [show e - (a + 1) = t.length by omega]
            exact (List.cons.inj hu).2
          have hca : w.cell? ⟨b, o + a, none⟩ = some (.int .u8 (x.toNat : Nat)) := by rw [H3.out a (by omega), hxa]
          have HTL := Lib.hid (show t.length = e - (a + 1) by omega)
          have HEA := Lib.hid he
          have HR := Lib.hid hr
          have HLEN := Lib.hid hlen
          have hrl : e + 2 + r.length = l.length := by omega
          have HRL := Lib.hid hrl
          have HCV : Hid (∀ W, Below w.heap.size w W → (convert 22 9 (.slice (some ⟨b, o + (a + 1), none⟩) (e - (a + 1)) (c - (a + 1)))).run Tryd.prog W = .ok (.string (bs t)) W) := Lib.hid fun W hW => by
            rw [hta]
            refine convert_rest (l := l.drop (a + 1)) _ _ (by rw [List.length_drop]; omega) (fun j hj => ?_)
            rw [List.length_drop] at hj
            rw [List.getElem_drop, Nat.add_assoc]
            exact (hW.cell (p := ⟨b, o + (a + 1 + j), none⟩) (World.block_lt_of_cell? w _ (H3.out (a + 1 + j) (by omega)))).trans (H3.out (a + 1 + j) (by omega))
          have hck : (c = a + 1) = False := eq_false (by omega)
          have hle1 : a + 1 ≤ e := by omega
          have hec : e ≤ c := by omega
          have hlen9 : e + 2 ≤ l.length := by omega
          clear hxa hta hu hr hlen he hrl
          have hcv0 := HCV.out _ hB0
          go_wp2_with fail
          refine (HPR.out _).mono ?_
          rintro e9 w1 ⟨rfl, hb1⟩
          have hB1 : Below w.heap.size w w1 := bT hB0 hb1
          have HBX := Lib.hid (show w1.heap[w.heap.size]? = some (.cells #[.int .i64 0, .string ⟨#[]⟩, .int .i64 0, .slice none 0 0] 26 (0, 0)) from (hb1.block _ (Array.getElem?_eq_some_iff.1 HBX0.out).1).trans HBX0.out)
          have hcw := cell_below hB1 hca
          clear hcv0 hca
          have hbx : w1.heap[w.heap.size]? = some (.cells #[.int .i64 0, .string ⟨#[]⟩, .int .i64 0, .slice none 0 0] 26 (0, 0)) := HBX.out
          obtain ⟨z0, z1, z2, z3⟩ := cells4 hbx
          have fz := frozen4 hbx
          go_wp2_with fail
          have hE := heap_set4 hbx (.int .i64 0) (.string ⟨#[]⟩) (.int .i64 0) (.slice none 0 0)
          have HE : Below w.heap.size w (set4 (w1) w.heap.size (.int .i64 0) (.string ⟨#[]⟩) (.int .i64 0) (.slice none 0 0)) := set4_below (hB1) (Nat.le_refl _) _ _ _ _
          show bodyPost _ _ _ _ _ (set4 (w1) w.heap.size (.int .i64 0) (.string ⟨#[]⟩) (.int .i64 0) (.slice none 0 0))
          generalize set4 (w1) w.heap.size (.int .i64 0) (.string ⟨#[]⟩) (.int .i64 0) (.slice none 0 0) = W at *
          obtain ⟨e0, e1, e2, e3⟩ := cells4 hE
          refine bodyPost_ret (v := .tuple #[.agg #[.int .i64 0, .string ⟨#[]⟩, .int .i64 0, .slice none 0 0], .int .i64 (-1)]) (by simp [results, Tryd.results11, go_sem, e0, e1, e2, e3]) rfl ?_
          exact ⟨rfl, HE⟩
        · have hn : ((x1.toNat : Int) != 10) = true := byte_ne g10
          have HG := Lib.hid (fun (hh : l[e] = 13 ∧ l[e + 1] = 10) => g10 (hx1.symm.trans hh.2))
          have hsn := Lib.hid (HS.out.next hae hlt HG.out)
          subst g13
          clear hx0 hx1 g10
          go_wp2_with fail
          go_round
          case rel => exact ⟨e + 1, by omega, by omega, by go_num, hsn⟩
          case measure => simp [intOf]; omega
      · have hn : ((x0.toNat : Int) != 13) = true := byte_ne g13
        have hsn := Lib.hid (HS.out.next hae hlt (fun hh => g13 (hx0.symm.trans hh.1)))
        clear hx0 hx1 g13
        go_wp2_with fail
        go_round
        case rel => exact ⟨e + 1, by omega, by omega, by go_num, hsn⟩
        case measure => simp [intOf]; omega
    · have hdl : decide ((e : Int) + 1 < (l.length : Int)) = false := decide_eq_false (by omega)
      exfalso; have := HS.out.none hlt; rw [HLN.out] at this; cases this
end Go.Proofs.YtdeacankicciaaaDoor
