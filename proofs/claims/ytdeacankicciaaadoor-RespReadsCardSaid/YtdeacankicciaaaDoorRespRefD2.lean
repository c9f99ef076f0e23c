/-
  The reference's Read where no array stands: what it answers.
-/
import Derived.Test.YtdeacankicciaaaDoorRespRefD1
namespace Go.Proofs.YtdeacankicciaaaDoor
open Go.RowKit Rp

set_option maxRecDepth 20000 in
set_option maxHeartbeats 4000000 in
theorem rr_43_true (l : List UInt8) (hl : l.length ≤ 1000000000) (a : Nat) (ha : a ≤ l.length) (t r : List UInt8) (hln : lineR (l.drop a) = some ((43 : UInt8) :: t, r)) (hcm0 : calm t = true) (D : Int) (b o c : Nat) (w : World) (h : Rest w (some ⟨b, o, none⟩) c l) :
    Calls Tryd.prog 11 #[.slice (some ⟨b, o, none⟩) l.length c, .int .i64 a, .int .i64 D] w fun e w' => RefV w.heap.size w' l.length e (some (.mk 0 t 0 [], r)) ∧ Below w.heap.size w w' := by
  have HTM := Lib.hid (show t.length ≤ maxLen by
    have := lineR_len hln
    rw [List.length_drop] at this
    unfold maxLen
    omega)
  have htl : t.length ≤ 281474976710656 := by
    have := lineR_len hln
    rw [List.length_drop] at this
    omega
  obtain ⟨pv, pk, hpr⟩ := parsed t htl
  have HPR := Lib.hid hpr
  have HLN := Lib.hid hln
  clear hln htl hpr
  have HRT := Lib.hid (show ∀ W, Calls Tryd.prog 15 #[.agg #[.int .i64 0, .string (bs t), .int .i64 0, .slice none 0 0], .int .i64 0] W (fun e w' => e = .returned (.bool true) ∧ Below W.heap.size W w') from fun W => by
    have h0 := refright_any 0 (by omega) (.mk 0 t 0 []) none 0 W (leaf_rep 0 W 0 t 0 ⟨by decide, by decide⟩ ⟨by decide, by decide⟩ HTM.out W (fun _ _ _ => rfl))
    rw [show right 0 (.mk 0 t 0 []) = true by simp [right, hcm0]] at h0
    exact h0)
  have H3 := Lib.hid (rest_at h)
  have hmx := h.len
  have hcap := h.bin.cap
  have hcm := h.bin.max
  have HH := Lib.hid h
  unfold maxLen at hcm
  clear h
  go_enter Tryd.func11, Tryd.ntmps11
  have hB0 : Below w.heap.size w (w.alloc (.cells #[.int .i64 0, .string ⟨#[]⟩, .int .i64 0, .slice none 0 0] 26)) := bA (Below.refl _ _) _
  have HBX0 := Lib.hid (heap_alloc_new w (.cells #[.int .i64 0, .string ⟨#[]⟩, .int .i64 0, .slice none 0 0] 26))
  go_wp2_with fail
  generalize w.alloc (.cells #[.int .i64 0, .string ⟨#[]⟩, .int .i64 0, .slice none 0 0] 26 (0, 0)) = wB at *
  go_loop [8] (fun s8 => ∃ e : Nat, a ≤ e ∧ e ≤ l.length ∧ s8 = .int .i64 e ∧ Hid (Scan l a e)) (fun s8 => l.length - (intOf s8).toNat)
  case atStart => exact ⟨a, Nat.le_refl _, ha, rfl, Lib.hid (scan_start l a)⟩
  case round =>
    obtain ⟨e, hae, hel, rfl, HS⟩ := hrel
    by_cases hlt : e + 1 < l.length
    · obtain ⟨x0, hx0⟩ : ∃ x0, l[e] = x0 := ⟨_, rfl⟩
      obtain ⟨x1, hx1⟩ : ∃ x1, l[e + 1] = x1 := ⟨_, rfl⟩
      have k0 := cell_below hB0 (H3.out e (by omega))
      have k1 := cell_below hB0 (H3.out (e + 1) hlt)
      rw [hx0] at k0
      rw [hx1] at k1
      have hdl : decide ((e : Int) + 1 < (l.length : Int)) = true := decide_eq_true (by omega)
      by_cases g13 : x0 = 13
      · by_cases g10 : x1 = 10
        · subst g13 g10
          have HX0 := Lib.hid hx0
          have HX1 := Lib.hid hx1
          clear hx0 hx1
          obtain ⟨he, hu, hr, hlen⟩ := line_where HS.out hae hlt HX0.out HX1.out HLN.out
          rw [List.length_cons] at he hu hr hlen
          have hge : decide ((l.length : Int) ≤ (e : Int) + 1) = false := decide_eq_false (by omega)
          have hea : ((e : Int) == (a : Int)) = false := beq_eq_false_iff_ne.2 (by omega)
          have hxa : l[a]'(by omega) = 43 := by
            have := congrArg (fun y => y[0]?) hu
            simp only [List.getElem?_cons_zero, List.getElem?_take_of_lt (show 0 < t.length + 1 by omega), List.getElem?_drop, Nat.add_zero] at this
            rw [List.getElem?_eq_getElem (by omega)] at this
            simpa using this.symm
          have hta : t = (l.drop (a + 1)).take (e - (a + 1)) := by
            have h1 : (l.drop a) = 43 :: l.drop (a + 1) := by rw [List.drop_eq_getElem_cons (by omega), hxa]
            rw [h1, List.take_succ_cons] at hu
            rw [show e - (a + 1) = t.length by omega]
            exact (List.cons.inj hu).2
          have hca : w.cell? ⟨b, o + a, none⟩ = some (.int .u8 43) := by rw [H3.out a (by omega), hxa]; rfl
          have HTL := Lib.hid (show t.length = e - (a + 1) by omega)
          have HEA := Lib.hid he
          have HR := Lib.hid hr
          have HLEN := Lib.hid hlen
          have hrl : e + 2 + r.length = l.length := by omega
          have HRL := Lib.hid hrl
          have HCV : Hid (∀ W, Below w.heap.size w W → (convert 22 9 (.slice (some ⟨b, o + (a + 1), none⟩) (e - (a + 1)) (c - (a + 1)))).run Tryd.prog W = .ok (.string (bs t)) W) := Lib.hid fun W hW => by
            rw [hta]
            refine convert_rest (l := l.drop (a + 1)) _ _ (by rw [List.length_drop]; omega) (fun j hj => ?_)
            rw [List.length_drop] at hj
            rw [List.getElem_drop, Nat.add_assoc]
            exact (hW.cell (p := ⟨b, o + (a + 1 + j), none⟩) (World.block_lt_of_cell? w _ (H3.out (a + 1 + j) (by omega)))).trans (H3.out (a + 1 + j) (by omega))
          have hck : (c = a + 1) = False := eq_false (by omega)
          have hle1 : a + 1 ≤ e := by omega
          have hec : e ≤ c := by omega
          have hlen9 : e + 2 ≤ l.length := by omega
          clear hxa hta hu hr hlen he hrl
          have hcv0 := HCV.out _ hB0
          go_wp2_with fail
          refine (HPR.out _).mono ?_
          rintro e9 w1 ⟨rfl, hb1⟩
          have hB1 : Below w.heap.size w w1 := bT hB0 hb1
          have HBX := Lib.hid (show w1.heap[w.heap.size]? = some (.cells #[.int .i64 0, .string ⟨#[]⟩, .int .i64 0, .slice none 0 0] 26 (0, 0)) from (hb1.block _ (Array.getElem?_eq_some_iff.1 HBX0.out).1).trans HBX0.out)
          have hcw := cell_below hB1 hca
          clear hcv0 hca
          have hcr := fun X => cell_below (bA (Below.refl w1.heap.size w1) X) hcw
          go_wp2_with fail
          refine (HRT.out _).mono ?_
          rintro e8 w2 ⟨rfl, hb2⟩
          have hnew := heap_alloc_new w1 (.cells #[.int .i64 0, .string (bs t), .int .i64 0, .slice none 0 0] 26)
          have hb12 : Below w1.heap.size w1 w2 := bT (bA (Below.refl _ _) _) hb2
          have hB2 := bT hB1 hb12
          have HBX2 := Lib.hid ((hb12.block _ (Array.getElem?_eq_some_iff.1 HBX.out).1).trans HBX.out)
          have hbr : w2.heap[w1.heap.size]? = some (.cells #[.int .i64 0, .string (bs t), .int .i64 0, .slice none 0 0] 26 (0, 0)) := (hb2.block _ (by simp)).trans hnew
          obtain ⟨y0, y1, y2, y3⟩ := cells4 hbr
          clear hnew hbr hb2 hcw hcr
          have hbx : (w2).heap[w.heap.size]? = some (.cells #[.int .i64 0, .string ⟨#[]⟩, .int .i64 0, .slice none 0 0] 26 (0, 0)) := HBX2.out
          obtain ⟨z0, z1, z2, z3⟩ := cells4 hbx
          have fz := frozen4 hbx
          go_wp2_with fail
          have hE := heap_set4 hbx (.int .i64 0) (.string (bs t)) (.int .i64 0) (.slice none 0 0)
          have HE : Below w.heap.size w (set4 (w2) w.heap.size (.int .i64 0) (.string (bs t)) (.int .i64 0) (.slice none 0 0)) := set4_below (hB2) (Nat.le_refl _) _ _ _ _
          show bodyPost _ _ _ _ _ (set4 (w2) w.heap.size (.int .i64 0) (.string (bs t)) (.int .i64 0) (.slice none 0 0))
          generalize set4 (w2) w.heap.size (.int .i64 0) (.string (bs t)) (.int .i64 0) (.slice none 0 0) = W at *
          obtain ⟨e0, e1, e2, e3⟩ := cells4 hE
          refine bodyPost_ret (v := .tuple #[.agg #[.int .i64 0, .string (bs t), .int .i64 0, .slice none 0 0], .int .i64 ((e : Int) + 2)]) (by simp [results, Tryd.results11, go_sem, e0, e1, e2, e3]) rfl ?_
          exact ⟨⟨none, 0, by rw [show ((l.length - r.length : Nat) : Int) = (e : Int) + 2 by have := HRL.out; omega]; rfl, leaf_rep _ _ _ _ _ ⟨by decide, by decide⟩ ⟨by decide, by decide⟩ HTM.out⟩, HE⟩
        · have hn : ((x1.toNat : Int) != 10) = true := byte_ne g10
          have HG := Lib.hid (fun (hh : l[e] = 13 ∧ l[e + 1] = 10) => g10 (hx1.symm.trans hh.2))
          have hsn := Lib.hid (HS.out.next hae hlt HG.out)
          subst g13
          clear hx0 hx1 g10
          go_wp2_with fail
          go_round
          case rel => exact ⟨e + 1, by omega, by omega, by go_num, hsn⟩
          case measure => simp [intOf]; omega
      · have hn : ((x0.toNat : Int) != 13) = true := byte_ne g13
        have hsn := Lib.hid (HS.out.next hae hlt (fun hh => g13 (hx0.symm.trans hh.1)))
        clear hx0 hx1 g13
        go_wp2_with fail
        go_round
        case rel => exact ⟨e + 1, by omega, by omega, by go_num, hsn⟩
        case measure => simp [intOf]; omega
    · have hdl : decide ((e : Int) + 1 < (l.length : Int)) = false := decide_eq_false (by omega)
      exfalso; have := HS.out.none hlt; rw [HLN.out] at this; cases this

set_option maxRecDepth 20000 in
set_option maxHeartbeats 4000000 in
theorem rr_43_false (l : List UInt8) (hl : l.length ≤ 1000000000) (a : Nat) (ha : a ≤ l.length) (t r : List UInt8) (hln : lineR (l.drop a) = some ((43 : UInt8) :: t, r)) (hcm0 : calm t = false) (D : Int) (b o c : Nat) (w : World) (h : Rest w (some ⟨b, o, none⟩) c l) :
    Calls Tryd.prog 11 #[.slice (some ⟨b, o, none⟩) l.length c, .int .i64 a, .int .i64 D] w fun e w' => RefV w.heap.size w' l.length e (none) ∧ Below w.heap.size w w' := by
  have HTM := Lib.hid (show t.length ≤ maxLen by
    have := lineR_len hln
    rw [List.length_drop] at this
    unfold maxLen
    omega)
  have htl : t.length ≤ 281474976710656 := by
    have := lineR_len hln
    rw [List.length_drop] at this
    omega
  obtain ⟨pv, pk, hpr⟩ := parsed t htl
  have HPR := Lib.hid hpr
  have HLN := Lib.hid hln
  clear hln htl hpr
  have HRT := Lib.hid (show ∀ W, Calls Tryd.prog 15 #[.agg #[.int .i64 0, .string (bs t), .int .i64 0, .slice none 0 0], .int .i64 0] W (fun e w' => e = .returned (.bool false) ∧ Below W.heap.size W w') from fun W => by
    have h0 := refright_any 0 (by omega) (.mk 0 t 0 []) none 0 W (leaf_rep 0 W 0 t 0 ⟨by decide, by decide⟩ ⟨by decide, by decide⟩ HTM.out W (fun _ _ _ => rfl))
    rw [show right 0 (.mk 0 t 0 []) = false by simp [right, hcm0]] at h0
    exact h0)
  have H3 := Lib.hid (rest_at h)
  have hmx := h.len
  have hcap := h.bin.cap
  have hcm := h.bin.max
  have HH := Lib.hid h
  unfold maxLen at hcm
  clear h
  go_enter Tryd.func11, Tryd.ntmps11
  have hB0 : Below w.heap.size w (w.alloc (.cells #[.int .i64 0, .string ⟨#[]⟩, .int .i64 0, .slice none 0 0] 26)) := bA (Below.refl _ _) _
  have HBX0 := Lib.hid (heap_alloc_new w (.cells #[.int .i64 0, .string ⟨#[]⟩, .int .i64 0, .slice none 0 0] 26))
  go_wp2_with fail
  generalize w.alloc (.cells #[.int .i64 0, .string ⟨#[]⟩, .int .i64 0, .slice none 0 0] 26 (0, 0)) = wB at *
  go_loop [8] (fun s8 => ∃ e : Nat, a ≤ e ∧ e ≤ l.length ∧ s8 = .int .i64 e ∧ Hid (Scan l a e)) (fun s8 => l.length - (intOf s8).toNat)
  case atStart => exact ⟨a, Nat.le_refl _, ha, rfl, Lib.hid (scan_start l a)⟩
  case round =>
    obtain ⟨e, hae, hel, rfl, HS⟩ := hrel
    by_cases hlt : e + 1 < l.length
    · obtain ⟨x0, hx0⟩ : ∃ x0, l[e] = x0 := ⟨_, rfl⟩
      obtain ⟨x1, hx1⟩ : ∃ x1, l[e + 1] = x1 := ⟨_, rfl⟩
      have k0 := cell_below hB0 (H3.out e (by omega))
      have k1 := cell_below hB0 (H3.out (e + 1) hlt)
      rw [hx0] at k0
      rw [hx1] at k1
      have hdl : decide ((e : Int) + 1 < (l.length : Int)) = true := decide_eq_true (by omega)
      by_cases g13 : x0 = 13
      · by_cases g10 : x1 = 10
        · subst g13 g10
          have HX0 := Lib.hid hx0
          have HX1 := Lib.hid hx1
          clear hx0 hx1
          obtain ⟨he, hu, hr, hlen⟩ := line_where HS.out hae hlt HX0.out HX1.out HLN.out
          rw [List.length_cons] at he hu hr hlen
          have hge : decide ((l.length : Int) ≤ (e : Int) + 1) = false := decide_eq_false (by omega)
          have hea : ((e : Int) == (a : Int)) = false := beq_eq_false_iff_ne.2 (by omega)
          have hxa : l[a]'(by omega) = 43 := by
            have := congrArg (fun y => y[0]?) hu
            simp only [List.getElem?_cons_zero, List.getElem?_take_of_lt (show 0 < t.length + 1 by omega), List.getElem?_drop, Nat.add_zero] at this
            rw [List.getElem?_eq_getElem (by omega)] at this
            simpa using this.symm
          have hta : t = (l.drop (a + 1)).take (e - (a + 1)) := by
            have h1 : (l.drop a) = 43 :: l.drop (a + 1) := by rw [List.drop_eq_getElem_cons (by omega), hxa]
            rw [h1, List.take_succ_cons] at hu
            rw [show e - (a + 1) = t.length by omega]
            exact (List.cons.inj hu).2
          have hca : w.cell? ⟨b, o + a, none⟩ = some (.int .u8 43) := by rw [H3.out a (by omega), hxa]; rfl
          have HTL := Lib.hid (show t.length = e - (a + 1) by omega)
          have HEA := Lib.hid he
          have HR := Lib.hid hr
          have HLEN := Lib.hid hlen
          have hrl : e + 2 + r.length = l.length := by omega
          have HRL := Lib.hid hrl
          have HCV : Hid (∀ W, Below w.heap.size w W → (convert 22 9 (.slice (some ⟨b, o + (a + 1), none⟩) (e - (a + 1)) (c - (a + 1)))).run Tryd.prog W = .ok (.string (bs t)) W) := Lib.hid fun W hW => by
            rw [hta]
            refine convert_rest (l := l.drop (a + 1)) _ _ (by rw [List.length_drop]; omega) (fun j hj => ?_)
            rw [List.length_drop] at hj
            rw [List.getElem_drop, Nat.add_assoc]
            exact (hW.cell (p := ⟨b, o + (a + 1 + j), none⟩) (World.block_lt_of_cell? w _ (H3.out (a + 1 + j) (by omega)))).trans (H3.out (a + 1 + j) (by omega))
          have hck : (c = a + 1) = False := eq_false (by omega)
          have hle1 : a + 1 ≤ e := by omega
          have hec : e ≤ c := by omega
          have hlen9 : e + 2 ≤ l.length := by omega
          clear hxa hta hu hr hlen he hrl
          have hcv0 := HCV.out _ hB0
          go_wp2_with fail
          refine (HPR.out _).mono ?_
          rintro e9 w1 ⟨rfl, hb1⟩
          have hB1 : Below w.heap.size w w1 := bT hB0 hb1
          have HBX := Lib.hid (show w1.heap[w.heap.size]? = some (.cells #[.int .i64 0, .string ⟨#[]⟩, .int .i64 0, .slice none 0 0] 26 (0, 0)) from (hb1.block _ (Array.getElem?_eq_some_iff.1 HBX0.out).1).trans HBX0.out)
          have hcw := cell_below hB1 hca
          clear hcv0 hca
          have hcr := fun X => cell_below (bA (Below.refl w1.heap.size w1) X) hcw
          go_wp2_with fail
          refine (HRT.out _).mono ?_
          rintro e8 w2 ⟨rfl, hb2⟩
          have hnew := heap_alloc_new w1 (.cells #[.int .i64 0, .string (bs t), .int .i64 0, .slice none 0 0] 26)
          have hb12 : Below w1.heap.size w1 w2 := bT (bA (Below.refl _ _) _) hb2
          have hB2 := bT hB1 hb12
          have HBX2 := Lib.hid ((hb12.block _ (Array.getElem?_eq_some_iff.1 HBX.out).1).trans HBX.out)
          have hbr : w2.heap[w1.heap.size]? = some (.cells #[.int .i64 0, .string (bs t), .int .i64 0, .slice none 0 0] 26 (0, 0)) := (hb2.block _ (by simp)).trans hnew
          obtain ⟨y0, y1, y2, y3⟩ := cells4 hbr
          clear hnew hbr hb2 hcw hcr
          have hbx : w2.heap[w.heap.size]? = some (.cells #[.int .i64 0, .string ⟨#[]⟩, .int .i64 0, .slice none 0 0] 26 (0, 0)) := HBX2.out
          obtain ⟨z0, z1, z2, z3⟩ := cells4 hbx
          have fz := frozen4 hbx
          go_wp2_with fail
          have hE := heap_set4 hbx (.int .i64 0) (.string ⟨#[]⟩) (.int .i64 0) (.slice none 0 0)
          have HE : Below w.heap.size w (set4 (w2) w.heap.size (.int .i64 0) (.string ⟨#[]⟩) (.int .i64 0) (.slice none 0 0)) := set4_below (hB2) (Nat.le_refl _) _ _ _ _
          show bodyPost _ _ _ _ _ (set4 (w2) w.heap.size (.int .i64 0) (.string ⟨#[]⟩) (.int .i64 0) (.slice none 0 0))
          generalize set4 (w2) w.heap.size (.int .i64 0) (.string ⟨#[]⟩) (.int .i64 0) (.slice none 0 0) = W at *
          obtain ⟨e0, e1, e2, e3⟩ := cells4 hE
          refine bodyPost_ret (v := .tuple #[.agg #[.int .i64 0, .string ⟨#[]⟩, .int .i64 0, .slice none 0 0], .int .i64 (-1)]) (by simp [results, Tryd.results11, go_sem, e0, e1, e2, e3]) rfl ?_
          exact ⟨rfl, HE⟩
        · have hn : ((x1.toNat : Int) != 10) = true := byte_ne g10
          have HG := Lib.hid (fun (hh : l[e] = 13 ∧ l[e + 1] = 10) => g10 (hx1.symm.trans hh.2))
          have hsn := Lib.hid (HS.out.next hae hlt HG.out)
          subst g13
          clear hx0 hx1 g10
          go_wp2_with fail
          go_round
          case rel => exact ⟨e + 1, by omega, by omega, by go_num, hsn⟩
          case measure => simp [intOf]; omega
      · have hn : ((x0.toNat : Int) != 13) = true := byte_ne g13
        have hsn := Lib.hid (HS.out.next hae hlt (fun hh => g13 (hx0.symm.trans hh.1)))
        clear hx0 hx1 g13
        go_wp2_with fail
        go_round
        case rel => exact ⟨e + 1, by omega, by omega, by go_num, hsn⟩
        case measure => simp [intOf]; omega
    · have hdl : decide ((e : Int) + 1 < (l.length : Int)) = false := decide_eq_false (by omega)
      exfalso; have := HS.out.none hlt; rw [HLN.out] at this; cases this

set_option maxRecDepth 20000 in
set_option maxHeartbeats 4000000 in
theorem rr_45_true (l : List UInt8) (hl : l.length ≤ 1000000000) (a : Nat) (ha : a ≤ l.length) (t r : List UInt8) (hln : lineR (l.drop a) = some ((45 : UInt8) :: t, r)) (hcm0 : calm t = true) (D : Int) (b o c : Nat) (w : World) (h : Rest w (some ⟨b, o, none⟩) c l) :
    Calls Tryd.prog 11 #[.slice (some ⟨b, o, none⟩) l.length c, .int .i64 a, .int .i64 D] w fun e w' => RefV w.heap.size w' l.length e (some (.mk 1 t 0 [], r)) ∧ Below w.heap.size w w' := by
  have HTM := Lib.hid (show t.length ≤ maxLen by
    have := lineR_len hln
    rw [List.length_drop] at this
    unfold maxLen
    omega)
  have htl : t.length ≤ 281474976710656 := by
    have := lineR_len hln
    rw [List.length_drop] at this
    omega
  obtain ⟨pv, pk, hpr⟩ := parsed t htl
  have HPR := Lib.hid hpr
  have HLN := Lib.hid hln
  clear hln htl hpr
  have HRT := Lib.hid (show ∀ W, Calls Tryd.prog 15 #[.agg #[.int .i64 1, .string (bs t), .int .i64 0, .slice none 0 0], .int .i64 0] W (fun e w' => e = .returned (.bool true) ∧ Below W.heap.size W w') from fun W => by
    have h0 := refright_any 0 (by omega) (.mk 1 t 0 []) none 0 W (leaf_rep 0 W 1 t 0 ⟨by decide, by decide⟩ ⟨by decide, by decide⟩ HTM.out W (fun _ _ _ => rfl))
    rw [show right 0 (.mk 1 t 0 []) = true by simp [right, hcm0]] at h0
    exact h0)
  have H3 := Lib.hid (rest_at h)
  have hmx := h.len
  have hcap := h.bin.cap
  have hcm := h.bin.max
  have HH := Lib.hid h
  unfold maxLen at hcm
  clear h
  go_enter Tryd.func11, Tryd.ntmps11
  have hB0 : Below w.heap.size w (w.alloc (.cells #[.int .i64 0, .string ⟨#[]⟩, .int .i64 0, .slice none 0 0] 26)) := bA (Below.refl _ _) _
  have HBX0 := Lib.hid (heap_alloc_new w (.cells #[.int .i64 0, .string ⟨#[]⟩, .int .i64 0, .slice none 0 0] 26))
  go_wp2_with fail
  generalize w.alloc (.cells #[.int .i64 0, .string ⟨#[]⟩, .int .i64 0, .slice none 0 0] 26 (0, 0)) = wB at *
  go_loop [8] (fun s8 => ∃ e : Nat, a ≤ e ∧ e ≤ l.length ∧ s8 = .int .i64 e ∧ Hid (Scan l a e)) (fun s8 => l.length - (intOf s8).toNat)
  case atStart => exact ⟨a, Nat.le_refl _, ha, rfl, Lib.hid (scan_start l a)⟩
  case round =>
    obtain ⟨e, hae, hel, rfl, HS⟩ := hrel
    by_cases hlt : e + 1 < l.length
    · obtain ⟨x0, hx0⟩ : ∃ x0, l[e] = x0 := ⟨_, rfl⟩
      obtain ⟨x1, hx1⟩ : ∃ x1, l[e + 1] = x1 := ⟨_, rfl⟩
      have k0 := cell_below hB0 (H3.out e (by omega))
      have k1 := cell_below hB0 (H3.out (e + 1) hlt)
      rw [hx0] at k0
      rw [hx1] at k1
      have hdl : decide ((e : Int) + 1 < (l.length : Int)) = true := decide_eq_true (by omega)
      by_cases g13 : x0 = 13
      · by_cases g10 : x1 = 10
        · subst g13 g10
          have HX0 := Lib.hid hx0
          have HX1 := Lib.hid hx1
          clear hx0 hx1
          obtain ⟨he, hu, hr, hlen⟩ := line_where HS.out hae hlt HX0.out HX1.out HLN.out
          rw [List.length_cons] at he hu hr hlen
          have hge : decide ((l.length : Int) ≤ (e : Int) + 1) = false := decide_eq_false (by omega)
          have hea : ((e : Int) == (a : Int)) = false := beq_eq_false_iff_ne.2 (by omega)
          have hxa : l[a]'(by omega) = 45 := by
            have := congrArg (fun y => y[0]?) hu
            simp only [List.getElem?_cons_zero, List.getElem?_take_of_lt (show 0 < t.length + 1 by omega), List.getElem?_drop, Nat.add_zero] at this
            rw [List.getElem?_eq_getElem (by omega)] at this
            simpa using this.symm
          have hta : t = (l.drop (a + 1)).take (e - (a + 1)) := by
            have h1 : (l.drop a) = 45 :: l.drop (a + 1) := by rw [List.drop_eq_getElem_cons (by omega), hxa]
            rw [h1, List.take_succ_cons] at hu
            rw [show e - (a + 1) = t.length by omega]
            exact (List.cons.inj hu).2
          have hca : w.cell? ⟨b, o + a, none⟩ = some (.int .u8 45) := by rw [H3.out a (by omega), hxa]; rfl
          have HTL := Lib.hid (show t.length = e - (a + 1) by omega)
          have HEA := Lib.hid he
          have HR := Lib.hid hr
          have HLEN := Lib.hid hlen
          have hrl : e + 2 + r.length = l.length := by omega
          have HRL := Lib.hid hrl
          have HCV : Hid (∀ W, Below w.heap.size w W → (convert 22 9 (.slice (some ⟨b, o + (a + 1), none⟩) (e - (a + 1)) (c - (a + 1)))).run Tryd.prog W = .ok (.string (bs t)) W) := Lib.hid fun W hW => by
            rw [hta]
            refine convert_rest (l := l.drop (a + 1)) _ _ (by rw [List.length_drop]; omega) (fun j hj => ?_)
            rw [List.length_drop] at hj
            rw [List.getElem_drop, Nat.add_assoc]
            exact (hW.cell (p := ⟨b, o + (a + 1 + j), none⟩) (World.block_lt_of_cell? w _ (H3.out (a + 1 + j) (by omega)))).trans (H3.out (a + 1 + j) (by omega))
          have hck : (c = a + 1) = False := eq_false (by omega)
          have hle1 : a + 1 ≤ e := by omega
          have hec : e ≤ c := by omega
          have hlen9 : e + 2 ≤ l.length := by omega
          clear hxa hta hu hr hlen he hrl
          have hcv0 := HCV.out _ hB0
          go_wp2_with fail
          refine (HPR.out _).mono ?_
          rintro e9 w1 ⟨rfl, hb1⟩
          have hB1 : Below w.heap.size w w1 := bT hB0 hb1
          have HBX := Lib.hid (show w1.heap[w.heap.size]? = some (.cells #[.int .i64 0, .string ⟨#[]⟩, .int .i64 0, .slice none 0 0] 26 (0, 0)) from (hb1.block _ (Array.getElem?_eq_some_iff.1 HBX0.out).1).trans HBX0.out)
          have hcw := cell_below hB1 hca
          clear hcv0 hca
          have hcr := fun X => cell_below (bA (Below.refl w1.heap.size w1) X) hcw
          go_wp2_with fail
          refine (HRT.out _).mono ?_
          rintro e8 w2 ⟨rfl, hb2⟩
          have hnew := heap_alloc_new w1 (.cells #[.int .i64 1, .string (bs t), .int .i64 0, .slice none 0 0] 26)
          have hb12 : Below w1.heap.size w1 w2 := bT (bA (Below.refl _ _) _) hb2
          have hB2 := bT hB1 hb12
          have HBX2 := Lib.hid ((hb12.block _ (Array.getElem?_eq_some_iff.1 HBX.out).1).trans HBX.out)
          have hbr : w2.heap[w1.heap.size]? = some (.cells #[.int .i64 1, .string (bs t), .int .i64 0, .slice none 0 0] 26 (0, 0)) := (hb2.block _ (by simp)).trans hnew
          obtain ⟨y0, y1, y2, y3⟩ := cells4 hbr
          clear hnew hbr hb2 hcw hcr
          have hbx : (w2).heap[w.heap.size]? = some (.cells #[.int .i64 0, .string ⟨#[]⟩, .int .i64 0, .slice none 0 0] 26 (0, 0)) := HBX2.out
          obtain ⟨z0, z1, z2, z3⟩ := cells4 hbx
          have fz := frozen4 hbx
          go_wp2_with fail
          have hE := heap_set4 hbx (.int .i64 1) (.string (bs t)) (.int .i64 0) (.slice none 0 0)
          have HE : Below w.heap.size w (set4 (w2) w.heap.size (.int .i64 1) (.string (bs t)) (.int .i64 0) (.slice none 0 0)) := set4_below (hB2) (Nat.le_refl _) _ _ _ _
          show bodyPost _ _ _ _ _ (set4 (w2) w.heap.size (.int .i64 1) (.string (bs t)) (.int .i64 0) (.slice none 0 0))
          generalize set4 (w2) w.heap.size (.int .i64 1) (.string (bs t)) (.int .i64 0) (.slice none 0 0) = W at *
          obtain ⟨e0, e1, e2, e3⟩ := cells4 hE
          refine bodyPost_ret (v := .tuple #[.agg #[.int .i64 1, .string (bs t), .int .i64 0, .slice none 0 0], .int .i64 ((e : Int) + 2)]) (by simp [results, Tryd.results11, go_sem, e0, e1, e2, e3]) rfl ?_
          exact ⟨⟨none, 0, by rw [show ((l.length - r.length : Nat) : Int) = (e : Int) + 2 by have := HRL.out; omega]; rfl, leaf_rep _ _ _ _ _ ⟨by decide, by decide⟩ ⟨by decide, by decide⟩ HTM.out⟩, HE⟩
        · have hn : ((x1.toNat : Int) != 10) = true := byte_ne g10
          have HG := Lib.hid (fun (hh : l[e] = 13 ∧ l[e + 1] = 10) => g10 (hx1.symm.trans hh.2))
          have hsn := Lib.hid (HS.out.next hae hlt HG.out)
          subst g13
          clear hx0 hx1 g10
          go_wp2_with fail
          go_round
          case rel => exact ⟨e + 1, by omega, by omega, by go_num, hsn⟩
          case measure => simp [intOf]; omega
      · have hn : ((x0.toNat : Int) != 13) = true := byte_ne g13
        have hsn := Lib.hid (HS.out.next hae hlt (fun hh => g13 (hx0.symm.trans hh.1)))
        clear hx0 hx1 g13
        go_wp2_with fail
        go_round
        case rel => exact ⟨e + 1, by omega, by omega, by go_num, hsn⟩
        case measure => simp [intOf]; omega
    · have hdl : decide ((e : Int) + 1 < (l.length : Int)) = false := decide_eq_false (by omega)
      exfalso; have := HS.out.none hlt; rw [HLN.out] at this; cases this

set_option maxRecDepth 20000 in
set_option maxHeartbeats 4000000 in
theorem rr_45_false (l : List UInt8) (hl : l.length ≤ 1000000000) (a : Nat) (ha : a ≤ l.length) (t r : List UInt8) (hln : lineR (l.drop a) = some ((45 : UInt8) :: t, r)) (hcm0 : calm t = false) (D : Int) (b o c : Nat) (w : World) (h : Rest w (some ⟨b, o, none⟩) c l) :
    Calls Tryd.prog 11 #[.slice (some ⟨b, o, none⟩) l.length c, .int .i64 a, .int .i64 D] w fun e w' => RefV w.heap.size w' l.length e (none) ∧ Below w.heap.size w w' := by
  have HTM := Lib.hid (show t.length ≤ maxLen by
    have := lineR_len hln
    rw [List.length_drop] at this
    unfold maxLen
    omega)
  have htl : t.length ≤ 281474976710656 := by
    have := lineR_len hln
    rw [List.length_drop] at this
    omega
  obtain ⟨pv, pk, hpr⟩ := parsed t htl
  have HPR := Lib.hid hpr
  have HLN := Lib.hid hln
  clear hln htl hpr
  have HRT := Lib.hid (show ∀ W, Calls Tryd.prog 15 #[.agg #[.int .i64 1, .string (bs t), .int .i64 0, .slice none 0 0], .int .i64 0] W (fun e w' => e = .returned (.bool false) ∧ Below W.heap.size W w') from fun W => by
    have h0 := refright_any 0 (by omega) (.mk 1 t 0 []) none 0 W (leaf_rep 0 W 1 t 0 ⟨by decide, by decide⟩ ⟨by decide, by decide⟩ HTM.out W (fun _ _ _ => rfl))
    rw [show right 0 (.mk 1 t 0 []) = false by simp [right, hcm0]] at h0
    exact h0)
  have H3 := Lib.hid (rest_at h)
  have hmx := h.len
  have hcap := h.bin.cap
  have hcm := h.bin.max
  have HH := Lib.hid h
  unfold maxLen at hcm
  clear h
  go_enter Tryd.func11, Tryd.ntmps11
  have hB0 : Below w.heap.size w (w.alloc (.cells #[.int .i64 0, .string ⟨#[]⟩, .int .i64 0, .slice none 0 0] 26)) := bA (Below.refl _ _) _
  have HBX0 := Lib.hid (heap_alloc_new w (.cells #[.int .i64 0, .string ⟨#[]⟩, .int .i64 0, .slice none 0 0] 26))
  go_wp2_with fail
  generalize w.alloc (.cells #[.int .i64 0, .string ⟨#[]⟩, .int .i64 0, .slice none 0 0] 26 (0, 0)) = wB at *
  go_loop [8] (fun s8 => ∃ e : Nat, a ≤ e ∧ e ≤ l.length ∧ s8 = .int .i64 e ∧ Hid (Scan l a e)) (fun s8 => l.length - (intOf s8).toNat)
  case atStart => exact ⟨a, Nat.le_refl _, ha, rfl, Lib.hid (scan_start l a)⟩
  case round =>
    obtain ⟨e, hae, hel, rfl, HS⟩ := hrel
    by_cases hlt : e + 1 < l.length
    · obtain ⟨x0, hx0⟩ : ∃ x0, l[e] = x0 := ⟨_, rfl⟩
      obtain ⟨x1, hx1⟩ : ∃ x1, l[e + 1] = x1 := ⟨_, rfl⟩
      have k0 := cell_below hB0 (H3.out e (by omega))
      have k1 := cell_below hB0 (H3.out (e + 1) hlt)
      rw [hx0] at k0
      rw [hx1] at k1
      have hdl : decide ((e : Int) + 1 < (l.length : Int)) = true := decide_eq_true (by omega)
      by_cases g13 : x0 = 13
      · by_cases g10 : x1 = 10
        · subst g13 g10
          have HX0 := Lib.hid hx0
          have HX1 := Lib.hid hx1
          clear hx0 hx1
          obtain ⟨he, hu, hr, hlen⟩ := line_where HS.out hae hlt HX0.out HX1.out HLN.out
          rw [List.length_cons] at he hu hr hlen
          have hge : decide ((l.length : Int) ≤ (e : Int) + 1) = false := decide_eq_false (by omega)
          have hea : ((e : Int) == (a : Int)) = false := beq_eq_false_iff_ne.2 (by omega)
          have hxa : l[a]'(by omega) = 45 := by
            have := congrArg (fun y => y[0]?) hu
            simp only [List.getElem?_cons_zero, List.getElem?_take_of_lt (show 0 < t.length + 1 by omega), List.getElem?_drop, Nat.add_zero] at this
            rw [List.getElem?_eq_getElem (by omega)] at this
            simpa using this.symm
          have hta : t = (l.drop (a + 1)).take (e - (a + 1)) := by
            have h1 : (l.drop a) = 45 :: l.drop (a + 1) := by rw [List.drop_eq_getElem_cons (by omega), hxa]
            rw [h1, List.take_succ_cons] at hu
            rw [show e - (a + 1) = t.length by omega]
            exact (List.cons.inj hu).2
          have hca : w.cell? ⟨b, o + a, none⟩ = some (.int .u8 45) := by rw [H3.out a (by omega), hxa]; rfl
          have HTL := Lib.hid (show t.length = e - (a + 1) by omega)
          have HEA := Lib.hid he
          have HR := Lib.hid hr
          have HLEN := Lib.hid hlen
          have hrl : e + 2 + r.length = l.length := by omega
          have HRL := Lib.hid hrl
          have HCV : Hid (∀ W, Below w.heap.size w W → (convert 22 9 (.slice (some ⟨b, o + (a + 1), none⟩) (e - (a + 1)) (c - (a + 1)))).run Tryd.prog W = .ok (.string (bs t)) W) := Lib.hid fun W hW => by
            rw [hta]
            refine convert_rest (l := l.drop (a + 1)) _ _ (by rw [List.length_drop]; omega) (fun j hj => ?_)
            rw [List.length_drop] at hj
            rw [List.getElem_drop, Nat.add_assoc]
            exact (hW.cell (p := ⟨b, o + (a + 1 + j), none⟩) (World.block_lt_of_cell? w _ (H3.out (a + 1 + j) (by omega)))).trans (H3.out (a + 1 + j) (by omega))
          have hck : (c = a + 1) = False := eq_false (by omega)
          have hle1 : a + 1 ≤ e := by omega
          have hec : e ≤ c := by omega
          have hlen9 : e + 2 ≤ l.length := by omega
          clear hxa hta hu hr hlen he hrl
          have hcv0 := HCV.out _ hB0
          go_wp2_with fail
          refine (HPR.out _).mono ?_
          rintro e9 w1 ⟨rfl, hb1⟩
          have hB1 : Below w.heap.size w w1 := bT hB0 hb1
          have HBX := Lib.hid (show w1.heap[w.heap.size]? = some (.cells #[.int .i64 0, .string ⟨#[]⟩, .int .i64 0, .slice none 0 0] 26 (0, 0)) from (hb1.block _ (Array.getElem?_eq_some_iff.1 HBX0.out).1).trans HBX0.out)
          have hcw := cell_below hB1 hca
          clear hcv0 hca
          have hcr := fun X => cell_below (bA (Below.refl w1.heap.size w1) X) hcw
          go_wp2_with fail
          refine (HRT.out _).mono ?_
          rintro e8 w2 ⟨rfl, hb2⟩
          have hnew := heap_alloc_new w1 (.cells #[.int .i64 1, .string (bs t), .int .i64 0, .slice none 0 0] 26)
          have hb12 : Below w1.heap.size w1 w2 := bT (bA (Below.refl _ _) _) hb2
          have hB2 := bT hB1 hb12
          have HBX2 := Lib.hid ((hb12.block _ (Array.getElem?_eq_some_iff.1 HBX.out).1).trans HBX.out)
          have hbr : w2.heap[w1.heap.size]? = some (.cells #[.int .i64 1, .string (bs t), .int .i64 0, .slice none 0 0] 26 (0, 0)) := (hb2.block _ (by simp)).trans hnew
          obtain ⟨y0, y1, y2, y3⟩ := cells4 hbr
          clear hnew hbr hb2 hcw hcr
          have hbx : w2.heap[w.heap.size]? = some (.cells #[.int .i64 0, .string ⟨#[]⟩, .int .i64 0, .slice none 0 0] 26 (0, 0)) := HBX2.out
          obtain ⟨z0, z1, z2, z3⟩ := cells4 hbx
          have fz := frozen4 hbx
          go_wp2_with fail
          have hE := heap_set4 hbx (.int .i64 0) (.string ⟨#[]⟩) (.int .i64 0) (.slice none 0 0)
          have HE : Below w.heap.size w (set4 (w2) w.heap.size (.int .i64 0) (.string ⟨#[]⟩) (.int .i64 0) (.slice none 0 0)) := set4_below (hB2) (Nat.le_refl _) _ _ _ _
          show bodyPost _ _ _ _ _ (set4 (w2) w.heap.size (.int .i64 0) (.string ⟨#[]⟩) (.int .i64 0) (.slice none 0 0))
          generalize set4 (w2) w.heap.size (.int .i64 0) (.string ⟨#[]⟩) (.int .i64 0) (.slice none 0 0) = W at *
          obtain ⟨e0, e1, e2, e3⟩ := cells4 hE
          refine bodyPost_ret (v := .tuple #[.agg #[.int .i64 0, .string ⟨#[]⟩, .int .i64 0, .slice none 0 0], .int .i64 (-1)]) (by simp [results, Tryd.results11, go_sem, e0, e1, e2, e3]) rfl ?_
          exact ⟨rfl, HE⟩
        · have hn : ((x1.toNat : Int) != 10) = true := byte_ne g10
          have HG := Lib.hid (fun (hh : l[e] = 13 ∧ l[e + 1] = 10) => g10 (hx1.symm.trans hh.2))
          have hsn := Lib.hid (HS.out.next hae hlt HG.out)
          subst g13
          clear hx0 hx1 g10
          go_wp2_with fail
          go_round
          case rel => exact ⟨e + 1, by omega, by omega, by go_num, hsn⟩
          case measure => simp [intOf]; omega
      · have hn : ((x0.toNat : Int) != 13) = true := byte_ne g13
        have hsn := Lib.hid (HS.out.next hae hlt (fun hh => g13 (hx0.symm.trans hh.1)))
        clear hx0 hx1 g13
        go_wp2_with fail
        go_round
        case rel => exact ⟨e + 1, by omega, by omega, by go_num, hsn⟩
        case measure => simp [intOf]; omega
    · have hdl : decide ((e : Int) + 1 < (l.length : Int)) = false := decide_eq_false (by omega)
      exfalso; have := HS.out.none hlt; rw [HLN.out] at this; cases this

set_option maxRecDepth 20000 in
set_option maxHeartbeats 4000000 in
theorem rr_58_none (l : List UInt8) (hl : l.length ≤ 1000000000) (a : Nat) (ha : a ≤ l.length) (t r : List UInt8) (hln : lineR (l.drop a) = some ((58 : UInt8) :: t, r)) (hp : parseL t = none) (D : Int) (b o c : Nat) (w : World) (h : Rest w (some ⟨b, o, none⟩) c l) :
    Calls Tryd.prog 11 #[.slice (some ⟨b, o, none⟩) l.length c, .int .i64 a, .int .i64 D] w fun e w' => RefV w.heap.size w' l.length e (none) ∧ Below w.heap.size w w' := by
  have htl : t.length ≤ 281474976710656 := by
    have := lineR_len hln
    rw [List.length_drop] at this
    omega
  have HPR := Lib.hid (fun W => refparse_any t htl W)
  rw [hp] at HPR
  have HLN := Lib.hid hln
  have HP := Lib.hid hp
  clear hln hp htl
  have H3 := Lib.hid (rest_at h)
  have hmx := h.len
  have hcap := h.bin.cap
  have hcm := h.bin.max
  have HH := Lib.hid h
  unfold maxLen at hcm
  clear h
  go_enter Tryd.func11, Tryd.ntmps11
  have hB0 : Below w.heap.size w (w.alloc (.cells #[.int .i64 0, .string ⟨#[]⟩, .int .i64 0, .slice none 0 0] 26)) := bA (Below.refl _ _) _
  have HBX0 := Lib.hid (heap_alloc_new w (.cells #[.int .i64 0, .string ⟨#[]⟩, .int .i64 0, .slice none 0 0] 26))
  go_wp2_with fail
  generalize w.alloc (.cells #[.int .i64 0, .string ⟨#[]⟩, .int .i64 0, .slice none 0 0] 26 (0, 0)) = wB at *
  go_loop [8] (fun s8 => ∃ e : Nat, a ≤ e ∧ e ≤ l.length ∧ s8 = .int .i64 e ∧ Hid (Scan l a e)) (fun s8 => l.length - (intOf s8).toNat)
  case atStart => exact ⟨a, Nat.le_refl _, ha, rfl, Lib.hid (scan_start l a)⟩
  case round =>
    obtain ⟨e, hae, hel, rfl, HS⟩ := hrel
    by_cases hlt : e + 1 < l.length
    · obtain ⟨x0, hx0⟩ : ∃ x0, l[e] = x0 := ⟨_, rfl⟩
      obtain ⟨x1, hx1⟩ : ∃ x1, l[e + 1] = x1 := ⟨_, rfl⟩
      have k0 := cell_below hB0 (H3.out e (by omega))
      have k1 := cell_below hB0 (H3.out (e + 1) hlt)
      rw [hx0] at k0
      rw [hx1] at k1
      have hdl : decide ((e : Int) + 1 < (l.length : Int)) = true := decide_eq_true (by omega)
      by_cases g13 : x0 = 13
      · by_cases g10 : x1 = 10
        · subst g13 g10
          have HX0 := Lib.hid hx0
          have HX1 := Lib.hid hx1
          clear hx0 hx1
          obtain ⟨he, hu, hr, hlen⟩ := line_where HS.out hae hlt HX0.out HX1.out HLN.out
          rw [List.length_cons] at he hu hr hlen
          have hge : decide ((l.length : Int) ≤ (e : Int) + 1) = false := decide_eq_false (by omega)
          have hea : ((e : Int) == (a : Int)) = false := beq_eq_false_iff_ne.2 (by omega)
          have hxa : l[a]'(by omega) = 58 := by
            have := congrArg (fun y => y[0]?) hu
            simp only [List.getElem?_cons_zero, List.getElem?_take_of_lt (show 0 < t.length + 1 by omega), List.getElem?_drop, Nat.add_zero] at this
            rw [List.getElem?_eq_getElem (by omega)] at this
            simpa using this.symm
          have hta : t = (l.drop (a + 1)).take (e - (a + 1)) := by
            have h1 : (l.drop a) = 58 :: l.drop (a + 1) := by rw [List.drop_eq_getElem_cons (by omega), hxa]
            rw [h1, List.take_succ_cons] at hu
            rw [show e - (a + 1) = t.length by omega]
            exact (List.cons.inj hu).2
          have hca : w.cell? ⟨b, o + a, none⟩ = some (.int .u8 58) := by rw [H3.out a (by omega), hxa]; rfl
          have HTL := Lib.hid (show t.length = e - (a + 1) by omega)
          have HEA := Lib.hid he
          have HR := Lib.hid hr
          have HLEN := Lib.hid hlen
          have hrl : e + 2 + r.length = l.length := by omega
          have HRL := Lib.hid hrl
          have HCV : Hid (∀ W, Below w.heap.size w W → (convert 22 9 (.slice (some ⟨b, o + (a + 1), none⟩) (e - (a + 1)) (c - (a + 1)))).run Tryd.prog W = .ok (.string (bs t)) W) := Lib.hid fun W hW => by
            rw [hta]
            refine convert_rest (l := l.drop (a + 1)) _ _ (by rw [List.length_drop]; omega) (fun j hj => ?_)
            rw [List.length_drop] at hj
            rw [List.getElem_drop, Nat.add_assoc]
            exact (hW.cell (p := ⟨b, o + (a + 1 + j), none⟩) (World.block_lt_of_cell? w _ (H3.out (a + 1 + j) (by omega)))).trans (H3.out (a + 1 + j) (by omega))
          have hck : (c = a + 1) = False := eq_false (by omega)
          have hle1 : a + 1 ≤ e := by omega
          have hec : e ≤ c := by omega
          have hlen9 : e + 2 ≤ l.length := by omega
          clear hxa hta hu hr hlen he hrl
          have hcv0 := HCV.out _ hB0
          go_wp2_with fail
          refine (HPR.out _).mono ?_
          rintro e9 w1 ⟨rfl, hb1⟩
          have hB1 : Below w.heap.size w w1 := bT hB0 hb1
          have HBX := Lib.hid (show w1.heap[w.heap.size]? = some (.cells #[.int .i64 0, .string ⟨#[]⟩, .int .i64 0, .slice none 0 0] 26 (0, 0)) from (hb1.block _ (Array.getElem?_eq_some_iff.1 HBX0.out).1).trans HBX0.out)
          have hcw := cell_below hB1 hca
          clear hcv0 hca
          have hbx : w1.heap[w.heap.size]? = some (.cells #[.int .i64 0, .string ⟨#[]⟩, .int .i64 0, .slice none 0 0] 26 (0, 0)) := HBX.out
          obtain ⟨z0, z1, z2, z3⟩ := cells4 hbx
          have fz := frozen4 hbx
          go_wp2_with fail
          have hE := heap_set4 hbx (.int .i64 0) (.string ⟨#[]⟩) (.int .i64 0) (.slice none 0 0)
          have HE : Below w.heap.size w (set4 (w1) w.heap.size (.int .i64 0) (.string ⟨#[]⟩) (.int .i64 0) (.slice none 0 0)) := set4_below (hB1) (Nat.le_refl _) _ _ _ _
          show bodyPost _ _ _ _ _ (set4 (w1) w.heap.size (.int .i64 0) (.string ⟨#[]⟩) (.int .i64 0) (.slice none 0 0))
          generalize set4 (w1) w.heap.size (.int .i64 0) (.string ⟨#[]⟩) (.int .i64 0) (.slice none 0 0) = W at *
          obtain ⟨e0, e1, e2, e3⟩ := cells4 hE
          refine bodyPost_ret (v := .tuple #[.agg #[.int .i64 0, .string ⟨#[]⟩, .int .i64 0, .slice none 0 0], .int .i64 (-1)]) (by simp [results, Tryd.results11, go_sem, e0, e1, e2, e3]) rfl ?_
          exact ⟨rfl, HE⟩
        · have hn : ((x1.toNat : Int) != 10) = true := byte_ne g10
          have HG := Lib.hid (fun (hh : l[e] = 13 ∧ l[e + 1] = 10) => g10 (hx1.symm.trans hh.2))
          have hsn := Lib.hid (HS.out.next hae hlt HG.out)
          subst g13
          clear hx0 hx1 g10
          go_wp2_with fail
          go_round
          case rel => exact ⟨e + 1, by omega, by omega, by go_num, hsn⟩
          case measure => simp [intOf]; omega
      · have hn : ((x0.toNat : Int) != 13) = true := byte_ne g13
        have hsn := Lib.hid (HS.out.next hae hlt (fun hh => g13 (hx0.symm.trans hh.1)))
        clear hx0 hx1 g13
        go_wp2_with fail
        go_round
        case rel => exact ⟨e + 1, by omega, by omega, by go_num, hsn⟩
        case measure => simp [intOf]; omega
    · have hdl : decide ((e : Int) + 1 < (l.length : Int)) = false := decide_eq_false (by omega)
      exfalso; have := HS.out.none hlt; rw [HLN.out] at this; cases this

set_option maxRecDepth 20000 in
set_option maxHeartbeats 4000000 in
theorem rr_58_some (l : List UInt8) (hl : l.length ≤ 1000000000) (a : Nat) (ha : a ≤ l.length) (t r : List UInt8) (hln : lineR (l.drop a) = some ((58 : UInt8) :: t, r)) (n : Int) (hp : parseL t = some n) (D : Int) (b o c : Nat) (w : World) (h : Rest w (some ⟨b, o, none⟩) c l) :
    Calls Tryd.prog 11 #[.slice (some ⟨b, o, none⟩) l.length c, .int .i64 a, .int .i64 D] w fun e w' => RefV w.heap.size w' l.length e (some (.mk 2 [] n [], r)) ∧ Below w.heap.size w w' := by
  have htl : t.length ≤ 281474976710656 := by
    have := lineR_len hln
    rw [List.length_drop] at this
    omega
  have HPR := Lib.hid (fun W => refparse_any t htl W)
  rw [hp] at HPR
  have HLN := Lib.hid hln
  have HP := Lib.hid hp
  clear hln hp htl
  have H3 := Lib.hid (rest_at h)
  have hmx := h.len
  have hcap := h.bin.cap
  have hcm := h.bin.max
  have HH := Lib.hid h
  unfold maxLen at hcm
  clear h
  go_enter Tryd.func11, Tryd.ntmps11
  have hB0 : Below w.heap.size w (w.alloc (.cells #[.int .i64 0, .string ⟨#[]⟩, .int .i64 0, .slice none 0 0] 26)) := bA (Below.refl _ _) _
  have HBX0 := Lib.hid (heap_alloc_new w (.cells #[.int .i64 0, .string ⟨#[]⟩, .int .i64 0, .slice none 0 0] 26))
  go_wp2_with fail
  generalize w.alloc (.cells #[.int .i64 0, .string ⟨#[]⟩, .int .i64 0, .slice none 0 0] 26 (0, 0)) = wB at *
  go_loop [8] (fun s8 => ∃ e : Nat, a ≤ e ∧ e ≤ l.length ∧ s8 = .int .i64 e ∧ Hid (Scan l a e)) (fun s8 => l.length - (intOf s8).toNat)
  case atStart => exact ⟨a, Nat.le_refl _, ha, rfl, Lib.hid (scan_start l a)⟩
  case round =>
    obtain ⟨e, hae, hel, rfl, HS⟩ := hrel
    by_cases hlt : e + 1 < l.length
    · obtain ⟨x0, hx0⟩ : ∃ x0, l[e] = x0 := ⟨_, rfl⟩
      obtain ⟨x1, hx1⟩ : ∃ x1, l[e + 1] = x1 := ⟨_, rfl⟩
      have k0 := cell_below hB0 (H3.out e (by omega))
      have k1 := cell_below hB0 (H3.out (e + 1) hlt)
      rw [hx0] at k0
      rw [hx1] at k1
      have hdl : decide ((e : Int) + 1 < (l.length : Int)) = true := decide_eq_true (by omega)
      by_cases g13 : x0 = 13
      · by_cases g10 : x1 = 10
        · subst g13 g10
          have HX0 := Lib.hid hx0
          have HX1 := Lib.hid hx1
          clear hx0 hx1
          obtain ⟨he, hu, hr, hlen⟩ := line_where HS.out hae hlt HX0.out HX1.out HLN.out
          rw [List.length_cons] at he hu hr hlen
          have hge : decide ((l.length : Int) ≤ (e : Int) + 1) = false := decide_eq_false (by omega)
          have hea : ((e : Int) == (a : Int)) = false := beq_eq_false_iff_ne.2 (by omega)
          have hxa : l[a]'(by omega) = 58 := by
            have := congrArg (fun y => y[0]?) hu
            simp only [List.getElem?_cons_zero, List.getElem?_take_of_lt (show 0 < t.length + 1 by omega), List.getElem?_drop, Nat.add_zero] at this
            rw [List.getElem?_eq_getElem (by omega)] at this
            simpa using this.symm
          have hta : t = (l.drop (a + 1)).take (e - (a + 1)) := by
            have h1 : (l.drop a) = 58 :: l.drop (a + 1) := by rw [List.drop_eq_getElem_cons (by omega), hxa]
            rw [h1, List.take_succ_cons] at hu
            rw [show e - (a + 1) = t.length by omega]
            exact (List.cons.inj hu).2
          have hca : w.cell? ⟨b, o + a, none⟩ = some (.int .u8 58) := by rw [H3.out a (by omega), hxa]; rfl
          have HTL := Lib.hid (show t.length = e - (a + 1) by omega)
          have HEA := Lib.hid he
          have HR := Lib.hid hr
          have HLEN := Lib.hid hlen
          have hrl : e + 2 + r.length = l.length := by omega
          have HRL := Lib.hid hrl
          have HCV : Hid (∀ W, Below w.heap.size w W → (convert 22 9 (.slice (some ⟨b, o + (a + 1), none⟩) (e - (a + 1)) (c - (a + 1)))).run Tryd.prog W = .ok (.string (bs t)) W) := Lib.hid fun W hW => by
            rw [hta]
            refine convert_rest (l := l.drop (a + 1)) _ _ (by rw [List.length_drop]; omega) (fun j hj => ?_)
            rw [List.length_drop] at hj
            rw [List.getElem_drop, Nat.add_assoc]
            exact (hW.cell (p := ⟨b, o + (a + 1 + j), none⟩) (World.block_lt_of_cell? w _ (H3.out (a + 1 + j) (by omega)))).trans (H3.out (a + 1 + j) (by omega))
          have hck : (c = a + 1) = False := eq_false (by omega)
          have hle1 : a + 1 ≤ e := by omega
          have hec : e ≤ c := by omega
          have hlen9 : e + 2 ≤ l.length := by omega
          clear hxa hta hu hr hlen he hrl
          have hcv0 := HCV.out _ hB0
          go_wp2_with fail
          refine (HPR.out _).mono ?_
          rintro e9 w1 ⟨rfl, hb1⟩
          have hB1 : Below w.heap.size w w1 := bT hB0 hb1
          have HBX := Lib.hid (show w1.heap[w.heap.size]? = some (.cells #[.int .i64 0, .string ⟨#[]⟩, .int .i64 0, .slice none 0 0] 26 (0, 0)) from (hb1.block _ (Array.getElem?_eq_some_iff.1 HBX0.out).1).trans HBX0.out)
          have hcw := cell_below hB1 hca
          clear hcv0 hca
          have hbx : (w1).heap[w.heap.size]? = some (.cells #[.int .i64 0, .string ⟨#[]⟩, .int .i64 0, .slice none 0 0] 26 (0, 0)) := HBX.out
          obtain ⟨z0, z1, z2, z3⟩ := cells4 hbx
          have fz := frozen4 hbx
          go_wp2_with fail
          have hE := heap_set4 hbx (.int .i64 2) (.string ⟨#[]⟩) (.int .i64 n) (.slice none 0 0)
          have HE : Below w.heap.size w (set4 (w1) w.heap.size (.int .i64 2) (.string ⟨#[]⟩) (.int .i64 n) (.slice none 0 0)) := set4_below (hB1) (Nat.le_refl _) _ _ _ _
          show bodyPost _ _ _ _ _ (set4 (w1) w.heap.size (.int .i64 2) (.string ⟨#[]⟩) (.int .i64 n) (.slice none 0 0))
          generalize set4 (w1) w.heap.size (.int .i64 2) (.string ⟨#[]⟩) (.int .i64 n) (.slice none 0 0) = W at *
          obtain ⟨e0, e1, e2, e3⟩ := cells4 hE
          refine bodyPost_ret (v := .tuple #[.agg #[.int .i64 2, .string ⟨#[]⟩, .int .i64 n, .slice none 0 0], .int .i64 ((e : Int) + 2)]) (by simp [results, Tryd.results11, go_sem, e0, e1, e2, e3]) rfl ?_
          exact ⟨⟨none, 0, by rw [show ((l.length - r.length : Nat) : Int) = (e : Int) + 2 by have := HRL.out; omega]; rfl, leaf_rep _ _ _ _ _ ⟨by decide, by decide⟩ (parseL_some HP.out).1 (Nat.zero_le _)⟩, HE⟩
        · have hn : ((x1.toNat : Int) != 10) = true := byte_ne g10
          have HG := Lib.hid (fun (hh : l[e] = 13 ∧ l[e + 1] = 10) => g10 (hx1.symm.trans hh.2))
          have hsn := Lib.hid (HS.out.next hae hlt HG.out)
          subst g13
          clear hx0 hx1 g10
          go_wp2_with fail
          go_round
          case rel => exact ⟨e + 1, by omega, by omega, by go_num, hsn⟩
          case measure => simp [intOf]; omega
      · have hn : ((x0.toNat : Int) != 13) = true := byte_ne g13
        have hsn := Lib.hid (HS.out.next hae hlt (fun hh => g13 (hx0.symm.trans hh.1)))
        clear hx0 hx1 g13
        go_wp2_with fail
        go_round
        case rel => exact ⟨e + 1, by omega, by omega, by go_num, hsn⟩
        case measure => simp [intOf]; omega
    · have hdl : decide ((e : Int) + 1 < (l.length : Int)) = false := decide_eq_false (by omega)
      exfalso; have := HS.out.none hlt; rw [HLN.out] at this; cases this
end Go.Proofs.YtdeacankicciaaaDoor
