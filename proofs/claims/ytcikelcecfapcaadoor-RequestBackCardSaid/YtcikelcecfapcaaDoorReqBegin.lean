/-
  (*request.Reader).begin: a line that is not within an array.
-/
import Derived.Test.YtcikelcecfapcaaDoorReqFields
namespace Go.Proofs.YtcikelcecfapcaaDoor
open Go.RowKit Rp Rq

theorem cells5 {W : World} {b : Nat} {v0 v1 v2 v3 v4 : Value} {T : TypeId} (h : W.heap[b]? = some (.cells #[v0, v1, v2, v3, v4] T (0, 0))) :
    W.cell? ⟨b, 0, none⟩ = some v0 ∧ W.cell? ⟨b, 1, none⟩ = some v1 ∧ W.cell? ⟨b, 2, none⟩ = some v2 ∧ W.cell? ⟨b, 3, none⟩ = some v3 ∧ W.cell? ⟨b, 4, none⟩ = some v4 := by
  refine ⟨?_, ?_, ?_, ?_, ?_⟩ <;> (rw [Lib.cell_of_heap h]; rfl)

/-- A reader's block. -/
def Box (w : World) (R : Nat) (er : Int) (pv : Value) (c : Int) (wv : Value) (tk : Int) : Prop := w.heap[R]? = some (.cells #[.int .i64 er, pv, .int .i64 c, wv, .int .i64 tk] 69 (0, 0))
theorem Box.lt {w : World} {R : Nat} {er : Int} {pv : Value} {c : Int} {wv : Value} {tk : Int} (h : Box w R er pv c wv tk) : R < w.heap.size := (Array.getElem?_eq_some_iff.1 h).1
theorem Box.below {w w' : World} {R : Nat} {er : Int} {pv : Value} {c : Int} {wv : Value} {tk : Int} (h : Box w R er pv c wv tk) (hb : Below w.heap.size w w') : Box w' R er pv c wv tk := (hb.block R h.lt).trans h

set_option maxHeartbeats 1000000 in
theorem begin_line (R : Nat) (l : List UInt8) (x : Int) (hq : lineQ l = .error x) (p : Option Addr) (c : Nat) (f : Value) (w : World) (hB : Box w R 0 (.slice p l.length c) 0 (.slice none 0 0) 0) (h : Rest w p c l) :
    Calls Tryd.prog 61 #[.pointer (some ⟨R, 0, none⟩), f] w fun e w' => e = .returned (.int .i64 x) ∧ Below w.heap.size w w' := by
  have HL1 := Lib.hid (cutline_any l p c w h)
  rw [hq] at HL1
  have hx := lineQ_errne hq
  obtain ⟨z0, z1, z2, z3, z4⟩ := cells5 hB
  clear hq h hB
  go_enter Tryd.func61, Tryd.ntmps61
  go_wp2_with fail
  refine HL1.out.mono ?_
  rintro e w1 ⟨hv, hb1⟩
  obtain rfl := hv
  go_wp2
  go_ret
  exact ⟨rfl, hb1⟩

set_option maxRecDepth 20000 in
set_option maxHeartbeats 2000000 in
theorem begin_array (R : Nat) (l t r : List UInt8) (hq : lineQ l = .ok (42 :: t, r)) (hl : l.length ≤ 1000000000) (n x : Int) (hn : NumV (.returned (.tuple #[.int .i64 n, .int .i64 x])) (numQ t 1 128)) (p : Option Addr) (c : Nat) (f : Value) (w : World) (hL : Errs w) (hB : Box w R 0 (.slice p l.length c) 0 (.slice none 0 0) 0) (h : Rest w p c l) :
    Calls Tryd.prog 61 #[.pointer (some ⟨R, 0, none⟩), f] w fun e w' => e = .returned (.int .i64 x) ∧ ∃ q d, Box w' R 0 (.slice q r.length d) n (.slice none 0 0) ((l.length - r.length : Nat) : Int) ∧ Sub p c l q d r ∧ Chg (fun k => k = R) w w' := by
  have hlen := lineQ_len hq
  rw [List.length_cons] at hlen
  have HL1 := Lib.hid (cutline_any l p c w h)
  rw [hq] at HL1
  have HCP := Lib.hid (fun W => cutpre_yes 42 t W)
  have HN := Lib.hid (show ∀ W, Below w.heap.size w W → Calls Tryd.prog 72 #[.string (bs t), .int .i64 1, .int .i64 128] W (fun e w' => e = .returned (.tuple #[.int .i64 n, .int .i64 x]) ∧ Below W.heap.size W w') from fun W hW => (number_any t (by omega) 1 128 W (hL.on hW)).mono fun e w' ⟨hv, hb⟩ => by
    refine ⟨?_, hb⟩
    cases hc : numQ t 1 128 with
    | error y =>
      rw [hc] at hv hn
      exact hv.trans hn.symm
    | ok y =>
      rw [hc] at hv hn
      exact hv.trans hn.symm)
  obtain ⟨z0, z1, z2, z3, z4⟩ := cells5 hB
  have HB := Lib.hid hB
  have HTK := Lib.hid (show ((l.length - r.length : Nat) : Int) = (l.length : Int) - (r.length : Int) by omega)
  have hrl : r.length ≤ l.length := by omega
  clear hq h hn hL hlen hB
  go_enter Tryd.func61, Tryd.ntmps61
  go_wp2_with fail
  refine HL1.out.mono ?_
  rintro e w1 ⟨hv, hb1⟩
  obtain ⟨q, d, rfl, hs⟩ := hv
  have HS := Lib.hid hs
  clear z0 z1 z2 z3 z4 hs
  go_wp2_with fail
  refine (HCP.out _).mono ?_
  rintro e w2 ⟨rfl, rfl⟩
  go_wp2_with fail
  refine (HN.out _ hb1).mono ?_
  rintro e w3 ⟨rfl, hb3⟩
  have hb13 := bT hb1 hb3
  have HB3 := Lib.hid (HB.out.below hb13)
  obtain ⟨z0, z1, z2, z3, z4⟩ := cells5 HB3.out
  have fz := frozen4 HB3.out
  go_wp2
  go_ret
  refine ⟨rfl, q, d, ?_, HS.out, ?_⟩
  · rw [HTK.out]
    exact heap_set (heap_set (heap_set HB3.out _) _) _
  · exact (((Chg.below hb13 (fun k => k = R)).trans (Chg.setCell _ _ _) (fun k _ e => e)).trans (Chg.setCell _ _ _) (fun k _ e => e)).trans (Chg.setCell _ _ _) (fun k _ e => e)

set_option maxRecDepth 20000 in
set_option maxHeartbeats 2000000 in
theorem begin_many (R : Nat) (l t r : List UInt8) (hq : lineQ l = .ok (t, r)) (hl : l.length ≤ 1000000000) (ht : t.head? ≠ some 42) (hn : 128 < (fieldsQ t []).length) (p : Option Addr) (c : Nat) (f : Value) (w : World) (hB : Box w R 0 (.slice p l.length c) 0 (.slice none 0 0) 0) (h : Rest w p c l) :
    Calls Tryd.prog 61 #[.pointer (some ⟨R, 0, none⟩), f] w fun e w' => e = .returned (.int .i64 12) ∧ Below w.heap.size w w' := by
  have hlen := lineQ_len hq
  have HL1 := Lib.hid (cutline_any l p c w h)
  rw [hq] at HL1
  have HCP := Lib.hid (fun W => cutpre_no 42 t ht W)
  have HF := Lib.hid (fun W => fields_any t (by omega) W)
  obtain ⟨z0, z1, z2, z3, z4⟩ := cells5 hB
  have HB := Lib.hid hB
  generalize fieldsQ t [] = fs at *
  clear hq h ht hB
  have hd : decide ((128 : Int) < (fs.length : Int)) = true := decide_eq_true (by omega)
  go_enter Tryd.func61, Tryd.ntmps61
  go_wp2_with fail
  refine HL1.out.mono ?_
  rintro e w1 ⟨hv, hb1⟩
  obtain ⟨q, d, rfl, hs⟩ := hv
  have HS := Lib.hid hs
  clear z0 z1 z2 z3 z4 hs
  go_wp2_with fail
  refine (HCP.out _).mono ?_
  rintro e w2 ⟨rfl, rfl⟩
  go_wp2_with fail
  refine (HF.out _).mono ?_
  rintro e w3 ⟨A, rfl, hA, hrow, hb3⟩
  have hb13 := bT hb1 hb3
  have HB3 := Lib.hid (HB.out.below hb13)
  have HROW := Lib.hid hrow
  clear hrow
  go_wp2
  go_ret
  exact ⟨rfl, hb13⟩

set_option maxRecDepth 20000 in
set_option maxHeartbeats 2000000 in
theorem begin_none (R : Nat) (l t r : List UInt8) (hq : lineQ l = .ok (t, r)) (hl : l.length ≤ 1000000000) (ht : t.head? ≠ some 42) (hn : fieldsQ t [] = []) (p : Option Addr) (c : Nat) (f : Value) (w : World) (hB : Box w R 0 (.slice p l.length c) 0 (.slice none 0 0) 0) (h : Rest w p c l) :
    Calls Tryd.prog 61 #[.pointer (some ⟨R, 0, none⟩), f] w fun e w' => e = .returned (.int .i64 0) ∧ ∃ q d, Box w' R 0 (.slice q r.length d) 0 (.slice none 0 0) 0 ∧ Sub p c l q d r ∧ Chg (fun k => k = R) w w' := by
  have hlen := lineQ_len hq
  have HL1 := Lib.hid (cutline_any l p c w h)
  rw [hq] at HL1
  have HCP := Lib.hid (fun W => cutpre_no 42 t ht W)
  have HF := Lib.hid (fun W => fields_any t (by omega) W)
  obtain ⟨z0, z1, z2, z3, z4⟩ := cells5 hB
  have HB := Lib.hid hB
  generalize fieldsQ t [] = fs at *
  clear hq h ht hB
  subst hn
  rw [List.length_nil] at HF
  go_enter Tryd.func61, Tryd.ntmps61
  go_wp2_with fail
  refine HL1.out.mono ?_
  rintro e w1 ⟨hv, hb1⟩
  obtain ⟨q, d, rfl, hs⟩ := hv
  have HS := Lib.hid hs
  clear z0 z1 z2 z3 z4 hs
  go_wp2_with fail
  refine (HCP.out _).mono ?_
  rintro e w2 ⟨rfl, rfl⟩
  go_wp2_with fail
  refine (HF.out _).mono ?_
  rintro e w3 ⟨A, rfl, hA, hrow, hb3⟩
  have hb13 := bT hb1 hb3
  have HB3 := Lib.hid (HB.out.below hb13)
  have HROW := Lib.hid hrow
  clear hrow
  obtain ⟨z0, z1, z2, z3, z4⟩ := cells5 HB3.out
  have fz := frozen4 HB3.out
  go_wp2
  go_ret
  exact ⟨rfl, q, d, heap_set HB3.out _, HS.out, (Chg.below hb13 (fun k => k = R)).trans (Chg.setCell _ _ _) (fun k _ e => e)⟩

set_option maxRecDepth 20000 in
set_option maxHeartbeats 2000000 in
theorem begin_told (R : Nat) (l t r : List UInt8) (hq : lineQ l = .ok (t, r)) (hl : l.length ≤ 1000000000) (ht : t.head? ≠ some 42) (hn : fieldsQ t [] ≠ []) (hn2 : (fieldsQ t []).length ≤ 128) (p : Option Addr) (c : Nat) (C lo : Nat) (xs : List Hc) (v : Value) (w : World) (hB : Box w R 0 (.slice p l.length c) 0 (.slice none 0 0) 0) (h : Rest w p c l) (hC : w.heap[C]? = some (.cells #[v] 41 (0, 0))) (hown : w.ownsRow lo 50 1 v xs.length (hCells xs)) (hlo : lo ≤ w.heap.size) (hlen9 : xs.length ≤ 100000000) :
    Calls Tryd.prog 61 #[.pointer (some ⟨R, 0, none⟩), .func (.func 39) #[] #[.pointer (some ⟨C, 0, none⟩)]] w fun e w' => ∃ x : Hc, x.ws = fieldsQ t [] ∧ w.heap.size ≤ x.g ∧ Own w' lo x ∧ e = .returned (.int .i64 0) ∧ (∃ q d, Box w' R 0 (.slice q r.length d) 0 (.slice none 0 0) 0 ∧ Sub p c l q d r) ∧ ∃ g cap, w'.heap[C]? = some (.cells #[.slice (some ⟨g, 0, none⟩) (xs.length + 1) cap] 41 (0, 0)) ∧
      w'.ownsRow lo 50 1 (.slice (some ⟨g, 0, none⟩) (xs.length + 1) cap) (xs.length + 1) (hCells (xs ++ [x])) ∧ Chg (fun k => k = R ∨ k = C ∨ v.ownBlock = some k) w w' ∧ (v.ownBlock = some g ∨ w.heap.size ≤ g) := by
  have hlen := lineQ_len hq
  have HL1 := Lib.hid (cutline_any l p c w h)
  rw [hq] at HL1
  have HCP := Lib.hid (fun W => cutpre_no 42 t ht W)
  have HF := Lib.hid (fun W => fields_any t (by omega) W)
  obtain ⟨z0, z1, z2, z3, z4⟩ := cells5 hB
  have HB := Lib.hid hB
  generalize fieldsQ t [] = fs at *
  clear hq h ht hB
  have hd : decide ((128 : Int) < (fs.length : Int)) = false := decide_eq_false (by omega)
  have hpos : 0 < fs.length := List.length_pos_iff.2 hn
  have hd0 : decide ((0 : Int) < (fs.length : Int)) = true := decide_eq_true (by omega)
  have HC := Lib.hid hC
  have HO := Lib.hid hown
  have hRC : R ≠ C := box_ne HB.out hC (by decide)
  have hClt : C < w.heap.size := (Array.getElem?_eq_some_iff.1 hC).1
  have hRlt := HB.out.lt
  have HVR := Lib.hid (show v.ownBlock ≠ some R from own_ne hown HB.out (by decide))
  clear hC hown
  go_enter Tryd.func61, Tryd.ntmps61
  go_wp2_with fail
  refine HL1.out.mono ?_
  rintro e w1 ⟨hv, hb1⟩
  obtain ⟨q, d, rfl, hs⟩ := hv
  have HS := Lib.hid hs
  clear z0 z1 z2 z3 z4 hs
  go_wp2_with fail
  refine (HCP.out _).mono ?_
  rintro e w2 ⟨rfl, rfl⟩
  go_wp2_with fail
  refine (HF.out _).mono ?_
  rintro e w3 ⟨A, rfl, hA, hrow, hb3⟩
  have hb13 := bT hb1 hb3
  have HB3 := Lib.hid (HB.out.below hb13)
  have HROW := Lib.hid hrow
  clear hrow
  obtain ⟨x, hx⟩ : ∃ x : Hc, x = ⟨fs, A, fs.length⟩ := ⟨_, rfl⟩
  have hxv : (.slice (some ⟨A, 0, none⟩) fs.length fs.length : Value) = x.val := by rw [hx]; rfl
  have HT := Lib.hid (tell_any C lo xs x v w3 ((hb13.block C hClt).trans HC.out) ((Chg.below hb13 (fun _ => False)).own HO.out (fun _ _ h => h)) (Nat.le_trans hlo hb13.size) (by omega))
  rw [← hxv] at HT
  have HX := Lib.hid hx
  have HXV := Lib.hid hxv
  clear hx hxv
  go_wp2_with fail
  refine HT.out.mono ?_
  rintro e w4 ⟨g, cap, rfl, hC4, hown4, hch, hg⟩
  have hRn : ¬ (R = C ∨ v.ownBlock = some R) := fun e => e.elim hRC HVR.out
  have HB4 := Lib.hid (hch.box HB3.out hRn)
  have HC4 := Lib.hid hC4
  have HO4 := Lib.hid hown4
  have HCH := Lib.hid hch
  have HG := Lib.hid hg
  have hs13 := hb13.size
  have hs1 := hb1.size
  clear hC4 hown4 hch hg
  obtain ⟨z0, z1, z2, z3, z4⟩ := cells5 HB4.out
  have fz := frozen4 HB4.out
  go_wp2
  go_ret
  have hset := Chg.setCell w4 ⟨R, 1, none⟩ (.slice q r.length d)
  have hgR : g ≠ R := by
    rcases HG.out with h | h
    · exact fun e => HVR.out (by rw [h, e])
    · omega
  have hlen1 : (xs ++ [x]).length = xs.length + 1 := by simp
  have hC4 := HC4.out
  have hO4 := HO4.out
  rw [hlen1] at hC4 hO4
  refine ⟨x, by rw [HX.out], by rw [HX.out]; show w.heap.size ≤ A; omega, ?_, rfl, ⟨q, d, heap_set HB4.out _, HS.out⟩, g, cap, ?_, ?_, ?_, ?_⟩
  · have h3 : Own w3 lo x := by
      unfold Own
      rw [← HXV.out, HX.out]
      refine ⟨HROW.out.1, ?_⟩
      rcases HROW.out.2 with ⟨h, _⟩ | ⟨g', cap', cur, h, h1, rest⟩
      · cases h
      · exact .inr ⟨g', cap', cur, h, by omega, rest⟩
    refine hset.own (HCH.out.own h3 (fun k hk => ?_)) (fun k hk => ?_)
    · rw [HX.out] at hk
      simp [Hc.val, Value.ownBlock] at hk
      subst hk
      rintro (e | e)
      · omega
      · have := (HO.out.lt _ e).2
        omega
    · rw [HX.out] at hk
      simp [Hc.val, Value.ownBlock] at hk
      subst hk
      show ¬ A = R
      omega
  · exact hset.box hC4 (fun e => hRC e.symm)
  · exact hset.own hO4 (fun k hk e => by
      simp [Value.ownBlock] at hk
      exact hgR (hk.trans e))
  · exact ((Chg.below hb13 (fun k => k = R ∨ k = C ∨ v.ownBlock = some k)).trans HCH.out (fun k _ e => .inr e)).trans hset (fun k _ e => .inl e)
  · rcases HG.out with h | h
    · exact .inl h
    · exact .inr (by omega)
end Go.Proofs.YtcikelcecfapcaaDoor
