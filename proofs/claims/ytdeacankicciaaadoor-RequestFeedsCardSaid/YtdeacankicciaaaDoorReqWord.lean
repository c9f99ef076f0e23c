/-
  request.cutWord, of any bytes; strings.CutPrefix of one byte.
-/
import Derived.Test.YtdeacankicciaaaDoorReqLine
namespace Go.Proofs.YtdeacankicciaaaDoor
open Go.RowKit Rp Rq

theorem bs_from1 (x : UInt8) (t : List UInt8) : (bs (x :: t)).extract 1 (bs (x :: t)).size = bs t := by
  apply ByteArray.ext
  rw [ByteArray.data_extract, bs_size]
  show (List.toArray (x :: t)).extract 1 (t.length + 1) = t.toArray
  simp

set_option maxHeartbeats 1000000 in
theorem lite_yes (x : UInt8) (t : List UInt8) (w : World) :
    Calls Tryd.prog 92 #[.string (bs (x :: t)), .string (bs [x])] w fun e w' => e = .returned (.tuple #[.string (bs t), .bool true]) ∧ w = w' := by
  have HP := Lib.hid (Tryd.stringslite_HasPrefix (bs (x :: t)) (bs [x]) w)
  rw [show Lib.hasPrefix (bs (x :: t)).data.toList (bs [x]).data.toList = true by simp [Lib.hasPrefix, bs]] at HP
  have h1 := bs_from1 x t
  have h2 : (bs [x]).size = 1 := rfl
  have h3 : 1 ≤ (bs (x :: t)).size := by rw [bs_size]; simp
  go_enter Tryd.func92, Tryd.ntmps92
  go_wp2_with fail
  refine HP.out.mono ?_
  rintro e w1 ⟨rfl, rfl⟩
  go_wp2
  go_ret2
  exact ⟨rfl, rfl⟩

set_option maxHeartbeats 1000000 in
theorem lite_no (x : UInt8) (t : List UInt8) (h : t.head? ≠ some x) (w : World) :
    Calls Tryd.prog 92 #[.string (bs t), .string (bs [x])] w fun e w' => e = .returned (.tuple #[.string (bs t), .bool false]) ∧ w = w' := by
  have HP := Lib.hid (Tryd.stringslite_HasPrefix (bs t) (bs [x]) w)
  rw [show Lib.hasPrefix (bs t).data.toList (bs [x]).data.toList = false by
    cases t with
    | nil => rfl
    | cons y t =>
      have hy : (x == y) = false := beq_eq_false_iff_ne.2 (fun e => h (by rw [e]; rfl))
      simp [Lib.hasPrefix, bs, List.isPrefixOf, hy]] at HP
  clear h
  go_enter Tryd.func92, Tryd.ntmps92
  go_wp2_with fail
  refine HP.out.mono ?_
  rintro e w1 ⟨rfl, rfl⟩
  go_wp2
  go_ret2
  exact ⟨rfl, rfl⟩

set_option maxHeartbeats 1000000 in
theorem cutpre_yes (x : UInt8) (t : List UInt8) (w : World) :
    Calls Tryd.prog 71 #[.string (bs (x :: t)), .string (bs [x])] w fun e w' => e = .returned (.tuple #[.string (bs t), .bool true]) ∧ w = w' := by
  have HP := Lib.hid (lite_yes x t w)
  go_enter Tryd.func71, Tryd.ntmps71
  go_wp2_with fail
  refine HP.out.mono ?_
  rintro e w1 ⟨rfl, rfl⟩
  go_wp2
  go_ret2
  exact ⟨rfl, rfl⟩

set_option maxHeartbeats 1000000 in
theorem cutpre_no (x : UInt8) (t : List UInt8) (h : t.head? ≠ some x) (w : World) :
    Calls Tryd.prog 71 #[.string (bs t), .string (bs [x])] w fun e w' => e = .returned (.tuple #[.string (bs t), .bool false]) ∧ w = w' := by
  have HP := Lib.hid (lite_no x t h w)
  clear h
  go_enter Tryd.func71, Tryd.ntmps71
  go_wp2_with fail
  refine HP.out.mono ?_
  rintro e w1 ⟨rfl, rfl⟩
  go_wp2
  go_ret2
  exact ⟨rfl, rfl⟩

/-- What cutWord answers. -/
def WordV (p : Option Addr) (c : Nat) (l : List UInt8) (e : Ending) (a : Except Int (Wd × List UInt8)) : Prop :=
  match a with
  | .ok (t, r) => ∃ q d, e = .returned (.tuple #[.string (bs t), .slice q r.length d, .int .i64 0]) ∧ Sub p c l q d r
  | .error x => e = .returned (.tuple #[.string ⟨#[]⟩, .slice none 0 0, .int .i64 x])

theorem lineQ_err {l : List UInt8} {e : Int} (h : lineQ l = .error e) : e = 10 ∨ e = 11 ∨ e = 12 := by
  unfold lineQ at h
  split at h
  · split at h
    · cases h
    · cases h; simp
  · split at h <;> (cases h; simp)
theorem lineQ_errne {l : List UInt8} {e : Int} (h : lineQ l = .error e) : (e != 0) = true := by
  rw [bne_iff_ne]
  rcases lineQ_err h with rfl | rfl | rfl <;> decide
theorem numQ_errne {s : Wd} {a b e : Int} (h : numQ s a b = .error e) : (e != 0) = true := by
  rw [bne_iff_ne]
  rcases numQ_err h with rfl | rfl <;> decide

set_option maxHeartbeats 1000000 in
theorem word_line (l : List UInt8) (x : Int) (hq : lineQ l = .error x) (p : Option Addr) (c : Nat) (w : World) (h : Rest w p c l) :
    Calls Tryd.prog 62 #[.slice p l.length c] w fun e w' => WordV p c l e (.error x) ∧ Below w.heap.size w w' := by
  have HL1 := Lib.hid (cutline_any l p c w h)
  rw [hq] at HL1
  have hx := lineQ_errne hq
  clear hq h
  go_enter Tryd.func62, Tryd.ntmps62
  go_wp2_with fail
  refine HL1.out.mono ?_
  rintro e w1 ⟨hv, hb1⟩
  obtain rfl := hv
  go_wp2
  go_ret3
  exact ⟨rfl, hb1⟩

set_option maxHeartbeats 1000000 in
theorem word_sign (l t r : List UInt8) (hq : lineQ l = .ok (t, r)) (ht : t.head? ≠ some 36) (p : Option Addr) (c : Nat) (w : World) (h : Rest w p c l) :
    Calls Tryd.prog 62 #[.slice p l.length c] w fun e w' => WordV p c l e (.error 10) ∧ Below w.heap.size w w' := by
  have HL1 := Lib.hid (cutline_any l p c w h)
  rw [hq] at HL1
  have HCP := Lib.hid (fun W => cutpre_no 36 t ht W)
  clear hq h ht
  go_enter Tryd.func62, Tryd.ntmps62
  go_wp2_with fail
  refine HL1.out.mono ?_
  rintro e w1 ⟨hv, hb1⟩
  obtain ⟨q, d, rfl, hs⟩ := hv
  go_wp2_with fail
  refine (HCP.out _).mono ?_
  rintro e w2 ⟨rfl, rfl⟩
  go_wp2
  go_ret3
  exact ⟨rfl, hb1⟩

set_option maxHeartbeats 1000000 in
theorem word_num (l t r : List UInt8) (hq : lineQ l = .ok (36 :: t, r)) (hl : l.length ≤ 1000000000) (x : Int) (hn : numQ t 0 4096 = .error x) (p : Option Addr) (c : Nat) (w : World) (hL : Errs w) (h : Rest w p c l) :
    Calls Tryd.prog 62 #[.slice p l.length c] w fun e w' => WordV p c l e (.error x) ∧ Below w.heap.size w w' := by
  have hlen := lineQ_len hq
  rw [List.length_cons] at hlen
  have HL1 := Lib.hid (cutline_any l p c w h)
  rw [hq] at HL1
  have HCP := Lib.hid (fun W => cutpre_yes 36 t W)
  have HN := Lib.hid (fun W (hW : Below w.heap.size w W) => number_any t (by omega) 0 4096 W (hL.on hW))
  rw [hn] at HN
  have hx := numQ_errne hn
  clear hq h hn hL hlen
  go_enter Tryd.func62, Tryd.ntmps62
  go_wp2_with fail
  refine HL1.out.mono ?_
  rintro e w1 ⟨hv, hb1⟩
  obtain ⟨q, d, rfl, hs⟩ := hv
  go_wp2_with fail
  refine (HCP.out _).mono ?_
  rintro e w2 ⟨rfl, rfl⟩
  go_wp2_with fail
  refine (HN.out _ hb1).mono ?_
  rintro e w3 ⟨hv, hb3⟩
  obtain rfl := hv
  go_wp2
  go_ret3
  exact ⟨rfl, bT hb1 hb3⟩

set_option maxHeartbeats 1000000 in
theorem word_short (l t r : List UInt8) (hq : lineQ l = .ok (36 :: t, r)) (hl : l.length ≤ 1000000000) (n : Nat) (hn : numQ t 0 4096 = .ok (n : Int)) (hr : r.length < n + 2) (p : Option Addr) (c : Nat) (w : World) (hL : Errs w) (h : Rest w p c l) :
    Calls Tryd.prog 62 #[.slice p l.length c] w fun e w' => WordV p c l e (.error 11) ∧ Below w.heap.size w w' := by
  have hlen := lineQ_len hq
  rw [List.length_cons] at hlen
  have HL1 := Lib.hid (cutline_any l p c w h)
  rw [hq] at HL1
  have HCP := Lib.hid (fun W => cutpre_yes 36 t W)
  have HN := Lib.hid (fun W (hW : Below w.heap.size w W) => number_any t (by omega) 0 4096 W (hL.on hW))
  rw [hn] at HN
  have hn4 := (numQ_ok hn).2.1
  have hd : decide ((r.length : Int) < (n : Int) + 2) = true := decide_eq_true (by omega)
  clear hq h hn hL hlen
  go_enter Tryd.func62, Tryd.ntmps62
  go_wp2_with fail
  refine HL1.out.mono ?_
  rintro e w1 ⟨hv, hb1⟩
  obtain ⟨q, d, rfl, hs⟩ := hv
  go_wp2_with fail
  refine (HCP.out _).mono ?_
  rintro e w2 ⟨rfl, rfl⟩
  go_wp2_with fail
  refine (HN.out _ hb1).mono ?_
  rintro e w3 ⟨hv, hb3⟩
  obtain rfl := hv
  go_wp2
  go_ret3
  exact ⟨rfl, bT hb1 hb3⟩

/-- What stands behind a word's first line. -/
def bodyK (n : Nat) (r : List UInt8) : Except Int (Wd × List UInt8) := if crlf (r.drop n) then .ok (r.take n, r.drop (n + 2)) else .error 10

set_option maxRecDepth 20000 in
set_option maxHeartbeats 4000000 in
theorem word_body (l t r : List UInt8) (hq : lineQ l = .ok (36 :: t, r)) (hl : l.length ≤ 1000000000) (n : Nat) (hn : numQ t 0 4096 = .ok (n : Int)) (hr : ¬ r.length < n + 2) (p : Option Addr) (c : Nat) (w : World) (hL : Errs w) (h : Rest w p c l) :
    Calls Tryd.prog 62 #[.slice p l.length c] w fun e w' => WordV p c l e (bodyK n r) ∧ Below w.heap.size w w' := by
  have hlen := lineQ_len hq
  rw [List.length_cons] at hlen
  have HL1 := Lib.hid (cutline_any l p c w h)
  rw [hq] at HL1
  have HCP := Lib.hid (fun W => cutpre_yes 36 t W)
  have HN := Lib.hid (fun W (hW : Below w.heap.size w W) => number_any t (by omega) 0 4096 W (hL.on hW))
  rw [hn] at HN
  have hn4 := (numQ_ok hn).2.1
  have hd : decide ((r.length : Int) < (n : Int) + 2) = false := decide_eq_false (by omega)
  have hr9 : r.length ≤ 1000000000 := by omega
  have HH := Lib.hid h
  clear hq h hn hL hlen
  have kc : ∀ w1 : World, (convert 22 22 (.slice (some ⟨w1.heap.size, 0, none⟩) 2 2)).run Tryd.prog (w1.alloc (.cells #[.int .u8 13, .int .u8 10] 5)) = .ok (.slice (some ⟨w1.heap.size, 0, none⟩) 2 2) (w1.alloc (.cells #[.int .u8 13, .int .u8 10] 5 (2, 3))) := fun w1 => Lib.run_convert_bytes_const (P := Tryd.prog) w1 22 5 #[.int .u8 13, .int .u8 10] 2 2 Tryd.underlying22 Tryd.underlying5
  go_enter Tryd.func62, Tryd.ntmps62
  go_wp2_with fail
  refine HL1.out.mono ?_
  rintro e w1 ⟨hv, hb1⟩
  obtain ⟨q, d, rfl, hs⟩ := hv
  have hrest : Rest w1 q d r := hs w1 (HH.out.below hb1)
  rcases hrest with ⟨-, hr0, -⟩ | ⟨b, o, rfl, h1, h2, h3⟩
  · rw [hr0] at hr; simp at hr
  have HS := Lib.hid hs
  have H3 := Lib.hid h3
  have HM2 := Lib.hid h2
  have hdx := h2
  unfold maxLen at hdx
  have hdn : (d = n) = False := eq_false (by omega)
  have hnd : n ≤ d := by omega
  have hnr : n ≤ r.length := by omega
  clear hs h3 h2
  go_wp2_with fail
  refine (HCP.out _).mono ?_
  rintro e w2 ⟨rfl, rfl⟩
  go_wp2_with fail
  refine (HN.out _ hb1).mono ?_
  rintro e w3 ⟨hv, hb3⟩
  obtain rfl := hv
  have hb4 : Below w1.heap.size w1 (w3.alloc (.cells #[.int .u8 13, .int .u8 10] 5 (2, 3))) := bA hb3 _
  have hcp := cutprefix_any (rest_from (w := w1) (c := d) n hnr h1 HM2.out H3.out (some ⟨b, o + n, none⟩) (by rw [if_neg (by omega)])) hb4 w3.heap.size 2 (by rw [World.cell?_alloc_mark]; rfl) (by rw [World.cell?_alloc_mark]; rfl)
  rw [List.length_drop] at hcp
  have HQ := Lib.hid hcp
  have HB4 := Lib.hid (bT hb1 hb4)
  have HCV := Lib.hid (convert_rest (w := w3.alloc (.cells #[.int .u8 13, .int .u8 10] 5 (2, 3))) d n hnr (fun j hj => (hb4.cell (p := ⟨b, o + j, none⟩) (World.block_lt_of_cell? w1 _ (H3.out j hj))).trans (H3.out j hj)))
  clear hcp hb4
  go_wp2_with fail
  refine HQ.out.mono ?_
  rintro e w4 ⟨rfl, hv⟩
  generalize w3.alloc (.cells #[.int .u8 13, .int .u8 10] 5 (2, 3)) = w4 at *
  have hcv := HCV.out
  rcases hv with ⟨hx, q', d', rfl, hq'⟩ | ⟨hx, rfl⟩
  · have HX := Lib.hid hx
    have HSQ := Lib.hid hq'
    clear hx hq'
    go_wp2
    go_ret3
    rw [bodyK, if_pos HX.out]
    refine ⟨⟨q', d', ?_, ?_⟩, HB4.out⟩
    · rw [List.length_drop]
      congr 5
    · have := HSQ.out
      rw [List.drop_drop] at this
      exact HS.out.trans ((sub_from n hnr (some ⟨b, o + n, none⟩) (by rw [if_neg (by omega)])).trans this)
  · have HX := Lib.hid hx
    clear hx
    go_wp2
    go_ret3
    rw [bodyK, if_neg (by rw [HX.out]; decide)]
    exact ⟨rfl, HB4.out⟩

/-- request.cutWord, of any bytes. -/
theorem cutword_any (l : List UInt8) (hl : l.length ≤ 1000000000) (p : Option Addr) (c : Nat) (w : World) (hL : Errs w) (h : Rest w p c l) :
    Calls Tryd.prog 62 #[.slice p l.length c] w fun e w' => WordV p c l e (wordQ l) ∧ Below w.heap.size w w' := by
  unfold wordQ
  cases hq : lineQ l with
  | error x => exact word_line l x hq p c w h
  | ok z =>
    obtain ⟨t, r⟩ := z
    cases t with
    | nil => exact word_sign l [] r hq (by simp) p c w h
    | cons x t =>
      simp only
      by_cases hx : x = 36
      · subst hx
        rw [if_pos rfl]
        cases hn : numQ t 0 4096 with
        | error y => exact word_num l t r hq hl y hn p c w hL h
        | ok n =>
          obtain ⟨N, rfl⟩ := Int.eq_ofNat_of_zero_le (numQ_ok hn).1
          simp only
          rw [Int.toNat_natCast, bodyQ]
          by_cases hr : r.length < N + 2
          · rw [if_pos hr]
            exact word_short l t r hq hl N hn hr p c w hL h
          · rw [if_neg hr]
            exact word_body l t r hq hl N hn hr p c w hL h
      · rw [if_neg hx]
        exact word_sign l (x :: t) r hq (by simpa using hx) p c w h
end Go.Proofs.YtdeacankicciaaaDoor
