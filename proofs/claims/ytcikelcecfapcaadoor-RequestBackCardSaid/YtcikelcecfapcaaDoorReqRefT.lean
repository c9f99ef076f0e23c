/-
  The reference's line and number, of any bytes. The reference's number and cut. The reference's cut: the words of a line. The reference's list: the words of an array.
-/
import Derived.Test.YtcikelcecfapcaaDoorReqFeedOn
namespace Go.Proofs.YtcikelcecfapcaaDoor
open Go.RowKit Rp Rq

theorem lf_before {l : List UInt8} {a e : Nat} (hae : a ≤ e) (h : e < a + lfAt (l.drop a)) (hl : e < l.length) : l[e] ≠ 10 := by
  have h1 : e - a < lfAt (l.drop a) := by omega
  have h2 := List.not_of_lt_findIdx h1
  rw [List.getElem_drop] at h2
  have h3 : a + (e - a) = e := by omega
  simp only [h3] at h2
  simpa using h2
theorem lf_here {l : List UInt8} {a k : Nat} (hk : lfAt (l.drop a) = k) (h : a + k < l.length) : l[a + k] = 10 := by
  subst hk
  have h2 := lf_is (l := l.drop a) (by rw [List.length_drop]; omega)
  rwa [List.getElem_drop] at h2
theorem byteNe {x : UInt8} (n : Nat) (h : ¬ x.toNat = n) : ((x.toNat : Int) == (n : Int)) = false := by
  rw [beq_eq_false_iff_ne]
  omega

def RLineV (l : List UInt8) (a : Nat) (e : Ending) : Prop :=
  match lineQ (l.drop a) with
  | .ok (t, r) => e = .returned (.tuple #[.string (bs t), .int .i64 ((l.length - r.length : Nat) : Int), .int .i64 0])
  | .error x => e = .returned (.tuple #[.string ⟨#[]⟩, .int .i64 0, .int .i64 x])

set_option maxRecDepth 20000 in
set_option maxHeartbeats 1000000 in
theorem rline_nil (v : Option Addr) (c : Nat) (w : World) :
    Calls Tryd.prog 42 #[.slice v 0 c, .int .i64 0] w fun e w' => e = .returned (.tuple #[.string ⟨#[]⟩, .int .i64 0, .int .i64 11]) ∧ w = w' := by
  go_enter Tryd.func42, Tryd.ntmps42
  go_wp2_with fail
  go_loop [7] (fun s7 => s7 = .int .i64 0) (fun s7 => 0)
  case atStart => rfl
  case round =>
    subst hrel
    go_wp2
    go_ret3
    exact ⟨rfl, rfl⟩

set_option maxRecDepth 20000 in
set_option maxHeartbeats 1000000 in
/-- No line ends. -/
theorem rline_off (l : List UInt8) (hl : l.length ≤ 1000000000) (a : Nat) (ha : a ≤ l.length) (hn : ¬ (lfAt (l.drop a) < (l.drop a).length ∧ lfAt (l.drop a) < 1026)) (x : Int) (hx : ((l.length - a : Nat) < 1026 ∧ x = 11) ∨ (¬ (l.length - a : Nat) < 1026 ∧ x = 12)) (b o c : Nat) (w : World) (h : Rest w (some ⟨b, o, none⟩) c l) :
    Calls Tryd.prog 42 #[.slice (some ⟨b, o, none⟩) l.length c, .int .i64 a] w fun e w' => e = .returned (.tuple #[.string ⟨#[]⟩, .int .i64 0, .int .i64 x]) ∧ w = w' := by
  have H3 := Lib.hid (rest_cell h)
  have hmx := h.len
  have hcap := h.bin.cap
  have hcm := h.bin.max
  unfold maxLen at hcm
  have HB := Lib.hid (fun (e : Nat) (hae : a ≤ e) (he : e < l.length) (h2 : e < a + 1026) => (by
    refine byteNe 10 (fun hh => ?_)
    refine lf_before hae ?_ he (UInt8.toNat_inj.1 hh)
    rw [List.length_drop] at hn
    omega : ((l[e].toNat : Int) == 10) = false))
  have HX := Lib.hid hx
  clear h hn hx
  go_enter Tryd.func42, Tryd.ntmps42
  go_wp2_with fail
  go_loop [7] (fun s7 => ∃ e : Nat, a ≤ e ∧ e ≤ l.length ∧ e ≤ a + 1026 ∧ s7 = .int .i64 e) (fun s7 => l.length - (intOf s7).toNat)
  case atStart => exact ⟨a, Nat.le_refl _, ha, by omega, rfl⟩
  case round =>
    obtain ⟨e, hae, hel, he2, rfl⟩ := hrel
    by_cases hlt : e < l.length
    · have hd1 : decide ((e : Int) < (l.length : Int)) = true := decide_eq_true (by omega)
      by_cases hlt2 : e < a + 1026
      · have hd2 : decide ((e : Int) < (a : Int) + 1026) = true := decide_eq_true (by omega)
        have k0 := H3.out e hlt
        have k1 := HB.out e hae hlt hlt2
        go_wp2_with fail
        go_round
        case rel => exact ⟨e + 1, by omega, by omega, by omega, by go_num⟩
        case measure => simp [intOf]; omega
      · have hd2 : decide ((e : Int) < (a : Int) + 1026) = false := decide_eq_false (by omega)
        obtain rfl : x = 12 := by
          rcases HX.out with ⟨h1, h2⟩ | ⟨h1, h2⟩
          · omega
          · exact h2
        have hd3 : decide ((1026 : Int) ≤ (l.length : Int) - (a : Int)) = true := decide_eq_true (by omega)
        go_wp2
        go_ret3
        exact ⟨rfl, rfl⟩
    · have hd1 : decide ((e : Int) < (l.length : Int)) = false := decide_eq_false (by omega)
      rcases HX.out with ⟨h1, rfl⟩ | ⟨h1, rfl⟩
      · have hd3 : decide ((1026 : Int) ≤ (l.length : Int) - (a : Int)) = false := decide_eq_false (by omega)
        go_wp2
        go_ret3
        exact ⟨rfl, rfl⟩
      · have hd3 : decide ((1026 : Int) ≤ (l.length : Int) - (a : Int)) = true := decide_eq_true (by omega)
        go_wp2
        go_ret3
        exact ⟨rfl, rfl⟩

set_option maxRecDepth 20000 in
set_option maxHeartbeats 1000000 in
/-- A line ends, and no CR stands before its end. -/
theorem rline_form (l : List UInt8) (hl : l.length ≤ 1000000000) (a k : Nat) (hk : Hid (lfAt (l.drop a) = k)) (ha : a + k < l.length) (hk2 : k < 1026) (hn : k = 0 ∨ ¬ (l[a + k - 1]'(by omega)).toNat = 13) (b o c : Nat) (w : World) (h : Rest w (some ⟨b, o, none⟩) c l) :
    Calls Tryd.prog 42 #[.slice (some ⟨b, o, none⟩) l.length c, .int .i64 a] w fun e w' => e = .returned (.tuple #[.string ⟨#[]⟩, .int .i64 0, .int .i64 10]) ∧ w = w' := by
  have H3 := Lib.hid (rest_cell h)
  have hmx := h.len
  have hcap := h.bin.cap
  have hcm := h.bin.max
  unfold maxLen at hcm
  have HB := Lib.hid (fun (e : Nat) (hae : a ≤ e) (he : e < l.length) (h2 : e < a + k) => (by
    refine byteNe 10 (fun hh => ?_)
    refine lf_before hae (by rw [hk.out]; exact h2) he (UInt8.toNat_inj.1 hh) : ((l[e].toNat : Int) == 10) = false))
  have H10 := Lib.hid (lf_here hk.out ha)
  have HN := Lib.hid hn
  clear h hn
  go_enter Tryd.func42, Tryd.ntmps42
  go_wp2_with fail
  go_loop [7] (fun s7 => ∃ e : Nat, a ≤ e ∧ e ≤ a + k ∧ s7 = .int .i64 e) (fun s7 => l.length - (intOf s7).toNat)
  case atStart => exact ⟨a, Nat.le_refl _, by omega, rfl⟩
  case round =>
    obtain ⟨e, hae, hel, rfl⟩ := hrel
    have hd1 : decide ((e : Int) < (l.length : Int)) = true := decide_eq_true (by omega)
    have hd2 : decide ((e : Int) < (a : Int) + 1026) = true := decide_eq_true (by omega)
    have hle : e < l.length := by omega
    obtain ⟨x0, hx0⟩ : ∃ x0, l[e] = x0 := ⟨_, rfl⟩
    have k0 := H3.out e hle
    rw [hx0] at k0
    by_cases hlt : e < a + k
    · have k1 := HB.out e hae hle hlt
      rw [hx0] at k1
      clear hx0
      go_wp2_with fail
      go_round
      case rel => exact ⟨e + 1, by omega, by omega, by go_num⟩
      case measure => simp [intOf]; omega
    · have he : e = a + k := by omega
      obtain rfl : x0 = 10 := hx0.symm.trans (by simp only [he]; exact H10.out)
      clear hx0
      by_cases hz : k = 0
      · have hd3 : ((e : Int) == (a : Int)) = true := by rw [beq_iff_eq]; omega
        clear he
        go_wp2
        go_ret3
        exact ⟨rfl, rfl⟩
      · have hd3 : ((e : Int) == (a : Int)) = false := by rw [beq_eq_false_iff_ne]; omega
        have hlm : e - 1 < l.length := by omega
        obtain ⟨x1, hx1⟩ : ∃ x1, l[e - 1] = x1 := ⟨_, rfl⟩
        have k1 := H3.out (e - 1) hlm
        rw [hx1] at k1
        have k2 : ((x1.toNat : Int) != 13) = true := by
          rw [bne_iff_ne, ← hx1]
          have := HN.out.resolve_left hz
          simp only [he]
          omega
        have hg : 1 ≤ (e : Int) ∧ (e : Int) - 1 < (l.length : Int) := by omega
        clear hx1 he
        go_wp2
        go_ret3
        exact ⟨rfl, rfl⟩

set_option maxRecDepth 20000 in
set_option maxHeartbeats 1000000 in
/-- A line. -/
theorem rline_found (l : List UInt8) (hl : l.length ≤ 1000000000) (a k : Nat) (hk : Hid (lfAt (l.drop a) = k)) (ha : a + k < l.length) (hk2 : k < 1026) (hz : k ≠ 0) (h13 : (l[a + k - 1]'(by omega)) = 13) (b o c : Nat) (w : World) (h : Rest w (some ⟨b, o, none⟩) c l) :
    Calls Tryd.prog 42 #[.slice (some ⟨b, o, none⟩) l.length c, .int .i64 a] w fun e w' => e = .returned (.tuple #[.string (bs ((l.drop a).take (k - 1))), .int .i64 ((a + k + 1 : Nat) : Int), .int .i64 0]) ∧ w = w' := by
  have H3 := Lib.hid (rest_cell h)
  have hmx := h.len
  have hcap := h.bin.cap
  have hcm := h.bin.max
  unfold maxLen at hcm
  have HB := Lib.hid (fun (e : Nat) (hae : a ≤ e) (he : e < l.length) (h2 : e < a + k) => (by
    refine byteNe 10 (fun hh => ?_)
    refine lf_before hae (by rw [hk.out]; exact h2) he (UInt8.toNat_inj.1 hh) : ((l[e].toNat : Int) == 10) = false))
  have H10 := Lib.hid (lf_here hk.out ha)
  have H13 := Lib.hid h13
  have HCV := Lib.hid (show (convert 22 9 (.slice (some ⟨b, o + a, none⟩) (a + k - 1 - a) (c - a))).run Tryd.prog w = .ok (.string (bs ((l.drop a).take (k - 1)))) w by
    rw [show a + k - 1 - a = k - 1 by omega]
    refine convert_rest (l := l.drop a) _ _ (by rw [List.length_drop]; omega) (fun j hj => ?_)
    rw [List.length_drop] at hj
    rw [List.getElem_drop, Nat.add_assoc]
    exact H3.out (a + j) (by omega))
  have hck : (c = a) = False := eq_false (by omega)
  generalize (l.drop a).take (k - 1) = T at *
  clear h h13
  go_enter Tryd.func42, Tryd.ntmps42
  go_wp2_with fail
  go_loop [7] (fun s7 => ∃ e : Nat, a ≤ e ∧ e ≤ a + k ∧ s7 = .int .i64 e) (fun s7 => l.length - (intOf s7).toNat)
  case atStart => exact ⟨a, Nat.le_refl _, by omega, rfl⟩
  case round =>
    obtain ⟨e, hae, hel, rfl⟩ := hrel
    have hd1 : decide ((e : Int) < (l.length : Int)) = true := decide_eq_true (by omega)
    have hd2 : decide ((e : Int) < (a : Int) + 1026) = true := decide_eq_true (by omega)
    have hle : e < l.length := by omega
    obtain ⟨x0, hx0⟩ : ∃ x0, l[e] = x0 := ⟨_, rfl⟩
    have k0 := H3.out e hle
    rw [hx0] at k0
    by_cases hlt : e < a + k
    · have k1 := HB.out e hae hle hlt
      rw [hx0] at k1
      clear hx0
      go_wp2_with fail
      go_round
      case rel => exact ⟨e + 1, by omega, by omega, by go_num⟩
      case measure => simp [intOf]; omega
    · have he : e = a + k := by omega
      obtain rfl : x0 = 10 := hx0.symm.trans (by simp only [he]; exact H10.out)
      clear hx0
      have hd3 : ((e : Int) == (a : Int)) = false := by rw [beq_eq_false_iff_ne]; omega
      have hlm : e - 1 < l.length := by omega
      obtain ⟨x1, hx1⟩ : ∃ x1, l[e - 1] = x1 := ⟨_, rfl⟩
      have k1 := H3.out (e - 1) hlm
      rw [hx1] at k1
      obtain rfl : x1 = 13 := by
        rw [← hx1]
        have := H13.out
        simp only [he]
        exact this
      have hcv := HCV.out
      rw [← he] at hcv
      have hle1 : a ≤ e - 1 := by omega
      have HE := Lib.hid he
      clear hx1 he
      go_wp2
      go_ret3
      refine ⟨?_, rfl⟩
      have hE : (a : Int) + (k : Int) + 1 = (e : Int) + 1 := by
        have := HE.out
        omega
      rw [hE]
      rfl

/-- The reference's line, of any bytes. -/
theorem rline_any (l : List UInt8) (hl : l.length ≤ 1000000000) (a : Nat) (ha : a ≤ l.length) (p : Option Addr) (c : Nat) (w : World) (h : Tail w p c l) :
    Calls Tryd.prog 42 #[.slice p l.length c, .int .i64 a] w fun e w' => RLineV l a e ∧ w = w' := by
  by_cases hnil : l = []
  · subst hnil
    obtain rfl : a = 0 := by simpa using ha
    exact (rline_nil p c w).mono fun e w' ⟨h1, h2⟩ => ⟨h1, h2⟩
  rcases h with h | ⟨h, _⟩
  · rcases h with ⟨_, h, _⟩ | ⟨b, o, rfl, h1, h2, h3⟩
    · exact absurd h hnil
    have h : Rest w (some ⟨b, o, none⟩) c l := .inr ⟨b, o, rfl, h1, h2, h3⟩
    unfold RLineV
    obtain ⟨k, hk⟩ : ∃ k, lfAt (l.drop a) = k := ⟨_, rfl⟩
    have hdl : (l.drop a).length = l.length - a := List.length_drop
    unfold lineQ
    by_cases hf : lfAt (l.drop a) < (l.drop a).length ∧ lfAt (l.drop a) < 1026
    · rw [if_pos hf]
      rw [hk] at hf ⊢
      have hak : a + k < l.length := by omega
      by_cases hc : k ≠ 0 ∧ (l.drop a)[k - 1]? = some 13
      · rw [if_pos hc]
        have h13 : l[a + k - 1]'(by omega) = 13 := by
          have h1 := hc.2
          rw [List.getElem?_drop, List.getElem?_eq_getElem (show a + (k - 1) < l.length by omega), Option.some.injEq] at h1
          have h2 : a + (k - 1) = a + k - 1 := by omega
          simp only [h2] at h1
          exact h1
        refine (rline_found l hl a k (Lib.hid hk) hak hf.2 hc.1 h13 b o c w h).mono ?_
        rintro e w' ⟨rfl, rfl⟩
        refine ⟨?_, rfl⟩
        have h9 : l.length - ((l.drop a).drop (k + 1)).length = a + k + 1 := by
          rw [List.length_drop, hdl]
          omega
        show _ = Ending.returned (.tuple #[.string (bs ((l.drop a).take (k - 1))), .int .i64 ((l.length - ((l.drop a).drop (k + 1)).length : Nat) : Int), .int .i64 0])
        rw [h9]
      · rw [if_neg hc]
        refine rline_form l hl a k (Lib.hid hk) hak hf.2 ?_ b o c w h
        by_cases hz : k = 0
        · exact .inl hz
        refine .inr fun hh => hc ⟨hz, ?_⟩
        rw [List.getElem?_drop, List.getElem?_eq_getElem (show a + (k - 1) < l.length by omega), Option.some.injEq]
        have h2 : a + k - 1 = a + (k - 1) := by omega
        simp only [h2] at hh
        exact UInt8.toNat_inj.1 hh
    · rw [if_neg hf]
      by_cases h5 : (l.drop a).length < 1026
      · rw [if_pos h5]
        exact rline_off l hl a ha hf 11 (.inl ⟨by omega, rfl⟩) b o c w h
      · rw [if_neg h5]
        exact rline_off l hl a ha hf 12 (.inr ⟨by omega, rfl⟩) b o c w h
  · exact absurd h hnil
end Go.Proofs.YtcikelcecfapcaaDoor

namespace Go.Proofs.YtcikelcecfapcaaDoor
open Go.RowKit Rp Rq

set_option maxHeartbeats 1000000 in
theorem rnum_empty (g a b : Int) (w : World) :
    Calls Tryd.prog 43 #[.string (bs []), .int .u8 g, .int .i64 a, .int .i64 b] w fun e w' => e = .returned (.tuple #[.int .i64 0, .int .i64 10]) ∧ w = w' := by
  have h0 : (bs []).size = 0 := rfl
  go_enter Tryd.func43, Tryd.ntmps43
  go_wp2
  go_ret2
  exact ⟨rfl, rfl⟩

set_option maxHeartbeats 1000000 in
theorem rnum_sign (s : ByteArray) (h0 : 0 < s.size) (g a b : Int) (hg : ((s[0].toNat : Int) != g) = true) (w : World) :
    Calls Tryd.prog 43 #[.string s, .int .u8 g, .int .i64 a, .int .i64 b] w fun e w' => e = .returned (.tuple #[.int .i64 0, .int .i64 10]) ∧ w = w' := by
  have hz : ((s.size : Int) == 0) = false := by rw [beq_eq_false_iff_ne]; omega
  go_enter Tryd.func43, Tryd.ntmps43
  go_wp2
  go_ret2
  exact ⟨rfl, rfl⟩

set_option maxHeartbeats 1000000 in
theorem rnum_none (s : ByteArray) (t : List UInt8) (htl : t.length ≤ 281474976710656) (h0 : 0 < s.size) (hx : s.extract 1 s.size = bs t) (hp : parseL t = none) (g a b : Int) (hg : ((s[0].toNat : Int) != g) = false) (w : World) :
    Calls Tryd.prog 43 #[.string s, .int .u8 g, .int .i64 a, .int .i64 b] w fun e w' => e = .returned (.tuple #[.int .i64 0, .int .i64 10]) ∧ Below w.heap.size w w' := by
  have HP := Lib.hid (refparse_any t htl w)
  rw [hp] at HP
  clear hp
  have hz : ((s.size : Int) == 0) = false := by rw [beq_eq_false_iff_ne]; omega
  have h1 : 1 ≤ s.size := h0
  go_enter Tryd.func43, Tryd.ntmps43
  go_wp2_with fail
  refine HP.out.mono ?_
  rintro e w1 ⟨rfl, hb1⟩
  go_wp2
  go_ret2
  exact ⟨rfl, hb1⟩

set_option maxHeartbeats 1000000 in
theorem rnum_some (s : ByteArray) (t : List UInt8) (htl : t.length ≤ 281474976710656) (h0 : 0 < s.size) (hx : s.extract 1 s.size = bs t) (n : Int) (hp : parseL t = some n) (g a b : Int) (hg : ((s[0].toNat : Int) != g) = false) (v : Int) (x : Int) (hv : (n < a ∧ v = 0 ∧ x = 10) ∨ (¬ n < a ∧ b < n ∧ v = 0 ∧ x = 12) ∨ (¬ n < a ∧ ¬ b < n ∧ v = n ∧ x = 0)) (w : World) :
    Calls Tryd.prog 43 #[.string s, .int .u8 g, .int .i64 a, .int .i64 b] w fun e w' => e = .returned (.tuple #[.int .i64 v, .int .i64 x]) ∧ Below w.heap.size w w' := by
  have HP := Lib.hid (refparse_any t htl w)
  rw [hp] at HP
  clear hp
  have hz : ((s.size : Int) == 0) = false := by rw [beq_eq_false_iff_ne]; omega
  have h1 : 1 ≤ s.size := h0
  rcases hv with ⟨h3, rfl, rfl⟩ | ⟨h3, h4, rfl, rfl⟩ | ⟨h3, h4, rfl, rfl⟩
  · have d1 : decide (n < a) = true := decide_eq_true h3
    go_enter Tryd.func43, Tryd.ntmps43
    go_wp2_with fail
    refine HP.out.mono ?_
    rintro e w1 ⟨rfl, hb1⟩
    go_wp2
    go_ret2
    exact ⟨rfl, hb1⟩
  · have d1 : decide (n < a) = false := decide_eq_false h3
    have d2 : decide (b < n) = true := decide_eq_true h4
    go_enter Tryd.func43, Tryd.ntmps43
    go_wp2_with fail
    refine HP.out.mono ?_
    rintro e w1 ⟨rfl, hb1⟩
    go_wp2
    go_ret2
    exact ⟨rfl, hb1⟩
  · have d1 : decide (v < a) = false := decide_eq_false h3
    have d2 : decide (b < v) = false := decide_eq_false h4
    go_enter Tryd.func43, Tryd.ntmps43
    go_wp2_with fail
    refine HP.out.mono ?_
    rintro e w1 ⟨rfl, hb1⟩
    go_wp2
    go_ret2
    exact ⟨rfl, hb1⟩

/-- A number behind a sign. -/
def numS (t : List UInt8) (g : Int) (a b : Int) : Except Int Int :=
  match t with
  | [] => .error 10
  | x :: s => if (x.toNat : Int) = g then numQ s a b else .error 10
theorem bs_first (x : UInt8) (t : List UInt8) (h : 0 < (bs (x :: t)).size) : (bs (x :: t))[0] = x := rfl

/-- The reference's number. -/
theorem rnum_any (t : List UInt8) (htl : t.length ≤ 281474976710656) (g a b : Int) (w : World) :
    Calls Tryd.prog 43 #[.string (bs t), .int .u8 g, .int .i64 a, .int .i64 b] w fun e w' => NumV e (numS t g a b) ∧ Below w.heap.size w w' := by
  cases t with
  | nil => exact (rnum_empty g a b w).mono fun e w' ⟨h1, h2⟩ => ⟨h1, h2 ▸ Below.refl _ _⟩
  | cons y t =>
    have h0 : 0 < (bs (y :: t)).size := by rw [bs_size]; simp
    have htl2 : t.length ≤ 281474976710656 := by simp at htl; omega
    unfold numS
    by_cases hy : (y.toNat : Int) = g
    · simp only [if_pos hy]
      have hg : (((bs (y :: t))[0].toNat : Int) != g) = false := by
        rw [bs_first, bne_eq_false_iff_eq]
        exact hy
      unfold numQ
      cases hp : parseL t with
      | none => exact rnum_none _ t htl2 h0 (bs_from1 y t) hp g a b hg w
      | some n =>
        simp only
        by_cases h1 : n < a
        · rw [if_pos h1]
          exact rnum_some _ t htl2 h0 (bs_from1 y t) n hp g a b hg 0 10 (.inl ⟨h1, rfl, rfl⟩) w
        rw [if_neg h1]
        by_cases h2 : b < n
        · rw [if_pos h2]
          exact rnum_some _ t htl2 h0 (bs_from1 y t) n hp g a b hg 0 12 (.inr (.inl ⟨h1, h2, rfl, rfl⟩)) w
        rw [if_neg h2]
        exact rnum_some _ t htl2 h0 (bs_from1 y t) n hp g a b hg n 0 (.inr (.inr ⟨h1, h2, rfl, rfl⟩)) w
    · simp only [if_neg hy]
      refine (rnum_sign _ h0 g a b ?_ w).mono fun e w' ⟨h1, h2⟩ => ⟨h1, h2 ▸ Below.refl _ _⟩
      rw [bs_first, bne_iff_ne]
      exact hy
end Go.Proofs.YtcikelcecfapcaaDoor

namespace Go.Proofs.YtcikelcecfapcaaDoor
open Go.RowKit Rp Rq

/-- A row that grew from nothing since w0. -/
structure GRow (e : TypeId) (w0 w : World) (v : Value) (xs : List Value) : Prop where
  own : w.ownsRow w0.heap.size e 1 v xs.length xs
  below : Below w0.heap.size w0 w
theorem GRow.nil (e : TypeId) (w : World) : GRow e w w (.slice none 0 0) [] := ⟨World.ownsRow_nil _ _ _ _, Below.refl _ _⟩
theorem GRow.push {e : TypeId} {w0 w : World} {v : Value} {xs : List Value} (H : GRow e w0 w v xs) {o : Obj} {w2 : World} {g cap : Nat} {x : Value} (hown : w2.ownsRow w0.heap.size e 1 (.slice (some ⟨g, 0, none⟩) (xs.length + 1) cap) (xs.length + 1) (xs ++ [x])) (hgr : (w.alloc o).grownBy w2 v.ownBlock) :
    GRow e w0 w2 (.slice (some ⟨g, 0, none⟩) (xs.length + 1) cap) (xs ++ [x]) := by
  refine ⟨by rw [List.length_append]; exact hown, (bA H.below o).grown hgr (by have := H.below.size; simp; omega) (fun k hk => (H.own.lt k hk).1)⟩
theorem GRow.shape {e : TypeId} {w0 w : World} {v : Value} {xs : List Value} (H : GRow e w0 w v xs) : ∃ p c, v = .slice p xs.length c := by
  rcases H.own.2 with ⟨rfl, h⟩ | ⟨g, cap, cur, rfl, _⟩
  · refine ⟨none, 0, ?_⟩
    have : xs = [] := by simpa using h
    rw [this]; rfl
  · exact ⟨_, _, rfl⟩

theorem bsq_app (a b : List UInt8) : bs a ++ bs b = bs (a ++ b) := by
  apply ByteArray.ext
  rw [ByteArray.data_append]
  simp [bs]
theorem bs_one (t : List UInt8) (i : Nat) (h : i < t.length) : (bs t).extract i (i + 1) = bs [t[i]] := by
  rw [pieceU_bs]
  unfold Lib.pieceU
  rw [Nat.add_sub_cancel_left, List.drop_eq_getElem_cons h]
  rfl
theorem bs_isEmpty (t : List UInt8) : (bs t).toList.isEmpty = t.isEmpty := by rw [Lib.toList_data]; rfl
theorem fieldsQ_step (t : List UInt8) (i : Nat) (h : i < t.length) (cur : Wd) : fieldsQ (t.drop i) cur = if t[i] = 32 then (if cur = [] then fieldsQ (t.drop (i + 1)) [] else cur :: fieldsQ (t.drop (i + 1)) []) else fieldsQ (t.drop (i + 1)) (cur ++ [t[i]]) := by
  rw [List.drop_eq_getElem_cons h, fieldsQ]
theorem fieldsQ_end (t : List UInt8) (i : Nat) (h : ¬ i < t.length) (cur : Wd) : fieldsQ (t.drop i) cur = if cur = [] then [] else [cur] := by
  rw [List.drop_eq_nil_of_le (by omega), fieldsQ]

/-- What stands at the head of a round of cut's loop. -/
structure CutI (t : List UInt8) (w0 : World) (i : Nat) (ws : List Wd) (C : ByteArray) (v : Value) (wr : World) : Prop where
  le : i ≤ t.length
  few : ws.length ≤ i
  row : GRow 9 w0 wr v (wCells ws)
  cur : ∃ cur : Wd, C = bs cur ∧ cur.length ≤ i ∧ fieldsQ t [] = ws ++ fieldsQ (t.drop i) cur

theorem CutI.same {t : List UInt8} {w0 : World} {i : Nat} {ws : List Wd} {C : ByteArray} {v : Value} {wr : World} (H : CutI t w0 i ws C v wr) (hi : i < t.length) (h32 : t[i] = 32) (hC : C.toList.isEmpty = true) : CutI t w0 (i + 1) ws ⟨#[]⟩ v wr := by
  obtain ⟨cur, rfl, hc, hf⟩ := H.cur
  rw [bs_isEmpty, List.isEmpty_iff] at hC
  subst hC
  refine ⟨hi, by have := H.few; omega, H.row, [], rfl, by simp, ?_⟩
  rw [hf, fieldsQ_step t i hi, if_pos h32, if_pos rfl]
theorem CutI.put {t : List UInt8} {w0 : World} {i : Nat} {ws : List Wd} {C : ByteArray} {v : Value} {wr : World} (H : CutI t w0 i ws C v wr) (hi : i < t.length) (h32 : t[i] = 32) (hC : C.toList.isEmpty = false) {o : Obj} {w2 : World} {g cap : Nat} (hown : w2.ownsRow w0.heap.size 9 1 (.slice (some ⟨g, 0, none⟩) (ws.length + 1) cap) (ws.length + 1) (wCells ws ++ [.string C])) (hgr : (wr.alloc o).grownBy w2 v.ownBlock) :
    ∃ ws', CutI t w0 (i + 1) ws' ⟨#[]⟩ (.slice (some ⟨g, 0, none⟩) (ws.length + 1) cap) w2 := by
  obtain ⟨cur, rfl, hc, hf⟩ := H.cur
  rw [bs_isEmpty] at hC
  have hcn : cur ≠ [] := fun e => by rw [e] at hC; cases hC
  refine ⟨ws ++ [cur], hi, by have := H.few; simp; omega, ?_, [], rfl, by simp, ?_⟩
  · rw [wCells_snoc]
    have := H.row.push (x := .string (bs cur)) (by rw [wCells_len]; exact hown) hgr
    rw [wCells_len] at this
    exact this
  · rw [hf, fieldsQ_step t i hi, if_pos h32, if_neg hcn, List.append_assoc]
    rfl
theorem CutI.add {t : List UInt8} {w0 : World} {i : Nat} {ws : List Wd} {C : ByteArray} {v : Value} {wr : World} (H : CutI t w0 i ws C v wr) (hi : i < t.length) (h32 : ¬ t[i] = 32) : CutI t w0 (i + 1) ws (C ++ bs [t[i]]) v wr := by
  obtain ⟨cur, rfl, hc, hf⟩ := H.cur
  refine ⟨hi, by have := H.few; omega, H.row, cur ++ [t[i]], bsq_app _ _, by simp; omega, ?_⟩
  rw [hf, fieldsQ_step t i hi, if_neg h32]
theorem CutI.stop {t : List UInt8} {w0 : World} {i : Nat} {ws : List Wd} {C : ByteArray} {v : Value} {wr : World} (H : CutI t w0 i ws C v wr) (hi : ¬ i < t.length) (hC : C.toList.isEmpty = true) : GRow 9 w0 wr v (wCells (fieldsQ t [])) := by
  obtain ⟨cur, rfl, hc, hf⟩ := H.cur
  rw [bs_isEmpty, List.isEmpty_iff] at hC
  subst hC
  rw [hf, fieldsQ_end t i hi, if_pos rfl, List.append_nil]
  exact H.row
theorem CutI.last {t : List UInt8} {w0 : World} {i : Nat} {ws : List Wd} {C : ByteArray} {v : Value} {wr : World} (H : CutI t w0 i ws C v wr) (hi : ¬ i < t.length) (hC : C.toList.isEmpty = false) {o : Obj} {w2 : World} {g cap : Nat} (hown : w2.ownsRow w0.heap.size 9 1 (.slice (some ⟨g, 0, none⟩) (ws.length + 1) cap) (ws.length + 1) (wCells ws ++ [.string C])) (hgr : (wr.alloc o).grownBy w2 v.ownBlock) :
    GRow 9 w0 w2 (.slice (some ⟨g, 0, none⟩) (ws.length + 1) cap) (wCells (fieldsQ t [])) := by
  obtain ⟨cur, rfl, hc, hf⟩ := H.cur
  rw [bs_isEmpty] at hC
  have hcn : cur ≠ [] := fun e => by rw [e] at hC; cases hC
  rw [hf, fieldsQ_end t i hi, if_neg hcn, wCells_snoc]
  have := H.row.push (x := .string (bs cur)) (by rw [wCells_len]; exact hown) hgr
  rw [wCells_len] at this
  exact this

set_option maxRecDepth 20000 in
set_option maxHeartbeats 2000000 in
theorem cut_any (t : List UInt8) (ht : t.length ≤ 100000000) (w : World) :
    Calls Tryd.prog 45 #[.string (bs t)] w fun e w' => ∃ v, e = .returned v ∧ GRow 9 w w' v (wCells (fieldsQ t [])) := by
  obtain ⟨i0, hi, hz0, hz1, hz2⟩ := info_parts info_str
  obtain ⟨S, hS⟩ : ∃ S, S = bs t := ⟨_, rfl⟩
  have hSZ : S.size = t.length := by rw [hS, bs_size]
  have HGET := Lib.hid (fun (i : Nat) (h : i < S.size) (h' : i < t.length) => (by subst hS; rfl : S[i] = t[i]))
  have HEX := Lib.hid (fun (i : Nat) (h' : i < t.length) => (by rw [hS]; exact bs_one t i h' : S.extract i (i + 1) = bs [t[i]]))
  have HSZ := Lib.hid hSZ
  have hSm : S.size ≤ 100000000 := by omega
  rw [← hS]
  clear hS hSZ
  go_enter Tryd.func45, Tryd.ntmps45
  go_wp2_with fail
  go_loopw [3, 4, 5] (fun s3 s4 s5 wr => ∃ (i : Nat) (ws : List Wd) (C : ByteArray), s5 = .int .i64 i ∧ s4 = .string C ∧ Hid (CutI t w i ws C s3 wr)) (fun s3 s4 s5 _ => S.size - (intOf s5).toNat)
  case atStart => exact ⟨0, [], ⟨#[]⟩, rfl, rfl, Lib.hid ⟨Nat.zero_le _, Nat.le_refl _, GRow.nil _ _, [], rfl, by simp, by simp⟩⟩
  case round =>
    obtain ⟨i, ws, C, rfl, rfl, HI⟩ := hrel
    have hfew := HI.out.few
    have hile := HI.out.le
    have hCs : C.size ≤ i := by
      obtain ⟨cur, h1, h2, _⟩ := HI.out.cur
      rw [h1, bs_size]
      exact h2
    have hHS := HSZ.out
    have hwm : w.heap.size ≤ wr.heap.size := HI.out.row.below.size
    have HOA := Lib.hid (fun o => HI.out.row.own.alloc o)
    rw [wCells_len] at HOA
    by_cases hlt : i < S.size
    · have hlt2 : i < t.length := by omega
      have hget := HGET.out i hlt hlt2
      obtain ⟨x, hx⟩ : ∃ x, t[i] = x := ⟨_, rfl⟩
      by_cases h32 : t[i] = 32
      · have HN := Lib.hid (HI.out.same hlt2 h32)
        have HP := Lib.hid (fun hC => @CutI.put t w i ws C _ wr HI.out hlt2 h32 hC)
        have hb : ((S[i].toNat : Int) == 32) = true := by rw [hget, h32]; rfl
        clear hget hx h32 hHS
        cases hCe : C.toList.isEmpty with
        | true =>
          have HCE := Lib.hid (HN.out hCe)
          go_wp2_with fail
          go_roundw
          case rel => exact ⟨i + 1, ws, _, by go_num, rfl, HCE⟩
          case measure => simp [intOf]; omega
        | false =>
          have HCE := Lib.hid hCe
          go_wp2_with (at_builtin; refine wpList_append_lies _ rfl (.tmp 18) (.tmp 20) 50 rfl w.heap.size 9 i0 (.string ⟨#[]⟩) 1 16 Tryd.underlying50 hi hz0 hz1 hz2 rfl (by decide) _ ws.length (wCells ws) rfl (HOA.out _) ⟨wr.heap.size, 0, none⟩ 1 1 [.string C] rfl rfl ?c1 (by intro y hy; simp at hy; rw [hy]; rfl) (by decide) (by unfold maxLen; omega) (by omega) (by simp; omega) (wr.heap.size + 1) (by simp) ?_)
          case c1 =>
            intro k u hk
            rw [Lib.add_plain, Nat.zero_add, Lib.cell_of_heap (heap_alloc_new wr _), ← hk]
            match k with
            | 0 => rfl
            | k + 1 => rfl
          intro g cap w3 hown hgrow hg hgl
          obtain ⟨ws', HW⟩ := HP.out HCE.out hown hgrow
          have HNX := Lib.hid HW
          clear hown hgrow hg hgl HW
          go_wp2_with fail
          go_roundw
          case rel => exact ⟨i + 1, ws', _, by go_num, rfl, HNX⟩
          case measure => simp [intOf]; omega
      · have HN := Lib.hid (HI.out.add hlt2 h32)
        have hb : ((S[i].toNat : Int) == 32) = false := by
          rw [hget, beq_eq_false_iff_ne]
          intro e
          exact h32 (UInt8.toNat_inj.1 (by show t[i].toNat = 32; omega))
        have hex := HEX.out i hlt2
        obtain ⟨X, hX⟩ : ∃ X, X = bs [t[i]] := ⟨_, rfl⟩
        have hXs : X.size = 1 := by rw [hX]; rfl
        rw [← hX] at hex HN
        clear hget hx h32 hX hHS
        go_wp2_with fail
        go_roundw
        case rel => exact ⟨i + 1, ws, _, by go_num, rfl, HN⟩
        case measure => simp [intOf]; omega
    · have hlt2 : ¬ i < t.length := by omega
      cases hCe : C.toList.isEmpty with
      | true =>
        have HE := Lib.hid (HI.out.stop hlt2 hCe)
        go_wp2
        go_ret
        exact ⟨_, rfl, HE.out⟩
      | false =>
        have HP := Lib.hid (fun hC => @CutI.last t w i ws C _ wr HI.out hlt2 hC)
        have HCE := Lib.hid hCe
        clear hHS
        go_wp2_with (at_builtin; refine wpList_append_lies _ rfl (.tmp 31) (.tmp 33) 50 rfl w.heap.size 9 i0 (.string ⟨#[]⟩) 1 16 Tryd.underlying50 hi hz0 hz1 hz2 rfl (by decide) _ ws.length (wCells ws) rfl (HOA.out _) ⟨wr.heap.size, 0, none⟩ 1 1 [.string C] rfl rfl ?c2 (by intro y hy; simp at hy; rw [hy]; rfl) (by decide) (by unfold maxLen; omega) (by omega) (by simp; omega) (wr.heap.size + 1) (by simp) ?_)
        case c2 =>
          intro k u hk
          rw [Lib.add_plain, Nat.zero_add, Lib.cell_of_heap (heap_alloc_new wr _), ← hk]
          match k with
          | 0 => rfl
          | k + 1 => rfl
        intro g cap w3 hown hgrow hg hgl
        have HNX := Lib.hid (HP.out HCE.out hown hgrow)
        clear hown hgrow hg hgl
        go_wp2
        go_ret
        exact ⟨_, rfl, HNX.out⟩
end Go.Proofs.YtcikelcecfapcaaDoor

namespace Go.Proofs.YtcikelcecfapcaaDoor
open Go.RowKit Rp Rq

/-- The words of a list. -/
def takeN : Nat → List UInt8 → Except Int (List Wd × List UInt8)
  | 0, l => .ok ([], l)
  | n + 1, l => match wordQ l with | .error e => .error e | .ok (w, r) => (match takeN n r with | .error e => .error e | .ok (ws, r') => .ok (w :: ws, r'))
def pref (ws : List Wd) : Except Int (List Wd × List UInt8) → Except Int (List Wd × List UInt8)
  | .error e => .error e
  | .ok (us, r) => .ok (ws ++ us, r)
theorem pref_err {n : Nat} {ws : List Wd} {l : List UInt8} {x : Int} (h : wordQ l = .error x) : pref ws (takeN (n + 1) l) = .error x := by rw [takeN, h]; rfl
theorem pref_ok {n : Nat} {ws : List Wd} {l r : List UInt8} {w : Wd} (h : wordQ l = .ok (w, r)) : pref ws (takeN (n + 1) l) = pref (ws ++ [w]) (takeN n r) := by
  rw [takeN, h]
  simp only
  cases takeN n r with
  | error e => rfl
  | ok y =>
    obtain ⟨us, r'⟩ := y
    simp [pref]

theorem wordQ_eq (l : List UInt8) : wordQ l = match lineQ l with | .error e => .error e | .ok (t, r) => (match numS t 36 0 4096 with | .error e => .error e | .ok n => bodyQ n.toNat r) := by
  unfold wordQ
  cases hl : lineQ l with
  | error e => rfl
  | ok y =>
    obtain ⟨t, r⟩ := y
    cases t with
    | nil => rfl
    | cons x s =>
      simp only [numS]
      by_cases hx : x = 36
      · subst hx
        rfl
      · rw [if_neg hx, if_neg]
        intro h
        refine hx (UInt8.toNat_inj.1 ?_)
        show x.toNat = 36
        omega
theorem lineQ_code {l : List UInt8} {x : Int} (h : lineQ l = .error x) : x = 10 ∨ x = 11 ∨ x = 12 := by
  unfold lineQ at h
  repeat' split at h
  all_goals (cases h <;> simp)
theorem numS_code {t : List UInt8} {g a b x : Int} (h : numS t g a b = .error x) : x = 10 ∨ x = 12 := by
  unfold numS at h
  split at h
  · cases h; exact .inl rfl
  · split at h
    · exact numQ_err h
    · cases h; exact .inl rfl
theorem numS_ok {t : List UInt8} {g a b n : Int} (h : numS t g a b = .ok n) : a ≤ n ∧ n ≤ b := by
  unfold numS at h
  split at h
  · cases h
  · split at h
    · obtain ⟨h1, h2, _⟩ := numQ_ok h
      exact ⟨h1, h2⟩
    · cases h
theorem line_next {l : List UInt8} {a : Nat} {t r : List UInt8} (h : lineQ (l.drop a) = .ok (t, r)) : ∃ nx, nx ≤ l.length ∧ a + 2 ≤ nx ∧ r = l.drop nx ∧ l.length - r.length = nx := by
  have h0 := lineQ_len h
  obtain ⟨h1, h2, h3, h4, h5, h6⟩ := lineQ_ok h
  rw [List.drop_drop] at h6
  rw [List.length_drop] at h1 h0
  refine ⟨a + (lfAt (l.drop a) + 1), by omega, by omega, h6, ?_⟩
  rw [h6, List.length_drop]
  omega
theorem crlf_at {l : List UInt8} {j : Nat} (h : j + 1 < l.length) : crlf (l.drop j) = true ↔ l[j] = 13 ∧ l[j + 1] = 10 := by
  rw [List.drop_eq_getElem_cons (by omega : j < l.length), List.drop_eq_getElem_cons h]
  unfold crlf
  simp [List.isPrefixOf]
  constructor
  · rintro ⟨h1, h2⟩; exact ⟨h1.symm, h2.symm⟩
  · rintro ⟨h1, h2⟩; exact ⟨h1.symm, h2.symm⟩

theorem cellBelow {w w1 : World} (h : Below w.heap.size w w1) {p : Addr} {v : Value} (hc : w.cell? p = some v) : w1.cell? p = some v := (h.cell (World.block_lt_of_cell? w _ hc)).trans hc
theorem GRow.on {e : TypeId} {w0 w w' : World} {v : Value} {xs : List Value} (H : GRow e w0 w v xs) (hb : Below w.heap.size w w') : GRow e w0 w' v xs := ⟨(Chg.below hb (fun _ => False)).own H.own (fun _ _ h => h), bT H.below hb⟩

/-- What the reference's list answers. -/
def ListV (l : List UInt8) (w : World) (e : Ending) (w' : World) (a : Except Int (List Wd × List UInt8)) : Prop :=
  match a with
  | .ok (ws, r) => ∃ v, e = .returned (.tuple #[v, .int .i64 ((l.length - r.length : Nat) : Int), .int .i64 0]) ∧ GRow 9 w w' v (wCells ws)
  | .error x => e = .returned (.tuple #[.slice none 0 0, .int .i64 0, .int .i64 x]) ∧ Below w.heap.size w w'

structure ListI (l : List UInt8) (a n : Nat) (w : World) (k : Nat) (ws : List Wd) (q : Nat) (v : Value) (wr : World) : Prop where
  le : k ≤ n
  len : ws.length = k
  at_le : q ≤ l.length
  row : GRow 9 w wr v (wCells ws)
  goal : takeN n (l.drop a) = pref ws (takeN (n - k) (l.drop q))
theorem ListI.start (l : List UInt8) (a n : Nat) (ha : a ≤ l.length) (w : World) : ListI l a n w 0 [] a (.slice none 0 0) w := by
  refine ⟨Nat.zero_le _, rfl, ha, GRow.nil _ _, ?_⟩
  show _ = pref [] (takeN n (l.drop a))
  cases takeN n (l.drop a) with
  | error e => rfl
  | ok y => rfl
theorem ListI.err {l : List UInt8} {a n : Nat} {w : World} {k : Nat} {ws : List Wd} {q : Nat} {v : Value} {wr : World} (H : ListI l a n w k ws q v wr) (hk : k < n) {x : Int} (h : wordQ (l.drop q) = .error x) {w' : World} (hb : Below wr.heap.size wr w') :
    ListV l w (.returned (.tuple #[.slice none 0 0, .int .i64 0, .int .i64 x])) w' (takeN n (l.drop a)) := by
  rw [H.goal, show n - k = (n - k - 1) + 1 by omega, pref_err h]
  exact ⟨rfl, bT H.row.below hb⟩
theorem ListI.next {l : List UInt8} {a n : Nat} {w : World} {k : Nat} {ws : List Wd} {q : Nat} {v : Value} {wr : World} (H : ListI l a n w k ws q v wr) (hk : k < n) {x : Wd} {q' : Nat} (hq : q' ≤ l.length) (h : wordQ (l.drop q) = .ok (x, l.drop q')) {w1 : World} (hb : Below wr.heap.size wr w1) {o : Obj} {w2 : World} {g cap : Nat}
    (hown : w2.ownsRow w.heap.size 9 1 (.slice (some ⟨g, 0, none⟩) (k + 1) cap) (k + 1) (wCells ws ++ [.string (bs x)])) (hgr : (w1.alloc o).grownBy w2 v.ownBlock) :
    ListI l a n w (k + 1) (ws ++ [x]) q' (.slice (some ⟨g, 0, none⟩) (k + 1) cap) w2 := by
  refine ⟨hk, by rw [List.length_append, H.len]; rfl, hq, ?_, ?_⟩
  · rw [wCells_snoc]
    have := (H.row.on hb).push (x := .string (bs x)) (by rw [wCells_len, H.len]; exact hown) hgr
    rw [wCells_len, H.len] at this
    exact this
  · rw [H.goal, show n - k = (n - (k + 1)) + 1 by omega, pref_ok h]
theorem ListI.stop {l : List UInt8} {a n : Nat} {w : World} {k : Nat} {ws : List Wd} {q : Nat} {v : Value} {wr : World} (H : ListI l a n w k ws q v wr) (hk : ¬ k < n) :
    ListV l w (.returned (.tuple #[v, .int .i64 q, .int .i64 0])) wr (takeN n (l.drop a)) := by
  have h1 := H.le
  rw [H.goal, show n - k = 0 by omega]
  refine ⟨v, ?_, ?_⟩
  · have := H.at_le
    rw [List.length_drop, show l.length - (l.length - q) = q by omega]
  · rw [List.append_nil]
    exact H.row

set_option maxRecDepth 20000 in
set_option maxHeartbeats 4000000 in
theorem list_any (l : List UInt8) (hl : l.length ≤ 1000000000) (a : Nat) (ha : a ≤ l.length) (n : Nat) (hn : n ≤ 1000) (b o c : Nat) (w : World) (h : Rest w (some ⟨b, o, none⟩) c l) :
    Calls Tryd.prog 44 #[.slice (some ⟨b, o, none⟩) l.length c, .int .i64 a, .int .i64 n] w fun e w' => ListV l w e w' (takeN n (l.drop a)) := by
  obtain ⟨i0, hi, hz0, hz1, hz2⟩ := info_parts info_str
  have H3 := Lib.hid (rest_cell h)
  have hmx := h.len
  have hcap := h.bin.cap
  have hcm := h.bin.max
  have HH := Lib.hid h
  unfold maxLen at hcm
  clear h
  have HNUM := Lib.hid (show l.length ≤ 1000000000 from hl)
  go_enter Tryd.func44, Tryd.ntmps44
  go_wp2_with fail
  go_loopw [1, 9, 10] (fun s1 s9 s10 wr => ∃ (k : Nat) (ws : List Wd) (q : Nat), k ≤ n ∧ s1 = .int .i64 q ∧ s10 = .int .i64 k ∧ Hid (ListI l a n w k ws q s9 wr)) (fun s1 s9 s10 _ => n - (intOf s10).toNat)
  case atStart => exact ⟨0, [], a, Nat.zero_le _, rfl, rfl, Lib.hid (ListI.start l a n ha w)⟩
  case round =>
    obtain ⟨k, ws, q, hkn, rfl, rfl, HI⟩ := hrel
    by_cases hlt : k < n
    · have hqle := HI.out.at_le
      have HBW := Lib.hid HI.out.row.below
      have HR := Lib.hid (Rest.below HH.out HBW.out)
      have HLN := Lib.hid (rline_any l hl q hqle (some ⟨b, o, none⟩) c wr (.inl HR.out))
      have hdl : decide ((k : Int) < (n : Int)) = true := decide_eq_true (by omega)
      go_wp2_with fail
      refine HLN.out.mono ?_
      rintro e w1 ⟨hv, rfl⟩
      unfold RLineV at hv
      cases hlq : lineQ (l.drop q) with
      | error x =>
        rw [hlq] at hv
        subst hv
        have hx0 : (x != 0) = true := by
          rw [bne_iff_ne]
          rcases lineQ_code hlq with rfl | rfl | rfl <;> decide
        have HE := Lib.hid (HI.out.err hlt (x := x) (by rw [wordQ_eq, hlq]) (Below.refl _ _))
        clear hlq
        go_wp2
        go_ret3
        exact HE.out
      | ok y =>
        obtain ⟨t, r⟩ := y
        rw [hlq] at hv
        simp only at hv
        subst hv
        obtain ⟨nx, hnx, hnx2, hr, hnl⟩ := line_next hlq
        rw [hnl]
        have htl : t.length ≤ 281474976710656 := by
          have := lineQ_len hlq
          rw [List.length_drop] at this
          omega
        have HNB := Lib.hid (rnum_any t htl 36 0 4096 wr)
        have HLQ := Lib.hid hlq
        have HRR := Lib.hid hr
        clear hlq hr hnl
        go_wp2_with fail
        refine HNB.out.mono ?_
        rintro e w1 ⟨hv, hb1⟩
        have HB1 := Lib.hid hb1
        cases hnq : numS t 36 0 4096 with
        | error x =>
          rw [hnq] at hv
          have hv2 : e = .returned (.tuple #[.int .i64 0, .int .i64 x]) := hv
          subst hv2
          have hx0 : (x != 0) = true := by
            rw [bne_iff_ne]
            rcases numS_code hnq with rfl | rfl <;> decide
          have HE := Lib.hid (HI.out.err hlt (x := x) (by rw [wordQ_eq, HLQ.out]; simp only [hnq]) hb1)
          clear hnq hb1 hv
          go_wp2
          go_ret3
          exact HE.out
        | ok m =>
          rw [hnq] at hv
          have hv2 : e = .returned (.tuple #[.int .i64 m, .int .i64 0]) := hv
          subst hv2
          obtain ⟨hm0, hm1⟩ := numS_ok hnq
          obtain ⟨kk, rfl⟩ : ∃ kk : Nat, m = (kk : Int) := ⟨m.toNat, by omega⟩
          have HWQ := Lib.hid (show wordQ (l.drop q) = bodyQ kk (l.drop nx) by rw [wordQ_eq, HLQ.out]; simp only [hnq]; rw [HRR.out]; rfl)
          have hkk : kk ≤ 4096 := by omega
          clear hnq hv hm0 hm1 hb1
          by_cases hsh : l.length < nx + kk + 2
          · have HE := Lib.hid (HI.out.err hlt (x := 11) (by rw [HWQ.out]; unfold bodyQ; rw [if_pos (by rw [List.length_drop]; omega)]) HB1.out)
            have hd2 : decide ((l.length : Int) < (nx : Int) + (kk : Int) + 2) = true := decide_eq_true (by omega)
            go_wp2
            go_ret3
            exact HE.out
          · have hd2 : decide ((l.length : Int) < (nx : Int) + (kk : Int) + 2) = false := decide_eq_false (by omega)
            have hj0 : nx + kk < l.length := by omega
            have hj1 : nx + kk + 1 < l.length := by omega
            obtain ⟨x0, hx0⟩ : ∃ x0, l[nx + kk] = x0 := ⟨_, rfl⟩
            obtain ⟨x1, hx1⟩ : ∃ x1, l[nx + kk + 1] = x1 := ⟨_, rfl⟩
            have HB01 := Lib.hid (bT HBW.out HB1.out)
            have k0 := cellBelow HB01.out (H3.out _ hj0)
            have k1 := cellBelow HB01.out (H3.out _ hj1)
            rw [hx0] at k0
            rw [hx1] at k1
            by_cases hc : x0 = 13 ∧ x1 = 10
            · have hcr : crlf ((l.drop nx).drop kk) = true := by
                rw [List.drop_drop]
                exact (crlf_at hj1).2 ⟨hx0.trans hc.1, hx1.trans hc.2⟩
              obtain ⟨rfl, rfl⟩ := hc
              have hw : wordQ (l.drop q) = .ok ((l.drop nx).take kk, l.drop (nx + kk + 2)) := by
                rw [HWQ.out]
                unfold bodyQ
                rw [if_neg (by rw [List.length_drop]; omega), if_pos hcr, List.drop_drop, Nat.add_assoc]
              have HNX := Lib.hid (fun (o : Obj) (w2 : World) (g cap : Nat) => @ListI.next l a n w k ws q _ wr HI.out hlt _ (nx + kk + 2) (by omega) hw w1 HB1.out o w2 g cap)
              obtain ⟨T, hT⟩ : ∃ T, T = (l.drop nx).take kk := ⟨_, rfl⟩
              have hcv : (convert 22 9 (.slice (some ⟨b, o + nx, none⟩) kk (c - nx))).run Tryd.prog w1 = .ok (.string (bs T)) w1 := by
                rw [hT]
                refine convert_rest (l := l.drop nx) _ _ (by rw [List.length_drop]; omega) (fun j hj => ?_)
                rw [List.length_drop] at hj
                rw [List.getElem_drop, Nat.add_assoc]
                exact cellBelow HB01.out (H3.out (nx + j) (by omega))
              rw [← hT] at HNX
              have hck : (c = nx) = False := eq_false (by omega)
              have HOA := Lib.hid (fun o => (HI.out.row.on HB1.out).own.alloc o)
              rw [wCells_len, HI.out.len] at HOA
              have hsz : w.heap.size ≤ w1.heap.size := HB01.out.size
              clear hx0 hx1 hcr hw hT
              go_wp2_with (at_builtin; refine wpList_append_lies _ rfl (.tmp 62) (.tmp 70) 50 rfl w.heap.size 9 i0 (.string ⟨#[]⟩) 1 16 Tryd.underlying50 hi hz0 hz1 hz2 rfl (by decide) _ k (wCells ws) rfl (HOA.out _) ⟨w1.heap.size, 0, none⟩ 1 1 [.string (bs T)] rfl rfl ?c1 (by intro y hy; simp at hy; rw [hy]; rfl) (by decide) (by unfold maxLen; omega) (by omega) (by simp; omega) (w1.heap.size + 1) (by simp) ?_)
              case c1 =>
                intro k u hk
                rw [Lib.add_plain, Nat.zero_add, Lib.cell_of_heap (heap_alloc_new w1 _), ← hk]
                match k with
                | 0 => rfl
                | k + 1 => rfl
              intro g cap w3 hown hgrow hg hgl
              have HN := Lib.hid (HNX.out _ _ _ _ hown hgrow)
              clear hown hgrow hg hgl k0 k1 hcv
              go_wp2_with fail
              go_roundw
              case rel => exact ⟨k + 1, _, nx + kk + 2, by omega, by go_num, by go_num, HN⟩
              case measure => simp [intOf]; omega
            · have HE := Lib.hid (HI.out.err hlt (x := 10) (by
                rw [HWQ.out]
                unfold bodyQ
                rw [if_neg (by rw [List.length_drop]; omega), if_neg]
                intro hcr
                rw [List.drop_drop] at hcr
                have := (crlf_at hj1).1 hcr
                exact hc ⟨hx0.symm.trans this.1, hx1.symm.trans this.2⟩) HB1.out)
              have htest : ((x0.toNat : Int) != 13) = true ∨ ((x0.toNat : Int) != 13) = false ∧ ((x1.toNat : Int) != 10) = true := by
                by_cases h0 : x0 = 13
                · refine .inr ⟨by subst h0; rfl, ?_⟩
                  rw [bne_iff_ne]
                  exact fun e => hc ⟨h0, UInt8.toNat_inj.1 (by show x1.toNat = 10; omega)⟩
                · refine .inl ?_
                  rw [bne_iff_ne]
                  exact fun e => h0 (UInt8.toNat_inj.1 (by show x0.toNat = 13; omega))
              clear hx0 hx1 hc
              rcases htest with ht0 | ⟨ht0, ht1⟩
              · go_wp2
                go_ret3
                exact HE.out
              · go_wp2
                go_ret3
                exact HE.out
    · have HE := Lib.hid (HI.out.stop hlt)
      have hdl : decide ((k : Int) < (n : Int)) = false := decide_eq_false (by omega)
      go_wp2
      go_ret3
      exact HE.out
end Go.Proofs.YtcikelcecfapcaaDoor
