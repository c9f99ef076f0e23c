/-
  The reference's line and number, of any bytes.
-/
import Derived.Test.YtdeacankicciaaaDoorReqFeedOn
namespace Go.Proofs.YtdeacankicciaaaDoor
open Go.RowKit Rp Rq

theorem lf_before {l : List UInt8} {a e : Nat} (hae : a ≤ e) (h : e < a + lfAt (l.drop a)) (hl : e < l.length) : l[e] ≠ 10 := by
  have h1 : e - a < lfAt (l.drop a) := by omega
  have h2 := List.not_of_lt_findIdx h1
  rw [List.getElem_drop] at h2
  have h3 : a + (e - a) = e := by omega
  simp only [h3] at h2
  simpa using h2
theorem lf_here {l : List UInt8} {a k : Nat} (hk : lfAt (l.drop a) = k) (h : a + k < l.length) : l[a + k] = 10 := by
  subst hk
  have h2 := lf_is (l := l.drop a) (by rw [List.length_drop]; omega)
  rwa [List.getElem_drop] at h2
theorem byteNe {x : UInt8} (n : Nat) (h : ¬ x.toNat = n) : ((x.toNat : Int) == (n : Int)) = false := by
  rw [beq_eq_false_iff_ne]
  omega

def RLineV (l : List UInt8) (a : Nat) (e : Ending) : Prop :=
  match lineQ (l.drop a) with
  | .ok (t, r) => e = .returned (.tuple #[.string (bs t), .int .i64 ((l.length - r.length : Nat) : Int), .int .i64 0])
  | .error x => e = .returned (.tuple #[.string ⟨#[]⟩, .int .i64 0, .int .i64 x])

set_option maxRecDepth 20000 in
set_option maxHeartbeats 1000000 in
theorem rline_nil (v : Option Addr) (c : Nat) (w : World) :
    Calls Tryd.prog 42 #[.slice v 0 c, .int .i64 0] w fun e w' => e = .returned (.tuple #[.string ⟨#[]⟩, .int .i64 0, .int .i64 11]) ∧ w = w' := by
  go_enter Tryd.func42, Tryd.ntmps42
  go_wp2_with fail
  go_loop [7] (fun s7 => s7 = .int .i64 0) (fun s7 => 0)
  case atStart => rfl
  case round =>
    subst hrel
    go_wp2
    go_ret3
    exact ⟨rfl, rfl⟩

set_option maxRecDepth 20000 in
set_option maxHeartbeats 1000000 in
/-- No line ends. -/
theorem rline_off (l : List UInt8) (hl : l.length ≤ 1000000000) (a : Nat) (ha : a ≤ l.length) (hn : ¬ (lfAt (l.drop a) < (l.drop a).length ∧ lfAt (l.drop a) < 1026)) (x : Int) (hx : ((l.length - a : Nat) < 1026 ∧ x = 11) ∨ (¬ (l.length - a : Nat) < 1026 ∧ x = 12)) (b o c : Nat) (w : World) (h : Rest w (some ⟨b, o, none⟩) c l) :
    Calls Tryd.prog 42 #[.slice (some ⟨b, o, none⟩) l.length c, .int .i64 a] w fun e w' => e = .returned (.tuple #[.string ⟨#[]⟩, .int .i64 0, .int .i64 x]) ∧ w = w' := by
  have H3 := Lib.hid (rest_cell h)
  have hmx := h.len
  have hcap := h.bin.cap
  have hcm := h.bin.max
  unfold maxLen at hcm
  have HB := Lib.hid (fun (e : Nat) (hae : a ≤ e) (he : e < l.length) (h2 : e < a + 1026) => (by
    refine byteNe 10 (fun hh => ?_)
    refine lf_before hae ?_ he (UInt8.toNat_inj.1 hh)
    rw [List.length_drop] at hn
    omega : ((l[e].toNat : Int) == 10) = false))
  have HX := Lib.hid hx
  clear h hn hx
  go_enter Tryd.func42, Tryd.ntmps42
  go_wp2_with fail
  go_loop [7] (fun s7 => ∃ e : Nat, a ≤ e ∧ e ≤ l.length ∧ e ≤ a + 1026 ∧ s7 = .int .i64 e) (fun s7 => l.length - (intOf s7).toNat)
  case atStart => exact ⟨a, Nat.le_refl _, ha, by omega, rfl⟩
  case round =>
    obtain ⟨e, hae, hel, he2, rfl⟩ := hrel
    by_cases hlt : e < l.length
    · have hd1 : decide ((e : Int) < (l.length : Int)) = true := decide_eq_true (by omega)
      by_cases hlt2 : e < a + 1026
      · have hd2 : decide ((e : Int) < (a : Int) + 1026) = true := decide_eq_true (by omega)
        have k0 := H3.out e hlt
        have k1 := HB.out e hae hlt hlt2
        go_wp2_with fail
        go_round
        case rel => exact ⟨e + 1, by omega, by omega, by omega, by go_num⟩
        case measure => simp [intOf]; omega
      · have hd2 : decide ((e : Int) < (a : Int) + 1026) = false := decide_eq_false (by omega)
        obtain rfl : x = 12 := by
          rcases HX.out with ⟨h1, h2⟩ | ⟨h1, h2⟩
          · omega
          · exact h2
        have hd3 : decide ((1026 : Int) ≤ (l.length : Int) - (a : Int)) = true := decide_eq_true (by omega)
        go_wp2
        go_ret3
        exact ⟨rfl, rfl⟩
    · have hd1 : decide ((e : Int) < (l.length : Int)) = false := decide_eq_false (by omega)
      rcases HX.out with ⟨h1, rfl⟩ | ⟨h1, rfl⟩
      · have hd3 : decide ((1026 : Int) ≤ (l.length : Int) - (a : Int)) = false := decide_eq_false (by omega)
        go_wp2
        go_ret3
        exact ⟨rfl, rfl⟩
      · have hd3 : decide ((1026 : Int) ≤ (l.length : Int) - (a : Int)) = true := decide_eq_true (by omega)
        go_wp2
        go_ret3
        exact ⟨rfl, rfl⟩

set_option maxRecDepth 20000 in
set_option maxHeartbeats 1000000 in
/-- A line ends, and no CR stands before its end. -/
theorem rline_form (l : List UInt8) (hl : l.length ≤ 1000000000) (a k : Nat) (hk : Hid (lfAt (l.drop a) = k)) (ha : a + k < l.length) (hk2 : k < 1026) (hn : k = 0 ∨ ¬ (l[a + k - 1]'(by omega)).toNat = 13) (b o c : Nat) (w : World) (h : Rest w (some ⟨b, o, none⟩) c l) :
    Calls Tryd.prog 42 #[.slice (some ⟨b, o, none⟩) l.length c, .int .i64 a] w fun e w' => e = .returned (.tuple #[.string ⟨#[]⟩, .int .i64 0, .int .i64 10]) ∧ w = w' := by
  have H3 := Lib.hid (rest_cell h)
  have hmx := h.len
  have hcap := h.bin.cap
  have hcm := h.bin.max
  unfold maxLen at hcm
  have HB := Lib.hid (fun (e : Nat) (hae : a ≤ e) (he : e < l.length) (h2 : e < a + k) => (by
    refine byteNe 10 (fun hh => ?_)
    refine lf_before hae (by rw [hk.out]; exact h2) he (UInt8.toNat_inj.1 hh) : ((l[e].toNat : Int) == 10) = false))
  have H10 := Lib.hid (lf_here hk.out ha)
  have HN := Lib.hid hn
  clear h hn
  go_enter Tryd.func42, Tryd.ntmps42
  go_wp2_with fail
  go_loop [7] (fun s7 => ∃ e : Nat, a ≤ e ∧ e ≤ a + k ∧ s7 = .int .i64 e) (fun s7 => l.length - (intOf s7).toNat)
  case atStart => exact ⟨a, Nat.le_refl _, by omega, rfl⟩
  case round =>
    obtain ⟨e, hae, hel, rfl⟩ := hrel
    have hd1 : decide ((e : Int) < (l.length : Int)) = true := decide_eq_true (by omega)
    have hd2 : decide ((e : Int) < (a : Int) + 1026) = true := decide_eq_true (by omega)
    have hle : e < l.length := by omega
    obtain ⟨x0, hx0⟩ : ∃ x0, l[e] = x0 := ⟨_, rfl⟩
    have k0 := H3.out e hle
    rw [hx0] at k0
    by_cases hlt : e < a + k
    · have k1 := HB.out e hae hle hlt
      rw [hx0] at k1
      clear hx0
      go_wp2_with fail
      go_round
      case rel => exact ⟨e + 1, by omega, by omega, by go_num⟩
      case measure => simp [intOf]; omega
    · have he : e = a + k := by omega
      obtain rfl : x0 = 10 := hx0.symm.trans (by simp only [he]; exact H10.out)
      clear hx0
      by_cases hz : k = 0
      · have hd3 : ((e : Int) == (a : Int)) = true := by rw [beq_iff_eq]; omega
        clear he
        go_wp2
        go_ret3
        exact ⟨rfl, rfl⟩
      · have hd3 : ((e : Int) == (a : Int)) = false := by rw [beq_eq_false_iff_ne]; omega
        have hlm : e - 1 < l.length := by omega
        obtain ⟨x1, hx1⟩ : ∃ x1, l[e - 1] = x1 := ⟨_, rfl⟩
        have k1 := H3.out (e - 1) hlm
        rw [hx1] at k1
        have k2 : ((x1.toNat : Int) != 13) = true := by
          rw [bne_iff_ne, ← hx1]
          have := HN.out.resolve_left hz
          simp only [he]
          omega
        have hg : 1 ≤ (e : Int) ∧ (e : Int) - 1 < (l.length : Int) := by omega
        clear hx1 he
        go_wp2
        go_ret3
        exact ⟨rfl, rfl⟩

set_option maxRecDepth 20000 in
set_option maxHeartbeats 1000000 in
/-- A line. -/
theorem rline_found (l : List UInt8) (hl : l.length ≤ 1000000000) (a k : Nat) (hk : Hid (lfAt (l.drop a) = k)) (ha : a + k < l.length) (hk2 : k < 1026) (hz : k ≠ 0) (h13 : (l[a + k - 1]'(by omega)) = 13) (b o c : Nat) (w : World) (h : Rest w (some ⟨b, o, none⟩) c l) :
    Calls Tryd.prog 42 #[.slice (some ⟨b, o, none⟩) l.length c, .int .i64 a] w fun e w' => e = .returned (.tuple #[.string (bs ((l.drop a).take (k - 1))), .int .i64 ((a + k + 1 : Nat) : Int), .int .i64 0]) ∧ w = w' := by
  have H3 := Lib.hid (rest_cell h)
  have hmx := h.len
  have hcap := h.bin.cap
  have hcm := h.bin.max
  unfold maxLen at hcm
  have HB := Lib.hid (fun (e : Nat) (hae : a ≤ e) (he : e < l.length) (h2 : e < a + k) => (by
    refine byteNe 10 (fun hh => ?_)
    refine lf_before hae (by rw [hk.out]; exact h2) he (UInt8.toNat_inj.1 hh) : ((l[e].toNat : Int) == 10) = false))
  have H10 := Lib.hid (lf_here hk.out ha)
  have H13 := Lib.hid h13
  have HCV := Lib.hid (show (convert 22 9 (.slice (some ⟨b, o + a, none⟩) (a + k - 1 - a) (c - a))).run Tryd.prog w = .ok (.string (bs ((l.drop a).take (k - 1)))) w by
    rw [show a + k - 1 - a = k - 1 by omega]
    refine convert_rest (l := l.drop a) _ _ (by rw [List.length_drop]; omega) (fun j hj => ?_)
    rw [List.length_drop] at hj
    rw [List.getElem_drop, Nat.add_assoc]
    exact H3.out (a + j) (by omega))
  have hck : (c = a) = False := eq_false (by omega)
  generalize (l.drop a).take (k - 1) = T at *
  clear h h13
  go_enter Tryd.func42, Tryd.ntmps42
  go_wp2_with fail
  go_loop [7] (fun s7 => ∃ e : Nat, a ≤ e ∧ e ≤ a + k ∧ s7 = .int .i64 e) (fun s7 => l.length - (intOf s7).toNat)
  case atStart => exact ⟨a, Nat.le_refl _, by omega, rfl⟩
  case round =>
    obtain ⟨e, hae, hel, rfl⟩ := hrel
    have hd1 : decide ((e : Int) < (l.length : Int)) = true := decide_eq_true (by omega)
    have hd2 : decide ((e : Int) < (a : Int) + 1026) = true := decide_eq_true (by omega)
    have hle : e < l.length := by omega
    obtain ⟨x0, hx0⟩ : ∃ x0, l[e] = x0 := ⟨_, rfl⟩
    have k0 := H3.out e hle
    rw [hx0] at k0
    by_cases hlt : e < a + k
    · have k1 := HB.out e hae hle hlt
      rw [hx0] at k1
      clear hx0
      go_wp2_with fail
      go_round
      case rel => exact ⟨e + 1, by omega, by omega, by go_num⟩
      case measure => simp [intOf]; omega
    · have he : e = a + k := by omega
      obtain rfl : x0 = 10 := hx0.symm.trans (by simp only [he]; exact H10.out)
      clear hx0
      have hd3 : ((e : Int) == (a : Int)) = false := by rw [beq_eq_false_iff_ne]; omega
      have hlm : e - 1 < l.length := by omega
      obtain ⟨x1, hx1⟩ : ∃ x1, l[e - 1] = x1 := ⟨_, rfl⟩
      have k1 := H3.out (e - 1) hlm
      rw [hx1] at k1
      obtain rfl : x1 = 13 := by
        rw [← hx1]
        have := H13.out
        simp only [he]
        exact this
      have hcv := HCV.out
      rw [← he] at hcv
      have hle1 : a ≤ e - 1 := by omega
      have HE := Lib.hid he
      clear hx1 he
      go_wp2
      go_ret3
      refine ⟨?_, rfl⟩
      have hE : (a : Int) + (k : Int) + 1 = (e : Int) + 1 := by
        have := HE.out
        omega
      rw [hE]
      rfl

/-- The reference's line, of any bytes. -/
theorem rline_any (l : List UInt8) (hl : l.length ≤ 1000000000) (a : Nat) (ha : a ≤ l.length) (p : Option Addr) (c : Nat) (w : World) (h : Tail w p c l) :
    Calls Tryd.prog 42 #[.slice p l.length c, .int .i64 a] w fun e w' => RLineV l a e ∧ w = w' := by
  by_cases hnil : l = []
  · subst hnil
    obtain rfl : a = 0 := by simpa using ha
    exact (rline_nil p c w).mono fun e w' ⟨h1, h2⟩ => ⟨h1, h2⟩
  rcases h with h | ⟨h, _⟩
  · rcases h with ⟨_, h, _⟩ | ⟨b, o, rfl, h1, h2, h3⟩
    · exact absurd h hnil
    have h : Rest w (some ⟨b, o, none⟩) c l := .inr ⟨b, o, rfl, h1, h2, h3⟩
    unfold RLineV
    obtain ⟨k, hk⟩ : ∃ k, lfAt (l.drop a) = k := ⟨_, rfl⟩
    have hdl : (l.drop a).length = l.length - a := List.length_drop
    unfold lineQ
    by_cases hf : lfAt (l.drop a) < (l.drop a).length ∧ lfAt (l.drop a) < 1026
    · rw [if_pos hf]
      rw [hk] at hf ⊢
      have hak : a + k < l.length := by omega
      by_cases hc : k ≠ 0 ∧ (l.drop a)[k - 1]? = some 13
      · rw [if_pos hc]
        have h13 : l[a + k - 1]'(by omega) = 13 := by
          have h1 := hc.2
          rw [List.getElem?_drop, List.getElem?_eq_getElem (show a + (k - 1) < l.length by omega), Option.some.injEq] at h1
          have h2 : a + (k - 1) = a + k - 1 := by omega
          simp only [h2] at h1
          exact h1
        refine (rline_found l hl a k (Lib.hid hk) hak hf.2 hc.1 h13 b o c w h).mono ?_
        rintro e w' ⟨rfl, rfl⟩
        refine ⟨?_, rfl⟩
        have h9 : l.length - ((l.drop a).drop (k + 1)).length = a + k + 1 := by
          rw [List.length_drop, hdl]
          omega
        show _ = Ending.returned (.tuple #[.string (bs ((l.drop a).take (k - 1))), .int .i64 ((l.length - ((l.drop a).drop (k + 1)).length : Nat) : Int), .int .i64 0])
        rw [h9]
      · rw [if_neg hc]
        refine rline_form l hl a k (Lib.hid hk) hak hf.2 ?_ b o c w h
        by_cases hz : k = 0
        · exact .inl hz
        refine .inr fun hh => hc ⟨hz, ?_⟩
        rw [List.getElem?_drop, List.getElem?_eq_getElem (show a + (k - 1) < l.length by omega), Option.some.injEq]
        have h2 : a + k - 1 = a + (k - 1) := by omega
        simp only [h2] at hh
        exact UInt8.toNat_inj.1 hh
    · rw [if_neg hf]
      by_cases h5 : (l.drop a).length < 1026
      · rw [if_pos h5]
        exact rline_off l hl a ha hf 11 (.inl ⟨by omega, rfl⟩) b o c w h
      · rw [if_neg h5]
        exact rline_off l hl a ha hf 12 (.inr ⟨by omega, rfl⟩) b o c w h
  · exact absurd h hnil
end Go.Proofs.YtdeacankicciaaaDoor
