/-
  RequestInline: words in a line.
-/
import Derived.Test.YtcikelcecfapcaaDoorReqInlA
import Derived.Test.YtcikelcecfapcaaDoorReqOne
import Derived.Test.YtcikelcecfapcaaDoorReqBndA
import Derived.Test.YtcikelcecfapcaaDoorReqStrArg
namespace Go.Proofs.YtcikelcecfapcaaDoor
open Go.RowKit Rp Rq

set_option maxHeartbeats 1000000 in
theorem inline_far (p p2 : Option Addr) (c c2 n m : Nat) (h : n = 0 ∨ 40 < n ∨ 50 < m) (w : World) (hE : Errs w) :
    Calls Tryd.prog 8 #[.slice p n c, .slice p2 m c2] w fun e w' => e = .returned (.bool true) ∧ Below w.heap.size w w' := by
  have HE := Lib.hid hE
  clear hE
  by_cases h1 : n = 0
  · have hd : ((n : Int) == 0) = true := beq_iff_eq.2 (by omega)
    clear h h1
    go_enter Tryd.func8, Tryd.ntmps8
    go_wp2_with fail
    refine (awake_any w HE.out).mono ?_
    rintro e w1 ⟨rfl, hb1⟩
    go_wp2_with fail
    refine (awake_any w1 (HE.out.on hb1)).mono ?_
    rintro e w2 ⟨rfl, hb2⟩
    go_wp2
    go_ret
    exact ⟨rfl, bT hb1 hb2⟩
  have hd : ((n : Int) == 0) = false := beq_eq_false_iff_ne.2 (by omega)
  by_cases h2 : 40 < n
  · have hd2 : decide ((40 : Int) < (n : Int)) = true := decide_eq_true (by omega)
    clear h h1 h2
    go_enter Tryd.func8, Tryd.ntmps8
    go_wp2_with fail
    refine (awake_any w HE.out).mono ?_
    rintro e w1 ⟨rfl, hb1⟩
    go_wp2_with fail
    refine (awake_any w1 (HE.out.on hb1)).mono ?_
    rintro e w2 ⟨rfl, hb2⟩
    go_wp2
    go_ret
    exact ⟨rfl, bT hb1 hb2⟩
  have hd2 : decide ((40 : Int) < (n : Int)) = false := decide_eq_false (by omega)
  have hd3 : decide ((50 : Int) < (m : Int)) = true := decide_eq_true (by omega)
  clear h h1 h2
  go_enter Tryd.func8, Tryd.ntmps8
  go_wp2_with fail
  refine (awake_any w HE.out).mono ?_
  rintro e w1 ⟨rfl, hb1⟩
  go_wp2_with fail
  refine (awake_any w1 (HE.out.on hb1)).mono ?_
  rintro e w2 ⟨rfl, hb2⟩
  go_wp2
  go_ret
  exact ⟨rfl, bT hb1 hb2⟩

theorem spaces_next (k : Nat) (S : ByteArray) : S ++ bs (List.replicate k 32) ++ ⟨#[32]⟩ = S ++ bs (List.replicate (k + 1) 32) := by
  rw [show (⟨#[32]⟩ : ByteArray) = bs [32] from rfl, ByteArray.append_assoc, bsq_app, List.replicate_succ']
theorem bs_empty : bs [] = ⟨#[]⟩ := rfl
theorem app_empty (S : ByteArray) : S ++ bs [] = S := by
  rw [bs_empty]
  exact ByteArray.append_empty

set_option maxRecDepth 20000 in
set_option maxHeartbeats 8000000 in
theorem inline_some (ws : List Wd) (n : Nat) (hn : ws.length = n) (h0 : 0 < n) (h1 : n ≤ 40) (g o c : Nat) (p2 : Option Addr) (c2 : Nat) (l2 : List UInt8) (m : Nat) (hm : l2.length = m) (hm2 : m ≤ 50) (w : World) (hE : Errs w) (ha : WAt w g o ws) (h2 : Tail w p2 c2 l2) :
    Calls Tryd.prog 8 #[.slice (some ⟨g, o, none⟩) n c, .slice p2 m c2] w fun e w' => e = .returned (.bool true) ∧ Below w.heap.size w w' := by
  have HE := Lib.hid hE
  have HA := Lib.hid ha
  have H2 := Lib.hid h2
  have HN := Lib.hid hn
  have HM := Lib.hid hm
  clear hE ha h2 hn hm
  have hd : ((n : Int) == 0) = false := beq_eq_false_iff_ne.2 (by omega)
  have hd2 : decide ((40 : Int) < (n : Int)) = false := decide_eq_false (by omega)
  have hd3 : decide ((50 : Int) < (m : Int)) = false := decide_eq_false (by omega)
  go_enter Tryd.func8, Tryd.ntmps8
  go_wp2_with fail
  refine (awake_any w HE.out).mono ?_
  rintro e w1 ⟨rfl, hb1⟩
  have HB1 := Lib.hid hb1
  clear hb1
  go_wp2_with fail
  go_loopw [5, 6] (fun s5 s6 wr => ∃ (i : Nat) (S : ByteArray), i ≤ n ∧ s6 = .int .i64 i ∧ s5 = .string S ∧ Hid (InlI ws i S) ∧ Below w.heap.size w wr) (fun _ s6 _ => n - (intOf s6).toNat)
  case atStart => exact ⟨0, _, Nat.zero_le _, rfl, rfl, Lib.hid (InlI.start ws), HB1.out⟩
  case round =>
    obtain ⟨i, S, hi, rfl, rfl, HI, hbw⟩ := hrel
    have hSs := HI.out.size
    have HBW := Lib.hid hbw
    by_cases hlt : i < n
    · have hd1 : decide ((i : Int) < (n : Int)) = true := decide_eq_true (by omega)
      have hiw : i < ws.length := by have := HN.out; omega
      have k0 := cellBelow hbw (HA.out i hiw)
      have HNX := Lib.hid (fun hc g hg => HI.out.next hiw hc g hg)
      obtain ⟨x, hx⟩ : ∃ x, ws[i] = x := ⟨_, rfl⟩
      rw [hx] at k0 HNX
      obtain ⟨X, hX⟩ : ∃ X, X = bs x := ⟨_, rfl⟩
      have hXs : X.size = x.length := by rw [hX, bs_size]
      rw [← hX] at k0 HNX
      have HX := Lib.hid hX
      have HXS := Lib.hid hXs
      clear hX hXs hx hbw
      by_cases z0 : X.size = 0
      · have e0 : ((X.size : Int) == 0) = true := beq_iff_eq.2 (by omega)
        go_wp2
        go_ret
        exact ⟨rfl, HBW.out⟩
      have e0 : ((X.size : Int) == 0) = false := beq_eq_false_iff_ne.2 (by omega)
      by_cases z1 : 20 < X.size
      · have e1 : decide ((20 : Int) < (X.size : Int)) = true := decide_eq_true (by omega)
        go_wp2
        go_ret
        exact ⟨rfl, HBW.out⟩
      have e1 : decide ((20 : Int) < (X.size : Int)) = false := decide_eq_false (by omega)
      have HGET := Lib.hid (fun (k : Nat) (h : k < X.size) (h' : k < x.length) => (by have := HX.out; subst this; rfl : X[k] = x[k]))
      have hXp : 0 < X.size := by omega
      have hx0 : 0 < x.length := by have := HXS.out; omega
      have hg0 := HGET.out 0 hXp hx0
      by_cases hi0 : i = 0
      · have hz : ((i : Int) == 0) = true := beq_iff_eq.2 (by omega)
        have HI0 := Lib.hid hi0
        clear hi0
        by_cases c42 : x[0] = 42
        · have t0 : ((X[0].toNat : Int) == 42) = true := by rw [hg0, c42]; rfl
          clear hg0
          go_wp2
          go_ret
          exact ⟨rfl, HBW.out⟩
        have t0 : ((X[0].toNat : Int) == 42) = false := by rw [hg0]; exact byteNe 42 (fun h => c42 (UInt8.toNat_inj.1 h))
        have H42 := Lib.hid (show List.head? x ≠ some 42 from fun e => c42 (by
          cases x with
          | nil => simp at e
          | cons a x => simpa using e))
        clear hg0 c42
        go_wp2_with fail
        go_loopw [8] (fun s8 wi => ∃ k : Nat, k ≤ X.size ∧ s8 = .int .i64 k ∧ Hid (∀ y ∈ x.take k, y ≠ 32 ∧ y ≠ 10 ∧ y ≠ 13) ∧ wi = wr) (fun s8 _ => X.size - (intOf s8).toNat)
        case atStart => exact ⟨0, Nat.zero_le _, rfl, Lib.hid (fun y hy => by simp at hy), rfl⟩
        case round =>
          obtain ⟨k, hk, rfl, HC, rfl⟩ := hrel
          by_cases hkl : k < X.size
          · have hd4 : decide ((k : Int) < (X.size : Int)) = true := decide_eq_true (by omega)
            have hkx : k < x.length := by have := HXS.out; omega
            have hget := HGET.out k hkl hkx
            by_cases c32 : x[k] = 32
            · have t1 : ((X[k].toNat : Int) == 32) = true := by rw [hget, c32]; rfl
              clear hget
              go_wp2
              go_ret
              exact ⟨rfl, HBW.out⟩
            have t1 : ((X[k].toNat : Int) == 32) = false := by rw [hget]; exact byteNe 32 (fun h => c32 (UInt8.toNat_inj.1 h))
            by_cases c10 : x[k] = 10
            · have t2 : ((X[k].toNat : Int) == 10) = true := by rw [hget, c10]; rfl
              clear hget
              go_wp2
              go_ret
              exact ⟨rfl, HBW.out⟩
            have t2 : ((X[k].toNat : Int) == 10) = false := by rw [hget]; exact byteNe 10 (fun h => c10 (UInt8.toNat_inj.1 h))
            by_cases c13 : x[k] = 13
            · have t3 : ((X[k].toNat : Int) == 13) = true := by rw [hget, c13]; rfl
              clear hget
              go_wp2
              go_ret
              exact ⟨rfl, HBW.out⟩
            have t3 : ((X[k].toNat : Int) == 13) = false := by rw [hget]; exact byteNe 13 (fun h => c13 (UInt8.toNat_inj.1 h))
            have HC2 := Lib.hid (show ∀ y ∈ x.take (k + 1), y ≠ 32 ∧ y ≠ 10 ∧ y ≠ 13 from fun y hy => by
              rw [List.take_succ_eq_append_getElem hkx] at hy
              rcases List.mem_append.1 hy with hy | hy
              · exact HC.out y hy
              · obtain rfl : y = x[k] := by simpa using hy
                exact ⟨c32, c10, c13⟩)
            clear hget c32 c10 c13 hkx
            go_wp2_with fail
            go_roundw
            case rel => exact ⟨k + 1, by omega, by go_num, HC2, by first | rfl | trivial⟩
            case measure => simp [intOf]; omega
          · have hd4 : decide ((k : Int) < (X.size : Int)) = false := decide_eq_false (by omega)
            have HCALM := Lib.hid (show Calm x from ⟨fun e => z0 (by rw [HXS.out, e]; rfl), by have := HXS.out; omega, fun y hy => HC.out y (by rw [List.take_of_length_le (by have := HXS.out; omega)]; exact hy)⟩)
            by_cases him : i < m
            · have hd5 : decide ((i : Int) < (m : Int)) = true := decide_eq_true (by omega)
              have hil2 : i < l2.length := by have := HM.out; omega
              obtain ⟨b2, o2, hp2, k2⟩ : ∃ b2 o2, p2 = some ⟨b2, o2, none⟩ ∧ w.cell? ⟨b2, o2 + i, none⟩ = some (.int .u8 (l2[i].toNat : Nat)) := by
                rcases H2.out with h | ⟨h, _⟩
                · rcases h with ⟨_, h, _⟩ | ⟨b2, o2, h, _, _, h3⟩
                  · rw [h] at hil2; simp at hil2
                  · exact ⟨b2, o2, h, h3 i hil2⟩
                · rw [h] at hil2; simp at hil2
              subst hp2
              have k3 := cellBelow HBW.out k2
              have hx8 : l2[i].toNat < 256 := UInt8.toNat_lt _
              obtain ⟨z, hz⟩ : ∃ z, z = l2[i].toNat := ⟨_, rfl⟩
              rw [← hz] at k3 hx8
              clear k2 hil2 hz
              have hmod : Int.tmod (z : Int) 3 = ((z % 3 : Nat) : Int) := by rw [Int.tmod_eq_emod_of_nonneg (by omega)]; omega
              obtain ⟨y, hy⟩ : ∃ y, y = z % 3 := ⟨_, rfl⟩
              have hy3 : y < 3 := by omega
              rw [← hy] at hmod
              clear hy
              go_wp2_with fail
              obtain ⟨N, hN⟩ : ∃ N, N = 1 + y := ⟨_, rfl⟩
              have hNI : (1 : Int) + (y : Int) = (N : Int) := by omega
              have hN1 : 1 ≤ N := by omega
              have hN3 : N ≤ 3 := by omega
              rw [hNI]
              clear hN hNI hmod
              go_loopw [5, 10] (fun s5 s10 wi => ∃ (k : Nat) (C : ByteArray), k ≤ N ∧ k = 0 ∧ s10 = .int .i64 k ∧ s5 = .string C ∧ Hid (C = S ++ bs (List.replicate k 32)) ∧ wi = wr) (fun _ s10 _ => N - (intOf s10).toNat)
              case atStart => exact ⟨0, S, Nat.zero_le _, rfl, rfl, rfl, Lib.hid (by rw [List.replicate_zero, app_empty]), rfl⟩
              case round =>
                obtain ⟨k, C, hk, hk0, rfl, rfl, HC3, rfl⟩ := hrel
                have hCs : C.size ≤ 100000 := by rw [HC3.out, ByteArray.size_append, bs_size, List.length_replicate]; omega
                have hd6 : decide ((0 : Int) < (i : Int)) = false := decide_eq_false (by have := HI0.out; omega)
                have hd8 : decide (0 < i) = false := decide_eq_false (by have := HI0.out; omega)
                have hkN : k < N := by omega
                have hd7 : decide ((k : Int) < (N : Int)) = true := decide_eq_true (by omega)
                have hd9 : decide (k < N) = true := decide_eq_true (by omega)
                have HK0 := Lib.hid hk0
                clear hk0
                have HT := Lib.hid (show InlI ws (i + 1) (C ++ X) by rw [HC3.out, HK0.out]; exact HNX.out HCALM.out 0 (.inl ⟨HI0.out, rfl, H42.out⟩))
                go_wp2_with fail
                go_roundw
                case rel => exact ⟨i + 1, _, by omega, by go_num, rfl, HT, HBW.out⟩
                case measure => simp [intOf]; omega
            · have hd5 : decide ((i : Int) < (m : Int)) = false := decide_eq_false (by omega)
              go_wp2_with fail
              go_loopw [5, 10] (fun s5 s10 wi => ∃ (k : Nat) (C : ByteArray), k ≤ 1 ∧ k = 0 ∧ s10 = .int .i64 k ∧ s5 = .string C ∧ Hid (C = S ++ bs (List.replicate k 32)) ∧ wi = wr) (fun _ s10 _ => 1 - (intOf s10).toNat)
              case atStart => exact ⟨0, S, Nat.zero_le _, rfl, rfl, rfl, Lib.hid (by rw [List.replicate_zero, app_empty]), rfl⟩
              case round =>
                obtain ⟨k, C, hk, hk0, rfl, rfl, HC3, rfl⟩ := hrel
                have hCs : C.size ≤ 100000 := by rw [HC3.out, ByteArray.size_append, bs_size, List.length_replicate]; omega
                have hd6 : decide ((0 : Int) < (i : Int)) = false := decide_eq_false (by have := HI0.out; omega)
                have hd8 : decide (0 < i) = false := decide_eq_false (by have := HI0.out; omega)
                have hkN : k < 1 := by omega
                have hd7 : decide ((k : Int) < (1 : Int)) = true := decide_eq_true (by omega)
                have hd9 : decide (k < 1) = true := decide_eq_true (by omega)
                have hd10 : decide (k = 0) = true := decide_eq_true (by omega)
                have HK0 := Lib.hid hk0
                clear hk0
                have HT := Lib.hid (show InlI ws (i + 1) (C ++ X) by rw [HC3.out, HK0.out]; exact HNX.out HCALM.out 0 (.inl ⟨HI0.out, rfl, H42.out⟩))
                go_wp2_with fail
                go_roundw
                case rel => exact ⟨i + 1, _, by omega, by go_num, rfl, HT, HBW.out⟩
                case measure => simp [intOf]; omega
      · have hz : ((i : Int) == 0) = false := beq_eq_false_iff_ne.2 (by omega)
        clear hg0
        have HI0 := Lib.hid hi0
        clear hi0
        go_wp2_with fail
        go_loopw [8] (fun s8 wi => ∃ k : Nat, k ≤ X.size ∧ s8 = .int .i64 k ∧ Hid (∀ y ∈ x.take k, y ≠ 32 ∧ y ≠ 10 ∧ y ≠ 13) ∧ wi = wr) (fun s8 _ => X.size - (intOf s8).toNat)
        case atStart => exact ⟨0, Nat.zero_le _, rfl, Lib.hid (fun y hy => by simp at hy), rfl⟩
        case round =>
          obtain ⟨k, hk, rfl, HC, rfl⟩ := hrel
          by_cases hkl : k < X.size
          · have hd4 : decide ((k : Int) < (X.size : Int)) = true := decide_eq_true (by omega)
            have hkx : k < x.length := by have := HXS.out; omega
            have hget := HGET.out k hkl hkx
            by_cases c32 : x[k] = 32
            · have t1 : ((X[k].toNat : Int) == 32) = true := by rw [hget, c32]; rfl
              clear hget
              go_wp2
              go_ret
              exact ⟨rfl, HBW.out⟩
            have t1 : ((X[k].toNat : Int) == 32) = false := by rw [hget]; exact byteNe 32 (fun h => c32 (UInt8.toNat_inj.1 h))
            by_cases c10 : x[k] = 10
            · have t2 : ((X[k].toNat : Int) == 10) = true := by rw [hget, c10]; rfl
              clear hget
              go_wp2
              go_ret
              exact ⟨rfl, HBW.out⟩
            have t2 : ((X[k].toNat : Int) == 10) = false := by rw [hget]; exact byteNe 10 (fun h => c10 (UInt8.toNat_inj.1 h))
            by_cases c13 : x[k] = 13
            · have t3 : ((X[k].toNat : Int) == 13) = true := by rw [hget, c13]; rfl
              clear hget
              go_wp2
              go_ret
              exact ⟨rfl, HBW.out⟩
            have t3 : ((X[k].toNat : Int) == 13) = false := by rw [hget]; exact byteNe 13 (fun h => c13 (UInt8.toNat_inj.1 h))
            have HC2 := Lib.hid (show ∀ y ∈ x.take (k + 1), y ≠ 32 ∧ y ≠ 10 ∧ y ≠ 13 from fun y hy => by
              rw [List.take_succ_eq_append_getElem hkx] at hy
              rcases List.mem_append.1 hy with hy | hy
              · exact HC.out y hy
              · obtain rfl : y = x[k] := by simpa using hy
                exact ⟨c32, c10, c13⟩)
            clear hget c32 c10 c13 hkx
            go_wp2_with fail
            go_roundw
            case rel => exact ⟨k + 1, by omega, by go_num, HC2, by first | rfl | trivial⟩
            case measure => simp [intOf]; omega
          · have hd4 : decide ((k : Int) < (X.size : Int)) = false := decide_eq_false (by omega)
            have HCALM := Lib.hid (show Calm x from ⟨fun e => z0 (by rw [HXS.out, e]; rfl), by have := HXS.out; omega, fun y hy => HC.out y (by rw [List.take_of_length_le (by have := HXS.out; omega)]; exact hy)⟩)
            by_cases him : i < m
            · have hd5 : decide ((i : Int) < (m : Int)) = true := decide_eq_true (by omega)
              have hil2 : i < l2.length := by have := HM.out; omega
              obtain ⟨b2, o2, hp2, k2⟩ : ∃ b2 o2, p2 = some ⟨b2, o2, none⟩ ∧ w.cell? ⟨b2, o2 + i, none⟩ = some (.int .u8 (l2[i].toNat : Nat)) := by
                rcases H2.out with h | ⟨h, _⟩
                · rcases h with ⟨_, h, _⟩ | ⟨b2, o2, h, _, _, h3⟩
                  · rw [h] at hil2; simp at hil2
                  · exact ⟨b2, o2, h, h3 i hil2⟩
                · rw [h] at hil2; simp at hil2
              subst hp2
              have k3 := cellBelow HBW.out k2
              have hx8 : l2[i].toNat < 256 := UInt8.toNat_lt _
              obtain ⟨z, hz⟩ : ∃ z, z = l2[i].toNat := ⟨_, rfl⟩
              rw [← hz] at k3 hx8
              clear k2 hil2 hz
              have hmod : Int.tmod (z : Int) 3 = ((z % 3 : Nat) : Int) := by rw [Int.tmod_eq_emod_of_nonneg (by omega)]; omega
              obtain ⟨y, hy⟩ : ∃ y, y = z % 3 := ⟨_, rfl⟩
              have hy3 : y < 3 := by omega
              rw [← hy] at hmod
              clear hy
              go_wp2_with fail
              obtain ⟨N, hN⟩ : ∃ N, N = 1 + y := ⟨_, rfl⟩
              have hNI : (1 : Int) + (y : Int) = (N : Int) := by omega
              have hN1 : 1 ≤ N := by omega
              have hN3 : N ≤ 3 := by omega
              rw [hNI]
              clear hN hNI hmod
              go_loopw [5, 10] (fun s5 s10 wi => ∃ (k : Nat) (C : ByteArray), k ≤ N ∧ s10 = .int .i64 k ∧ s5 = .string C ∧ Hid (C = S ++ bs (List.replicate k 32)) ∧ wi = wr) (fun _ s10 _ => N - (intOf s10).toNat)
              case atStart => exact ⟨0, S, Nat.zero_le _, rfl, rfl, Lib.hid (by rw [List.replicate_zero, app_empty]), rfl⟩
              case round =>
                obtain ⟨k, C, hk, rfl, rfl, HC3, rfl⟩ := hrel
                have hCs : C.size ≤ 100000 := by rw [HC3.out, ByteArray.size_append, bs_size, List.length_replicate]; omega
                have hd6 : decide ((0 : Int) < (i : Int)) = true := decide_eq_true (by have := HI0.out; omega)
                have hd8 : decide (0 < i) = true := decide_eq_true (by have := HI0.out; omega)
                by_cases hkN : k < N
                · have hd7 : decide ((k : Int) < (N : Int)) = true := decide_eq_true (by omega)
                  have hd9 : decide (k < N) = true := decide_eq_true (by omega)
                  have HSP := Lib.hid (show C ++ ⟨#[32]⟩ = S ++ bs (List.replicate (k + 1) 32) by rw [HC3.out]; exact spaces_next k S)
                  go_wp2_with fail
                  go_roundw
                  case rel => exact ⟨k + 1, _, by omega, by go_num, rfl, HSP, by first | rfl | trivial⟩
                  case measure => simp [intOf]; omega
                · have HKN := Lib.hid (show k = N by omega)
                  have hd7 : decide ((k : Int) < (N : Int)) = false := decide_eq_false (by omega)
                  have hd9 : decide (k < N) = false := decide_eq_false (by omega)
                  have HT := Lib.hid (show InlI ws (i + 1) (C ++ X) by rw [HC3.out, HKN.out]; exact HNX.out HCALM.out N (.inr ⟨HI0.out, by omega, by omega⟩))
                  go_wp2_with fail
                  go_roundw
                  case rel => exact ⟨i + 1, _, by omega, by go_num, rfl, HT, HBW.out⟩
                  case measure => simp [intOf]; omega
            · have hd5 : decide ((i : Int) < (m : Int)) = false := decide_eq_false (by omega)
              go_wp2_with fail
              go_loopw [5, 10] (fun s5 s10 wi => ∃ (k : Nat) (C : ByteArray), k ≤ 1 ∧ s10 = .int .i64 k ∧ s5 = .string C ∧ Hid (C = S ++ bs (List.replicate k 32)) ∧ wi = wr) (fun _ s10 _ => 1 - (intOf s10).toNat)
              case atStart => exact ⟨0, S, Nat.zero_le _, rfl, rfl, Lib.hid (by rw [List.replicate_zero, app_empty]), rfl⟩
              case round =>
                obtain ⟨k, C, hk, rfl, rfl, HC3, rfl⟩ := hrel
                have hCs : C.size ≤ 100000 := by rw [HC3.out, ByteArray.size_append, bs_size, List.length_replicate]; omega
                have hd6 : decide ((0 : Int) < (i : Int)) = true := decide_eq_true (by have := HI0.out; omega)
                have hd8 : decide (0 < i) = true := decide_eq_true (by have := HI0.out; omega)
                by_cases hkN : k < 1
                · have hd7 : decide ((k : Int) < (1 : Int)) = true := decide_eq_true (by omega)
                  have hd9 : decide (k < 1) = true := decide_eq_true (by omega)
                  have hd10 : decide (k = 0) = true := decide_eq_true (by omega)
                  have HSP := Lib.hid (show C ++ ⟨#[32]⟩ = S ++ bs (List.replicate (k + 1) 32) by rw [HC3.out]; exact spaces_next k S)
                  go_wp2_with fail
                  go_roundw
                  case rel => exact ⟨k + 1, _, by omega, by go_num, rfl, HSP, by first | rfl | trivial⟩
                  case measure => simp [intOf]; omega
                · have HKN := Lib.hid (show k = 1 by omega)
                  have hd7 : decide ((k : Int) < (1 : Int)) = false := decide_eq_false (by omega)
                  have hd9 : decide (k < 1) = false := decide_eq_false (by omega)
                  have hd10 : decide (k = 0) = false := decide_eq_false (by omega)
                  have HT := Lib.hid (show InlI ws (i + 1) (C ++ X) by rw [HC3.out, HKN.out]; exact HNX.out HCALM.out 1 (.inr ⟨HI0.out, by omega, by omega⟩))
                  go_wp2_with fail
                  go_roundw
                  case rel => exact ⟨i + 1, _, by omega, by go_num, rfl, HT, HBW.out⟩
                  case measure => simp [intOf]; omega
    · have HIN := Lib.hid (show i = n by omega)
      have hd1 : decide ((i : Int) < (n : Int)) = false := decide_eq_false (by omega)
      have hws : 0 < ws.length ∧ ws.length ≤ 40 := ⟨by have := HN.out; omega, by have := HN.out; omega⟩
      obtain ⟨T, hTS, hTl, hwl, hgo⟩ := (show InlI ws ws.length S by rw [HN.out, ← HIN.out]; exact HI.out).stop hws.1 hws.2
      obtain ⟨l, hl⟩ : ∃ l, l = T ++ [32, 13, 10] := ⟨_, rfl⟩
      have hll : l.length ≤ 1000 := by rw [hl, List.length_append]; simp; omega
      have hbl : S ++ ⟨#[32, 13, 10]⟩ = bs l := by rw [hTS, hl, ← bsq_app]; rfl
      rw [← hl] at hgo
      have HGO := Lib.hid hgo
      have HWL := Lib.hid hwl
      have HWS := Lib.hid hws
      have hSs2 : S.size ≤ 1000 := by omega
      have HBL := Lib.hid hbl
      clear hTS hTl hwl hgo hl hbl hws hbw hi hSs
      go_wp2_with fail
      refine (new_any wr).mono ?_
      rintro e w2 ⟨rfl, rfl⟩
      go_wp2_with fail
      refine (new_any _).mono ?_
      rintro e w3 ⟨rfl, rfl⟩
      have hA3 : Box ((wr.alloc (.cells #[.int .i64 0, .slice none 0 0, .int .i64 0, .slice none 0 0, .int .i64 0] 69)).alloc (.cells #[.int .i64 0, .slice none 0 0, .int .i64 0, .slice none 0 0, .int .i64 0] 69)) wr.heap.size 0 (.slice none 0 0) 0 (.slice none 0 0) 0 := (Below.heap_alloc _ _ _ (by simp)).trans (heap_alloc_new wr _)
      have hB3 : Box ((wr.alloc (.cells #[.int .i64 0, .slice none 0 0, .int .i64 0, .slice none 0 0, .int .i64 0] 69)).alloc (.cells #[.int .i64 0, .slice none 0 0, .int .i64 0, .slice none 0 0, .int .i64 0] 69)) (wr.heap.size + 1) 0 (.slice none 0 0) 0 (.slice none 0 0) 0 := by simpa [Box] using heap_alloc_new (wr.alloc (.cells #[.int .i64 0, .slice none 0 0, .int .i64 0, .slice none 0 0, .int .i64 0] 69)) (.cells #[.int .i64 0, .slice none 0 0, .int .i64 0, .slice none 0 0, .int .i64 0] 69)
      have hb3 : Below wr.heap.size wr ((wr.alloc (.cells #[.int .i64 0, .slice none 0 0, .int .i64 0, .slice none 0 0, .int .i64 0] 69)).alloc (.cells #[.int .i64 0, .slice none 0 0, .int .i64 0, .slice none 0 0, .int .i64 0] 69)) := bA (bA (Below.refl _ _) _) _
      have hs3 : ((wr.alloc (.cells #[.int .i64 0, .slice none 0 0, .int .i64 0, .slice none 0 0, .int .i64 0] 69)).alloc (.cells #[.int .i64 0, .slice none 0 0, .int .i64 0, .slice none 0 0, .int .i64 0] 69)).heap.size = wr.heap.size + 2 := by simp
      simp only [World.size_alloc]
      generalize (wr.alloc (.cells #[.int .i64 0, .slice none 0 0, .int .i64 0, .slice none 0 0, .int .i64 0] 69)).alloc (.cells #[.int .i64 0, .slice none 0 0, .int .i64 0, .slice none 0 0, .int .i64 0] 69) = w3 at *
      have hwr := HBW.out.size
      obtain ⟨R, hR⟩ : ∃ R, wr.heap.size = R := ⟨_, rfl⟩
      have HBW3 := Lib.hid (bT HBW.out hb3)
      rw [hR] at hA3 hB3 hs3 hwr ⊢
      have HA3 := Lib.hid hA3
      have HB3 := Lib.hid hB3
      obtain ⟨cap, W, hcv, hmk, hbm⟩ := conv_new w3 l (by omega)
      rw [← HBL.out] at hcv
      have HFA := Lib.hid (fed_conv w HE.out R l [ws] _ HGO.out w3.heap.size cap w3 W hmk hbm HA3.out HBW3.out hwr (by omega) (by omega))
      have HBM := Lib.hid hbm
      have HS3 := Lib.hid hs3
      clear hA3 hB3 hb3 hs3 hmk hbm hR
      go_wp2_with fail
      refine HFA.out.mono ?_
      rintro e w4 ⟨p4, d4, he, hch, hT⟩
      obtain rfl : e = .returned (.tuple #[.slice p4 1 d4, .int .i64 0]) := he
      have hb34 := bT HBM.out (bA (Below.refl W.heap.size W) (.cells #[.slice (some ⟨w3.heap.size, 0, none⟩) l.length cap] 22))
      have hB4 : Below w.heap.size w w4 := hch.on (bT HBW3.out hb34) (bT HBW3.out hb34).size (fun k hk => by rw [hk]; exact hwr)
      have hBX4 : Box w4 (R + 1) 0 (.slice none 0 0) 0 (.slice none 0 0) 0 := hch.box (HB3.out.below hb34) (by omega)
      have HT4 := Lib.hid hT
      have HB4 := Lib.hid hB4
      have HBX4 := Lib.hid hBX4
      have hs4 : R + 2 ≤ w4.heap.size := by
        have h1 := hb34.size
        have h2 := hch.size
        have h3 := HS3.out
        omega
      have hPR := printq_any ws (some ⟨g, o, none⟩) c w4 (HE.out.on hB4).tab (.inr ⟨g, o, rfl, HA.out.below hB4⟩)
      rw [HN.out] at hPR
      have HPR := Lib.hid hPR
      have hpq : printQ ws = encQ ws := by
        unfold printQ
        rw [if_neg]
        rintro (h | h | ⟨x, hx, h⟩)
        · have := HWS.out.1; rw [h] at this; simp at this
        · have := HWS.out.2; omega
        · have := HWL.out x hx; omega
      have hpl : (printQ ws).length ≤ 1000000 := by
        rw [hpq]
        have h2 := flat_len ws (fun x hx => HWL.out x hx)
        have h4 := HWS.out.2
        have h3 := itoa_len (ws.length : Int) (by omega) (by omega)
        unfold encQ
        rw [List.length_cons, List.length_append, List.length_cons, List.length_cons]
        omega
      have HG2 := Lib.hid (show Rq.Go (St.new (printQ ws)) [ws] (.more (St.new [])) by
        rw [hpq]
        exact go_count ws (fun e => by have := HWS.out.1; rw [e] at this; simp at this) (by have := HWS.out.2; omega) HWL.out)
      have HPL := Lib.hid hpl
      clear hch hT hb34 hB4 hBX4 hPR hpq hpl hcv
      go_wp2_with fail
      refine HPR.out.mono ?_
      rintro e w5 ⟨⟨v5, rfl, hown⟩, hb5⟩
      obtain ⟨m2, hm2⟩ : ∃ m2, m2 = printQ ws := ⟨_, rfl⟩
      rw [← hm2] at HG2 HPL hown
      obtain ⟨q5, d5, rfl, hr5⟩ := own_rest hown
      have hb6 := bA (Below.refl w5.heap.size w5) (.cells #[.slice q5 m2.length d5] 22)
      have hb56 := bT hb5 hb6
      have HB6 := Lib.hid (bT HB4.out hb56)
      have hs5 := hb5.size
      have hBX6 := HBX4.out.below hb56
      have HT6 := Lib.hid (HT4.out.on hb56)
      have HBX6 := Lib.hid hBX6
      have HFB := Lib.hid (fed_new w HE.out (R + 1) m2 [ws] _ HG2.out q5 d5 w5.heap.size 1 (w5.alloc (.cells #[.slice q5 m2.length d5] 22)) hBX6 HB6.out (by omega) (by rw [Lib.cell_of_heap (heap_alloc_new w5 _)]; rfl) (hr5.below hb6) (fun b' o' hb => by
        subst hb
        have := (hown.lt b' rfl).1
        omega) (by omega) (by have := HPL.out; omega))
      clear hown hb5 hr5 hb6 hb56 hBX6 hm2
      go_wp2_with fail
      refine HFB.out.mono ?_
      rintro e w7 ⟨p7, d7, he, hch7, hT7⟩
      obtain rfl : e = .returned (.tuple #[.slice p7 1 d7, .int .i64 0]) := he
      have hB7 : Below w.heap.size w w7 := hch7.on HB6.out HB6.out.size (fun k hk => by rw [hk]; omega)
      have hTA := HT6.out.box HBX6.out hch7
      have HSM := Lib.hid (same_any [ws] [ws] (by simp) (fun x hx => by
        obtain rfl : x = ws := by simpa using hx
        have := HWS.out.2
        omega) (.slice p4 1 d4) (.slice p7 1 d7) w7 hTA.is hT7.is)
      have HB7 := Lib.hid hB7
      clear hch7 hT7 hB7 hTA
      go_wp2_with fail
      refine HSM.out.mono ?_
      rintro e w8 ⟨rfl, hb8⟩
      have HB8 := Lib.hid (bT HB7.out hb8)
      clear hb8
      simp only [decide_true]
      go_wp2
      go_ret
      exact ⟨rfl, HB8.out⟩

/-- RequestInline. -/
theorem inline_any (ws : List Wd) (p p2 : Option Addr) (c c2 : Nat) (l2 : List UInt8) (w : World) (ha : WIn w p ws) (h2 : Tail w p2 c2 l2) (hE : Errs w) :
    Calls Tryd.prog 8 #[.slice p ws.length c, .slice p2 l2.length c2] w fun e w' => e = .returned (.bool true) ∧ Below w.heap.size w w' := by
  by_cases h : ws.length = 0 ∨ 40 < ws.length ∨ 50 < l2.length
  · exact inline_far p p2 c c2 _ _ h w hE
  · rcases ha with rfl | ⟨g, o, rfl, ha⟩
    · exact absurd (.inl rfl) h
    · exact inline_some ws _ rfl (by omega) (by omega) g o c p2 c2 l2 _ rfl (by omega) w hE ha h2
end Go.Proofs.YtcikelcecfapcaaDoor
