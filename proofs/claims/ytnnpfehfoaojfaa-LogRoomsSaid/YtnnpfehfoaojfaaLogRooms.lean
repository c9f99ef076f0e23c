/-
  Whatever is appended: room and sectors.
-/
import Derived.Test.YtnnpfehfoaojfaaLogSt
namespace Go.Proofs.Ytnnpfehfoaojfaa
open Go.RowKit Go.Shelf

theorem need_any (n : Nat) (hn : n ≤ 1000000) (w : World) :
    Calls Try.prog 23 #[.int .i64 n] w fun e w' => e = .returned (.int .i64 (secs n)) ∧ w = w' := by
  go_enter Try.func23, Try.ntmps23
  go_wp2
  go_loopw [0, 3] (fun s0 s3 wr => ∃ i : Nat, i ≤ (n + 62) / 63 ∧ s0 = .int .i64 ((n : Int) - 63 * i) ∧ s3 = .int .i64 ((1 : Int) + i) ∧ wr = w) (fun _ s3 _ => 2000000 - (intOf s3).toNat)
  case atStart => exact ⟨0, Nat.zero_le _, by simp, rfl, rfl⟩
  case round =>
    obtain ⟨i, hi, rfl, rfl, rfl⟩ := hrel
    by_cases hlt : 63 * i < n
    · have d1 : decide ((0 : Int) < (n : Int) - 63 * i) = true := decide_eq_true (by omega)
      have q1 : IntKind.i64.wrap ((n : Int) - 63 * i - 63) = (n : Int) - 63 * i - 63 := by rw [IntKind.wrap_i64]; omega
      have q2 : IntKind.i64.wrap ((1 : Int) + i + 1) = (1 : Int) + i + 1 := by rw [IntKind.wrap_i64]; omega
      go_wp2
      go_roundw
      case rel => exact ⟨i + 1, by omega, by congr 1; omega, by congr 1, trivial⟩
      case measure => simp [intOf]; omega
    · have d1 : decide ((0 : Int) < (n : Int) - 63 * i) = false := decide_eq_false (by omega)
      have e : ((1 : Int) + i) = ((secs n : Nat) : Int) := by unfold secs; omega
      have HE := Lib.hid e
      clear e
      go_wp2
      rw [HE.out]
      go_ret
      exact ⟨rfl, rfl⟩

/-- A slice of small numbers that came in. -/
def U16At (w : World) (p : Option Addr) (xs : List Nat) : Prop := ∀ (j : Nat) (h : j < xs.length), xs[j] < 65536 ∧ ∃ b o, p = some ⟨b, o, none⟩ ∧ w.cell? ⟨b, o + j, none⟩ = some (.int .u16 (xs[j] : Nat))

set_option maxRecDepth 20000 in
set_option maxHeartbeats 4000000 in
theorem rooms_walk (n : Int) (pb : Option Addr) (cb : Nat) (xs : List Nat) (w : World) (hx : U16At w pb xs) :
    Calls Try.prog 5 #[.int .i64 n, .slice pb xs.length cb] w fun e w' => e = .returned (.bool true) ∧ Below w.heap.size w w' := by
  have HX := Lib.hid hx
  obtain ⟨N, hN⟩ : ∃ N, N = xs.length := ⟨_, rfl⟩
  have HN := Lib.hid hN
  rw [← hN]
  clear hx hN
  by_cases hbig : 20 < N
  · have d1 : decide ((20 : Int) < (N : Int)) = true := decide_eq_true (by omega)
    have d1' : decide (20 < N) = true := decide_eq_true hbig
    go_enter Try.func5, Try.ntmps5
    go_wp2_with fail
    refine (awake_true w).mono ?_
    rintro e w1 ⟨rfl, hb1⟩
    have HB1 := Lib.hid hb1
    clear hb1
    go_wp2_with fail
    refine (awake_true w1).mono ?_
    rintro e w2 ⟨rfl, hb2⟩
    have HB2 := Lib.hid hb2
    clear hb2
    go_wp2
    go_ret
    exact ⟨rfl, bT HB1.out HB2.out⟩
  have d1 : decide ((20 : Int) < (N : Int)) = false := decide_eq_false (by omega)
  have d1' : decide (20 < N) = false := decide_eq_false hbig
  obtain ⟨m2, hm2⟩ : ∃ m2 : Nat, n.tmod 60 + 60 = (m2 : Int) := by
    have h2 := Int.lt_tmod_of_pos n (b := 60) (by decide)
    exact ⟨(n.tmod 60 + 60).toNat, by omega⟩
  have hm2b : m2 < 120 := by
    have h1 := Int.tmod_lt_of_pos n (b := 60) (by decide)
    omega
  obtain ⟨m3, hm3⟩ : ∃ m3, m3 = m2 % 60 := ⟨_, rfl⟩
  obtain ⟨k, hk⟩ : ∃ k, k = 1 + m3 := ⟨_, rfl⟩
  have hk1 : 1 ≤ k := by omega
  have hk2 : k ≤ 60 := by omega
  have q1 : wrap64 (n.tmod 60 + 60) = (m2 : Int) := by
    rw [hm2]
    unfold wrap64
    omega
  have q2 : ((m2 : Nat) : Int).tmod 60 = (m3 : Int) := by
    rw [Int.tmod_eq_emod_of_nonneg (by omega)]
    omega
  have q3 : (1 : Int) + (m3 : Int) = (k : Int) := by omega
  have hm3b : m3 < 60 := by omega
  clear hm2 hm3 hk
  go_enter Try.func5, Try.ntmps5
  go_wp2_with fail
  refine (awake_true w).mono ?_
  rintro e w1 ⟨rfl, hb1⟩
  have HB1 := Lib.hid hb1
  clear hb1
  go_wp2_with fail
  refine (new_any k hk1 (by omega) w1).mono ?_
  rintro e w2 ⟨rfl, hd2, hb2⟩
  have hzl : (zeroS k).length = k := zero_cells
  have hsc : scan (k + 1) (zeroS k) 7 = [] := by
    have h := (Holds.zero k 7 (by decide)).scan
    rwa [hzl] at h
  have hb2w : Below w.heap.size w w2 := bT HB1.out hb2
  have hws := HB1.out.size
  obtain ⟨D, hD⟩ : ∃ D, w1.heap.size + 1 = D := ⟨_, rfl⟩
  obtain ⟨g, hg⟩ : ∃ g, w1.heap.size = g := ⟨_, rfl⟩
  rw [hD, hg] at hd2
  rw [hD]
  have hDg : D ≠ g := by omega
  have hbase : w.heap.size ≤ D ∧ w.heap.size ≤ g := by omega
  have hl2 : D < w2.heap.size ∧ g < w2.heap.size := ⟨(Array.getElem?_eq_some_iff.1 hd2.box).1, (Array.getElem?_eq_some_iff.1 hd2.dur).1⟩
  have hop := open_any D g (zeroS k) (.slice none 0 0) [] (-1) (by decide) (by decide) (by simp) 0 k 7 hk1 (by rw [hzl]; omega) (by omega) (fun x hx => by simp at hx) (by decide) w2 hd2 hDg
  rw [partS_all _ _ hzl] at hop
  have HB2 := Lib.hid hb2w
  clear hb2 hb2w hd2 hD hg
  go_wp2_with fail
  refine hop.mono ?_
  clear hop
  rintro e w3 ⟨P, v, E, rfl, hP, hO, hd3, hc3⟩
  have hE : E = [] := by
    have := hO.bodies
    rw [hsc] at this
    simpa using this
  subst hE
  have hst : LSt w w3 P D g k 0 7 (zeroS k) := LSt.opened HB2.out hbase hDg hzl hl2 hP hO hd3 hc3
  have HST := Lib.hid hst
  have hlast := last_any P D 0 k 0 7 false w3 hst.log
  have hroom := fun W (h : Below w3.heap.size w3 W) => room_any P D 0 k 0 7 false (by omega) (by omega) W (hst.on h).log
  clear hst hO hd3 hc3 hsc hzl hl2 hDg hbase
  go_wp2_with fail
  refine hlast.mono ?_
  rintro e w4 ⟨rfl, rfl⟩
  have hr := hroom w3 (Below.refl _ _)
  rw [Nat.sub_zero] at hr
  go_wp2_with fail
  refine hr.mono ?_
  rintro e w4 ⟨rfl, hb4⟩
  have HST4 := Lib.hid (HST.out.on hb4)
  have q4 : decide (63 * ((k : Int) - 1) = 63 * ((k : Int) - 1)) = true := decide_eq_true rfl
  clear hr hroom hlast hb4 HST
  go_wp2
  go_loopw [11] (fun s11 wr => ∃ i u l : Nat, i ≤ N ∧ s11 = .int .i64 i ∧ Hid (l ≤ 7 + i) ∧ Hid (∃ S, LSt w wr P D g k u l S)) (fun s11 _ => N - (intOf s11).toNat)
  case atStart => exact ⟨0, 0, 7, Nat.zero_le _, rfl, Lib.hid (by omega), Lib.hid ⟨_, HST4.out⟩⟩
  case round =>
    obtain ⟨i, u, l, hi, rfl, HL, HS⟩ := hrel
    clear HST4
    by_cases hlt : i < N
    · have e1 : decide ((i : Int) < (N : Int)) = true := decide_eq_true (by omega)
      have e1' : decide (i < N) = true := decide_eq_true hlt
      obtain ⟨S, hS⟩ := HS.out
      obtain ⟨x, hxv⟩ : ∃ x, xs[i]'(by have := HN.out; omega) = x := ⟨_, rfl⟩
      obtain ⟨hx16, b, o, rfl, hxc⟩ := HX.out i (by have := HN.out; omega)
      rw [hxv] at hx16 hxc
      have hc := (hS.below.cell (p := ⟨b, o + i, none⟩) (World.block_lt_of_cell? w _ hxc)).trans hxc
      obtain ⟨m, hm⟩ : ∃ m, m = x % 2000 := ⟨_, rfl⟩
      have hml : m < 2000 := by omega
      have hmI : ((x : Int)).tmod 2000 = (m : Int) := by rw [Int.tmod_eq_emod_of_nonneg (by omega)]; omega
      have hmk := make_u8 wr m (by omega)
      obtain ⟨W1, hW1⟩ : ∃ W1, wr.alloc (.cells (List.replicate m (Value.int .u8 0)).toArray 5) = W1 := ⟨_, rfl⟩
      have hb1 : Below wr.heap.size wr W1 := by rw [← hW1]; exact bA (Below.refl _ _) _
      have hz1 : InAt W1 (some ⟨wr.heap.size, 0, none⟩) (List.replicate m 0) := zero_in (by rw [← hW1]; exact heap_new wr _)
      rw [hW1] at hmk
      have st1 := hS.on hb1
      have hzl : (List.replicate m (0 : UInt8)).length = m := List.length_replicate
      have hDl : D < wr.heap.size ∧ g < wr.heap.size := ⟨(Array.getElem?_eq_some_iff.1 hS.disk.box).1, (Array.getElem?_eq_some_iff.1 hS.disk.dur).1⟩
      have hfit := hS.fit
      obtain ⟨r, hr⟩ : ∃ r, r = k - u := ⟨_, rfl⟩
      have hrk : r ≤ 60 := by omega
      have hroom := room_any P D 0 k u l false hfit (by omega) W1 st1.log
      rw [← hr] at hroom
      obtain ⟨K, hK⟩ : ∃ K, K = secs m := ⟨_, rfl⟩
      have hKm : K = 1 + (m + 62) / 63 := hK
      have hKb : K ≤ 33 := by omega
      have hsec := sectors_any m (by omega)
      have hneed := need_any m (by omega)
      rw [← hK] at hsec hneed
      have hlb : l ≤ 40 := by have := HL.out; omega
      have HST1 := Lib.hid st1
      have HZ1 := Lib.hid hz1
      have HKM := Lib.hid hKm
      have HR := Lib.hid hr
      have HKE := Lib.hid hK
      have HDL := Lib.hid hDl
      clear hW1 hb1 hz1 st1 hS hxv hxc hm hr hK hKm hDl
      go_wp2_with fail
      refine hroom.mono ?_
      rintro e W2 ⟨rfl, hb2⟩
      have st2 := HST1.out.on hb2
      have hlast := last_any P D 0 k u l false W2 st2.log
      have happ := st2.append (by omega) (some ⟨wr.heap.size, 0, none⟩) m (List.replicate m 0) (by rw [hzl]; omega) (by rw [hzl]; exact Nat.le_refl _) (by omega) (HZ1.out.on hb2) (fun b o e => by cases e; have := HDL.out; omega)
      rw [hzl] at happ
      clear hroom hb2 st2 hzl
      go_wp2_with fail
      refine hlast.mono ?_
      rintro e W3 ⟨rfl, rfl⟩
      go_wp2_with fail
      refine happ.mono ?_
      clear happ hlast
      rintro e W3 (⟨hf, rfl, st3⟩ | ⟨hf, rfl, st3⟩)
      · rw [← HKE.out] at hf st3
        have f1 : decide ((0 : Int) ≤ 63 * ((r : Int) - 1)) = true := decide_eq_true (by have := HR.out; have := HKM.out; omega)
        have f2 : decide ((m : Int) ≤ 63 * ((r : Int) - 1)) = true := decide_eq_true (by have := HR.out; have := HKM.out; omega)
        have hroom := room_any P D 0 k (u + K) (l + 1) false st3.fit (by omega) W3 st3.log
        obtain ⟨r2, hr2⟩ : ∃ r2, r2 = k - (u + K) := ⟨_, rfl⟩
        rw [← hr2] at hroom
        have f3 : (63 * ((r2 : Int) - 1)) = (63 * ((r : Int) - 1) - 63 * (K : Int)) := by have := HR.out; omega
        have hr2b : r2 ≤ 60 := by omega
        rw [f3] at hroom
        have HST3 := Lib.hid st3
        clear st3 hr2 f3
        go_wp2_with fail
        refine (hsec W3).mono ?_
        rintro e W4 ⟨rfl, rfl⟩
        go_wp2_with fail
        refine (hneed W3).mono ?_
        rintro e W4 ⟨rfl, rfl⟩
        go_wp2_with fail
        refine hroom.mono ?_
        rintro e W4 ⟨rfl, hb4⟩
        go_wp2_with fail
        refine (hneed W4).mono ?_
        rintro e W5 ⟨rfl, rfl⟩
        have HST4 := Lib.hid (HST3.out.on hb4)
        clear hroom hb4
        go_wp2
        go_roundw
        case rel => exact ⟨i + 1, u + K, l + 1, by omega, by go_num, Lib.hid (by have := HL.out; omega), Lib.hid ⟨_, HST4.out⟩⟩
        case measure => simp [intOf]; omega
      · rw [← HKE.out] at hf
        have HST3 := Lib.hid st3
        clear st3
        by_cases hr0 : r = 0
        · subst hr0
          go_wp2_with fail
          refine (hsec W3).mono ?_
          rintro e W4 ⟨rfl, rfl⟩
          go_wp2_with fail
          refine (hneed W3).mono ?_
          rintro e W4 ⟨rfl, rfl⟩
          go_wp2
          go_roundw
          case rel => exact ⟨i + 1, u, l, by omega, by go_num, Lib.hid (by have := HL.out; omega), Lib.hid ⟨_, HST3.out⟩⟩
          case measure => simp [intOf]; omega
        · have f1 : decide ((0 : Int) ≤ 63 * ((r : Int) - 1)) = true := decide_eq_true (by omega)
          have f2 : decide ((m : Int) ≤ 63 * ((r : Int) - 1)) = false := decide_eq_false (by have := HR.out; have := HKM.out; omega)
          go_wp2_with fail
          refine (hsec W3).mono ?_
          rintro e W4 ⟨rfl, rfl⟩
          go_wp2_with fail
          refine (hneed W3).mono ?_
          rintro e W4 ⟨rfl, rfl⟩
          go_wp2
          go_roundw
          case rel => exact ⟨i + 1, u, l, by omega, by go_num, Lib.hid (by have := HL.out; omega), Lib.hid ⟨_, HST3.out⟩⟩
          case measure => simp [intOf]; omega
    · have e1 : decide ((i : Int) < (N : Int)) = false := decide_eq_false (by omega)
      have e1' : decide (i < N) = false := decide_eq_false hlt
      obtain ⟨S, hS⟩ := HS.out
      have HB := Lib.hid hS.below
      clear hS
      go_wp2
      go_ret
      exact ⟨rfl, HB.out⟩
end Go.Proofs.Ytnnpfehfoaojfaa
