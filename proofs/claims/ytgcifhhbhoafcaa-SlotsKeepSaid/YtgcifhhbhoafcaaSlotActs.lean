/-
  Whatever crash comes, the last saved checkpoint is current.
-/
import Derived.Test.YtgcifhhbhoafcaaSlotKeepB
namespace Go.Proofs.Ytgcifhhbhoafcaa
open Go.RowKit Go.Shelf
attribute [local go_sem] Oper.semAt_some

set_option maxRecDepth 20000 in
set_option maxHeartbeats 8000000 in
theorem skeep_walk (n : Int) (pb : Option Addr) (cb : Nat) (al : List AArg) (w : World) (hx : ActsAt w pb al) :
    Calls Try.prog 5 #[.int .i64 n, .slice pb al.length cb] w fun e w' => e = .returned (.bool true) ∧ Below w.heap.size w w' := by
  have HX := Lib.hid hx
  obtain ⟨N, hN⟩ : ∃ N, N = al.length := ⟨_, rfl⟩
  have HN := Lib.hid hN
  rw [← hN]
  clear hx hN
  by_cases hbig : 30 < N
  · have d1 : decide ((30 : Int) < (N : Int)) = true := decide_eq_true (by omega)
    have d1' : decide (30 < N) = true := decide_eq_true hbig
    go_enter Try.func5, Try.ntmps5
    go_wp2_with fail
    refine (sawake_true w).mono ?_
    rintro e w1 ⟨rfl, hb1⟩
    have HB1 := Lib.hid hb1
    clear hb1
    go_wp2_with fail
    refine (sawake_true w1).mono ?_
    rintro e w2 ⟨rfl, hb2⟩
    have HB2 := Lib.hid hb2
    clear hb2
    go_wp2
    go_ret
    exact ⟨rfl, bT HB1.out HB2.out⟩
  have d1 : decide ((30 : Int) < (N : Int)) = false := decide_eq_false (by omega)
  have d1' : decide (30 < N) = false := decide_eq_false hbig
  obtain ⟨m2, hm2⟩ : ∃ m2 : Nat, n.tmod 12 + 12 = (m2 : Int) := by
    have h2 := Int.lt_tmod_of_pos n (b := 12) (by decide)
    exact ⟨(n.tmod 12 + 12).toNat, by omega⟩
  have hm2b : m2 < 24 := by
    have h1 := Int.tmod_lt_of_pos n (b := 12) (by decide)
    omega
  obtain ⟨m3, hm3⟩ : ∃ m3, m3 = m2 % 12 := ⟨_, rfl⟩
  obtain ⟨k, hk⟩ : ∃ k, k = 1 + m3 := ⟨_, rfl⟩
  obtain ⟨kk, hkk⟩ : ∃ kk, kk = 2 * k := ⟨_, rfl⟩
  have hk1 : 1 ≤ k := by omega
  have hk2 : k ≤ 12 := by omega
  have q1 : wrap64 (n.tmod 12 + 12) = (m2 : Int) := by
    rw [hm2]
    unfold wrap64
    omega
  have q2 : ((m2 : Nat) : Int).tmod 12 = (m3 : Int) := by
    rw [Int.tmod_eq_emod_of_nonneg (by omega)]
    omega
  have q3 : (1 : Int) + (m3 : Int) = (k : Int) := by omega
  have q4 : (2 : Int) * (k : Int) = (kk : Int) := by omega
  have hm3b : m3 < 12 := by omega
  have hkk2 : 1 ≤ kk ∧ kk ≤ 24 := by omega
  have HKK := Lib.hid hkk
  clear hm2 hm3 hk hkk
  go_enter Try.func5, Try.ntmps5
  go_wp2_with fail
  refine (sawake_true w).mono ?_
  rintro e w1 ⟨rfl, hb1⟩
  have HB1 := Lib.hid hb1
  clear hb1
  go_wp2_with fail
  refine (new_any kk hkk2.1 (by omega) w1).mono ?_
  rintro e w2 ⟨rfl, hd2, hb2⟩
  rw [HKK.out] at hd2
  have hb2w : Below w.heap.size w w2 := bT HB1.out hb2
  have hws := HB1.out.size
  obtain ⟨D, hD⟩ : ∃ D, w1.heap.size + 1 = D := ⟨_, rfl⟩
  obtain ⟨g, hg⟩ : ∃ g, w1.heap.size = g := ⟨_, rfl⟩
  rw [hD, hg] at hd2
  rw [hD]
  have hDg : D ≠ g := by omega
  have hbase : w.heap.size ≤ D ∧ w.heap.size ≤ g := by omega
  have hl2 : D < w2.heap.size ∧ g < w2.heap.size := ⟨(Array.getElem?_eq_some_iff.1 hd2.box).1, (Array.getElem?_eq_some_iff.1 hd2.dur).1⟩
  have hop := open_whole D g (zeroS (2 * k)) k 0 none hk1 (SHold.zero k hk1) w2 hd2 hDg
  have HB2 := Lib.hid hb2w
  clear hb2 hb2w hd2 hD hg
  go_wp2_with fail
  refine hop.mono ?_
  clear hop
  rintro e w3 ⟨P0, q, cq, rfl, hP, hs3, hh3, hd3, hc3⟩
  obtain ⟨rfl, rfl⟩ := hh3.1 rfl
  have hkl := KSl.opened HB2.out hbase hDg hl2 hP hs3 hd3 hc3 (SHold.zero k hk1)
  have HKL := Lib.hid hkl
  clear hs3 hh3 hd3 hc3 hP hl2 hkl
  rw [show entB none none 0 = #[.int .i64 0, .slice none 0 0] from rfl, show (none : Option Ck).isSome = false from rfl]
  obtain ⟨X, hXE⟩ : ∃ X, w3.heap.size + 1 = X := ⟨_, rfl⟩
  obtain ⟨Y, hYE⟩ : ∃ Y, X + 1 = Y := ⟨_, rfl⟩
  obtain ⟨w5, hw5⟩ : ∃ w5, ((w3.alloc (.cells #[.int .i64 0, .slice none 0 0] 48)).alloc (.cells #[.int .i64 0, .slice none 0 0] 48)).alloc (.cells #[.int .i64 0, .slice none 0 0] 48) = w5 := ⟨_, rfl⟩
  have hb5 : Below w3.heap.size w3 w5 := by rw [← hw5]; exact bA (bA (bA (Below.refl _ _) _) _) _
  have hX5 : w5.heap[X]? = some (.cells #[.int .i64 0, .slice none 0 0] 48 (0, 0)) := by
    rw [← hw5, ← hXE, Below.heap_alloc _ _ _ (by simp)]
    have := heap_new (w3.alloc (.cells #[.int .i64 0, .slice none 0 0] 48)) (.cells #[.int .i64 0, .slice none 0 0] 48)
    simpa using this
  have hY5 : w5.heap[Y]? = some (.cells #[.int .i64 0, .slice none 0 0] 48 (0, 0)) := by
    rw [← hw5, ← hYE, ← hXE]
    have := heap_new ((w3.alloc (.cells #[.int .i64 0, .slice none 0 0] 48)).alloc (.cells #[.int .i64 0, .slice none 0 0] 48)) (.cells #[.int .i64 0, .slice none 0 0] 48)
    simpa using this
  have hKQ : KQ w w5 P0 D g k 0 none none X Y 0 none 0 0 0 none 0 0 := by
    have h1 := HKL.out.below.size
    exact ⟨HKL.out.on hb5, hX5, ⟨rfl, rfl, fun h => by simp [bodyOf] at h, fun b o _ h => by simp [bodyOf] at h⟩, hY5, fun b h => (by cases h), by omega⟩
  have HST := Lib.hid hKQ
  clear hb5 hX5 hY5 hKQ HKL
  go_wp2
  first | rw [hXE] | skip
  first | rw [hYE] | skip
  clear hw5 hXE hYE
  go_loopw [8, 14, 15, 16] (fun s8 s14 s15 s16 wr => ∃ i P gn : Nat, ∃ c ub z1 q1 n1 c1 z2 q2 n2 c2, i ≤ N + 1 ∧ s16 = .int .i64 i ∧ s8 = .pointer (some ⟨P, 0, none⟩) ∧ s14 = .bool (Option.isSome c) ∧ s15 = .bool (Option.isSome ub) ∧ Hid (gn ≤ i) ∧ Hid (KQ w wr P D g k gn c ub X Y z1 q1 n1 c1 z2 q2 n2 c2)) (fun _ _ _ s16 _ => N + 1 - (intOf s16).toNat)
  case atStart => exact ⟨0, P0, 0, none, none, 0, none, 0, 0, 0, none, 0, 0, by omega, rfl, rfl, rfl, rfl, Lib.hid (Nat.le_refl _), HST⟩
  case round =>
    obtain ⟨i, P, gn, c, ub, z1, q1, n1, c1, z2, q2, n2, c2, hi, rfl, rfl, rfl, rfl, HGN, HS⟩ := hrel
    clear HST
    obtain ⟨hs, hhs⟩ : ∃ hs, hs = c.isSome := ⟨_, rfl⟩
    have HHS := Lib.hid hhs
    rw [← hhs]
    clear hhs
    by_cases hle : i ≤ N
    · have e1 : decide ((i : Int) ≤ (N : Int)) = true := decide_eq_true (by omega)
      have e1' : decide (i ≤ N) = true := decide_eq_true hle
      by_cases hlt : i < N
      · have e2 : decide ((i : Int) < (N : Int)) = true := decide_eq_true (by omega)
        have e2' : decide (i < N) = true := decide_eq_true hlt
        have hil : i < al.length := by have := HN.out; omega
        obtain ⟨hact, b, o, rfl, hcells⟩ := HX.out i hil
        obtain ⟨a, ha⟩ : ∃ a, al[i] = a := ⟨_, rfl⟩
        rw [ha] at hact hcells
        unfold ActIn at hact
        have hbl : Below w.heap.size w wr := HS.out.ksl.below
        have hc0 := (hcells 0 (by decide)).trans (show (aCell a)[0]? = some (.int .i64 a.kind) from rfl)
        have hc1 := (hcells 1 (by decide)).trans (show (aCell a)[1]? = some (.int .i64 a.n) from rfl)
        have hc2 := (hcells 2 (by decide)).trans (show (aCell a)[2]? = some (.int .i64 a.stamp) from rfl)
        have hc3 := (hcells 3 (by decide)).trans (show (aCell a)[3]? = some (.slice a.bp a.body.length a.bc) from rfl)
        have hc4 := (hcells 4 (by decide)).trans (show (aCell a)[4]? = some (.slice a.kp a.ks.length a.kc) from rfl)
        have hbw : b < w.heap.size := World.block_lt_of_cell? w _ hc0
        obtain ⟨A, hA⟩ : ∃ A, wr.heap.size = A := ⟨_, rfl⟩
        obtain ⟨w0, hw0⟩ : ∃ w0, wr.alloc (.cells #[.int .i64 2, .int .i64 0, .int .i64 0, .slice none 0 0, .slice none 0 0] 61) = w0 := ⟨_, rfl⟩
        have hb0 : Below w.heap.size w w0 := by rw [← hw0]; exact hbl.alloc hbl.size _
        have hA0 : w0.heap[A]? = some (.cells #[.int .i64 2, .int .i64 0, .int .i64 0, .slice none 0 0, .slice none 0 0] 61 (0, 0)) := by rw [← hw0, ← hA]; exact heap_new wr _
        have g0 := (hb0.cell (p := ⟨b, o + i * 5 + 0, none⟩) hbw).trans hc0
        have g1 := (hb0.cell (p := ⟨b, o + i * 5 + 1, none⟩) hbw).trans hc1
        have g2 := (hb0.cell (p := ⟨b, o + i * 5 + 2, none⟩) hbw).trans hc2
        have g3 := (hb0.cell (p := ⟨b, o + i * 5 + 3, none⟩) hbw).trans hc3
        have g4 := (hb0.cell (p := ⟨b, o + i * 5 + 4, none⟩) hbw).trans hc4
        rw [Nat.add_zero] at g0
        obtain ⟨bl, hbl0⟩ : ∃ bl, bl = a.body.length := ⟨_, rfl⟩
        obtain ⟨kl, hkl0⟩ : ∃ kl, kl = a.ks.length := ⟨_, rfl⟩
        rw [← hbl0] at g3
        rw [← hkl0] at g4
        have fz0 := frozen_in hA0 0
        have fz1 := frozen_in hA0 1
        have fz2 := frozen_in hA0 2
        have fz3 := frozen_in hA0 3
        have fz4 := frozen_in hA0 4
        have x0 : w0.cell? ⟨A, 0, none⟩ = some (.int .i64 2) := by rw [cell_in hA0]; rfl
        have x1 : w0.cell? ⟨A, 1, none⟩ = some (.int .i64 0) := by rw [cell_in hA0]; rfl
        have x2 : w0.cell? ⟨A, 2, none⟩ = some (.int .i64 0) := by rw [cell_in hA0]; rfl
        have x3 : w0.cell? ⟨A, 3, none⟩ = some (.slice none 0 0) := by rw [cell_in hA0]; rfl
        have x4 : w0.cell? ⟨A, 4, none⟩ = some (.slice none 0 0) := by rw [cell_in hA0]; rfl
        generalize hKD : a.kind = kd at *
        generalize hND : a.n = nd at *
        generalize hSD : a.stamp = sd at *
        generalize hBP : a.bp = bp at *
        generalize hBC : a.bc = bc at *
        generalize hKP : a.kp = kp at *
        generalize hKC : a.kc = kc at *
        have HACT := Lib.hid hact
        have HBL0 := Lib.hid hbl0
        have HKL0 := Lib.hid hkl0
        have HBL := Lib.hid hbl
        subst hw0
        subst hA
        clear hact hcells hc0 hc1 hc2 hc3 hc4 hb0 hA0 hbl0 hkl0 hbl
        have j0 : (0 : Int) ≤ (i : Int) := by omega
        have j1 : (i : Int) < (N : Int) := by omega
        obtain ⟨W1, hW1⟩ : ∃ W1, wr.alloc (.cells #[.int .i64 kd, .int .i64 nd, .int .i64 sd, .slice bp bl bc, .slice kp kl kc] 61) = W1 := ⟨_, rfl⟩
        have hb1' : Below wr.heap.size wr W1 := by rw [← hW1]; exact bA (Below.refl _ _) _
        have hA1 : W1.heap[wr.heap.size]? = some (.cells #[.int .i64 kd, .int .i64 nd, .int .i64 sd, .slice bp bl bc, .slice kp kl kc] 61 (0, 0)) := by rw [← hW1]; exact heap_new wr _
        have HS1 := Lib.hid (HS.out.on hb1')
        have hbin : InAt W1 bp a.body := (HACT.out.1.on HBL.out).on hb1'
        have hbk : IntsAt W1 kp a.ks := fun j hj => by
          obtain ⟨b', o', hp, hc⟩ := HACT.out.2.2.2 j hj
          have hl := World.block_lt_of_cell? w _ hc
          exact ⟨b', o', hp, (hb1'.cell (p := ⟨b', o' + j, none⟩) (Nat.lt_of_lt_of_le hl HBL.out.size)).trans ((HBL.out.cell (p := ⟨b', o' + j, none⟩) hl).trans hc)⟩
        have hbp : ∀ b' o', bp = some ⟨b', o', none⟩ → 0 < a.body.length → b' < w.heap.size := fun b' o' e hl => InAt.lt (b := b') (o := o') (by rw [← e]; exact HACT.out.1) hl
        have HSB := Lib.hid (show SBody w W1 bp a.body from ⟨hbin, fun b' o' e hl => .inl (hbp b' o' e hl)⟩)
        have HIN := Lib.hid (show _ ∧ _ ∧ _ ∧ _ from ⟨hbin, hbk, hbp, HACT.out⟩)
        have HA1 := Lib.hid hA1
        have HW1 := Lib.hid hW1
        have HBK := Lib.hid (show Below w.heap.size w W1 from HS1.out.ksl.below)
        clear HACT hbin hbk hbp hA1 hb1' hW1
        by_cases hb1000 : 1000 < bl
        · have f1 : decide ((1000 : Int) < (bl : Int)) = true := decide_eq_true (by omega)
          have f1' : decide (1000 < bl) = true := decide_eq_true hb1000
          go_wp2
          go_ret
          rw [HW1.out]
          exact ⟨rfl, HBK.out⟩
        have f1 : decide ((1000 : Int) < (bl : Int)) = false := decide_eq_false (by omega)
        have f1' : decide (1000 < bl) = false := decide_eq_false hb1000
        by_cases hk40 : 40 < kl
        · have f2 : decide ((40 : Int) < (kl : Int)) = true := decide_eq_true (by omega)
          have f2' : decide (40 < kl) = true := decide_eq_true hk40
          go_wp2
          go_ret
          rw [HW1.out]
          exact ⟨rfl, HBK.out⟩
        have f2 : decide ((40 : Int) < (kl : Int)) = false := decide_eq_false (by omega)
        have f2' : decide (40 < kl) = false := decide_eq_false hk40
        have HTY := Lib.hid (show ¬ (wr.heap.size = P ∨ wr.heap.size = D ∨ wr.heap.size = g) from HS1.out.ksl.types HA1.out (by decide) (by decide) (by decide))
        have HAXY := Lib.hid (show wr.heap.size ≠ X ∧ wr.heap.size ≠ Y by
          have h1 := (Array.getElem?_eq_some_iff.1 HS.out.sure).1
          have h2 := (Array.getElem?_eq_some_iff.1 HS.out.under).1
          omega)
        by_cases hk0 : kd = 0
        · subst hk0
          go_wp2_with fail
          first | rw [HW1.out] | skip
          have hbs := HS1.out.ksl.base
          have hsv := HS1.out.ksl.save hk1 (by omega) (by have := HGN.out; omega) sd bp bc a.body (by have := HBL0.out; omega) HIN.out.2.2.2.2.1 HIN.out.2.2.2.2.2.1 HIN.out.1 (fun b' o' e hl => by have := HIN.out.2.2.1 b' o' e hl; omega)
          rw [← HBL0.out] at hsv
          refine hsv.mono ?_
          clear hsv hbs
          rintro e w6 ⟨hc6, h6⟩
          have hA6 := hc6.box HA1.out HTY.out
          have y2 : w6.cell? ⟨wr.heap.size, 2, none⟩ = some (.int .i64 sd) := by rw [cell_in hA6]; rfl
          have y3 : w6.cell? ⟨wr.heap.size, 3, none⟩ = some (.slice bp bl bc) := by rw [cell_in hA6]; rfl
          have hX6 := hc6.box HS1.out.sure HS1.out.apart.1
          have hY6 := hc6.box HS1.out.under HS1.out.apart.2
          have kX0 : w6.cell? ⟨X, 0, none⟩ = some (.int .i64 z1) := by rw [cell_in hX6]; rfl
          have kX1 : w6.cell? ⟨X, 1, none⟩ = some (.slice q1 n1 c1) := by rw [cell_in hX6]; rfl
          have kY0 : w6.cell? ⟨Y, 0, none⟩ = some (.int .i64 z2) := by rw [cell_in hY6]; rfl
          have kY1 : w6.cell? ⟨Y, 1, none⟩ = some (.slice q2 n2 c2) := by rw [cell_in hY6]; rfl
          have fX0 := frozen_in hX6 0
          have fX1 := frozen_in hX6 1
          have fY0 := frozen_in hY6 0
          have fY1 := frozen_in hY6 1
          clear hA6 hX6 hY6
          rcases h6 with ⟨rfl, rfl, st, rfl, hk6⟩ | ⟨ee, rfl, he0, he20, hk6⟩ | ⟨rfl, hue, hk6⟩ | ⟨rfl, rfl, st, rfl, hk6⟩
          · have fin := HS1.out.saved hc6 hk6 bp bc HSB.out
            rw [← HBL0.out] at fin
            have HFIN := Lib.hid fin
            clear fin hc6 hk6
            go_wp2
            go_roundw
            case rel => exact ⟨i + 1, P, (gn + 1), (some ⟨gn + 1, st, a.body⟩), none, (st : Int), bp, bl, bc, z2, q2, n2, c2, by omega, by go_num, rfl, rfl, rfl, Lib.hid (by have := HGN.out; omega), HFIN⟩
            case measure => simp [intOf]; omega
          · have HK6 := Lib.hid (HS1.out.keep hc6 hk6)
            have t6 : (ee == 0) = false := beq_eq_false_iff_ne.2 he0
            have t7 : (ee == 20) = false := beq_eq_false_iff_ne.2 he20
            clear hc6 hk6 he0 he20
            go_wp2
            go_roundw
            case rel => exact ⟨i + 1, P, gn, c, ub, z1, q1, n1, c1, z2, q2, n2, c2, by omega, by go_num, rfl, (by rw [HHS.out]), rfl, Lib.hid (by have := HGN.out; omega), HK6⟩
            case measure => simp [intOf]; omega
          · have HK6 := Lib.hid (HS1.out.keep hc6 hk6)
            obtain ⟨b0, rfl⟩ := Option.isSome_iff_exists.1 hue
            clear hc6 hk6 hue
            go_wp2
            go_roundw
            case rel => exact ⟨i + 1, P, gn, c, (some b0), z1, q1, n1, c1, z2, q2, n2, c2, by omega, by go_num, rfl, (by rw [HHS.out]), rfl, Lib.hid (by have := HGN.out; omega), HK6⟩
            case measure => simp [intOf]; omega
          · have fin := HS1.out.failed hc6 hk6 bp bc HSB.out
            rw [← HBL0.out] at fin
            have HFIN := Lib.hid fin
            clear fin hc6 hk6
            go_wp2
            go_roundw
            case rel => exact ⟨i + 1, P, gn, c, (some (st, a.body)), z1, q1, n1, c1, (st : Int), bp, bl, bc, by omega, by go_num, rfl, (by rw [HHS.out]), rfl, Lib.hid (by have := HGN.out; omega), HFIN⟩
            case measure => simp [intOf]; omega
        have t0 : (kd == 0) = false := by simpa using hk0
        by_cases hk1' : kd = 1
        · subst hk1'
          obtain ⟨m4, hm4⟩ : ∃ m4 : Nat, nd.tmod 9 + 9 = (m4 : Int) := by
            have h2 := Int.lt_tmod_of_pos nd (b := 9) (by decide)
            exact ⟨(nd.tmod 9 + 9).toNat, by omega⟩
          have hm4b : m4 < 18 := by
            have h1 := Int.tmod_lt_of_pos nd (b := 9) (by decide)
            omega
          obtain ⟨m5, hm5⟩ : ∃ m5, m5 = m4 % 9 := ⟨_, rfl⟩
          have q4 : wrap64 (nd.tmod 9 + 9) = (m4 : Int) := by
            rw [hm4]
            unfold wrap64
            omega
          have q5 : ((m4 : Nat) : Int).tmod 9 = (m5 : Int) := by
            rw [Int.tmod_eq_emod_of_nonneg (by omega)]
            omega
          have hm5b : m5 < 9 := by omega
          clear hm4 hm5
          go_wp2_with fail
          first | rw [HW1.out] | skip
          refine (HS1.out.ksl.limit (m5 : Int) (by omega)).mono ?_
          rintro e w6 ⟨rfl, hc6, hkl6⟩
          have HK6 := Lib.hid (HS1.out.keep hc6 hkl6)
          clear hc6 hkl6
          go_wp2
          first | rw [HHS.out] | skip
          go_roundw
          case rel => exact ⟨i + 1, P, gn, c, ub, z1, q1, n1, c1, z2, q2, n2, c2, by omega, by go_num, rfl, rfl, rfl, Lib.hid (by have := HGN.out; omega), HK6⟩
          case measure => simp [intOf]; omega
        have t1 : (kd == 1) = false := by simpa using hk1'
        by_cases hk2' : kd = 2
        · subst hk2'
          go_wp2_with fail
          first | rw [HW1.out] | skip
          have hcr := HS1.out.ksl.crash kp kc a.ks (by have := HKL0.out; omega) HIN.out.2.1
          rw [← HKL0.out] at hcr
          refine hcr.mono ?_
          clear hcr
          rintro e w4 ⟨⟨ce, rfl⟩, hc4, hb4, S', hd4, hh4⟩
          have hap := HS1.out.ksl.apart
          have hbs := HS1.out.ksl.base
          have hapx := HS1.out.apart
          have hlt4 : D < w4.heap.size ∧ g < w4.heap.size := ⟨(Array.getElem?_eq_some_iff.1 hd4.box).1, (Array.getElem?_eq_some_iff.1 hd4.dur).1⟩
          have hX4 := hc4.box HS1.out.sure hapx.1
          have hY4 := hc4.box HS1.out.under hapx.2
          have hso := HS1.out.sok
          have hs4 := hso.2.2.chg hc4 HS1.out.ksl.others
          have hu4 : ∀ b, ub = some b → z2 = (b.1 : Nat) ∧ n2 = b.2.length ∧ SBody w w4 q2 b.2 := fun b h => ⟨(HS1.out.uok b h).1, (HS1.out.uok b h).2.1, (HS1.out.uok b h).2.2.chg hc4 HS1.out.ksl.others⟩
          have hoD : SOther w w4 (fun k => k = D) := fun b hb => by rw [show b = D from hb]; exact ⟨hbs.2.1, _, _, _, hd4.box, by decide⟩
          obtain ⟨gn', c', hho, hcc⟩ : ∃ gn' c', SHold k S' gn' c' ∧ ((gn' = gn ∧ c' = c) ∨ ∃ b, ub = some b ∧ gn' = gn + 1 ∧ c' = some ⟨gn + 1, b.1, b.2⟩) := by
            rcases hh4 with h | ⟨b, hb, h⟩
            · exact ⟨_, _, h, .inl ⟨rfl, rfl⟩⟩
            · exact ⟨_, _, h, .inr ⟨b, hb, rfl, rfl⟩⟩
          have hop := open_whole D g S' k gn' c' hk1 hho w4 hd4 hap.1
          have HC4 := Lib.hid (show _ ∧ _ ∧ _ ∧ _ ∧ _ ∧ _ ∧ _ from ⟨hb4, hX4, hY4, hs4, hu4, hoD, hho⟩)
          have HLO := Lib.hid HS1.out.lo
          have HSO := Lib.hid (show _ ∧ _ from ⟨hso.1, hso.2.1⟩)
          have HAPX := Lib.hid hapx
          clear hb4 hc4 hd4 hh4 hX4 hY4 hs4 hu4 hoD hho hso
          go_wp2_with fail
          refine hop.mono ?_
          clear hop
          rintro e w6 ⟨P7, q7, cq7, rfl, hP7, hs6, hh6, hd6, hc6⟩
          obtain ⟨hb4, hX4, hY4, hs4, hu4, hoD, hho⟩ := HC4.out
          have hk6 := KSl.opened hb4 ⟨hbs.2.1, hbs.2.2⟩ hap.1 hlt4 hP7 hs6 hd6 hc6 hho
          have hX6 := hc6.box hX4 (fun e => hapx.1 (.inr (.inl e)))
          have hY6 := hc6.box hY4 (fun e => hapx.2 (.inr (.inl e)))
          have hq6 : SBody w w6 q7 (bodyOf c') := Held.sbody hh6
          have hs6' := hs4.chg hc6 hoD
          have hu6 : ∀ b, ub = some b → z2 = (b.1 : Nat) ∧ n2 = b.2.length ∧ SBody w w6 q2 b.2 := fun b h => ⟨(hu4 b h).1, (hu4 b h).2.1, (hu4 b h).2.2.chg hc6 hoD⟩
          obtain ⟨zo, hzo⟩ : ∃ zo, zo = stOf c' := ⟨_, rfl⟩
          obtain ⟨lo7, hlo7⟩ : ∃ lo7, lo7 = (bodyOf c').length := ⟨_, rfl⟩
          obtain ⟨okb, hokb⟩ : ∃ okb, okb = c'.isSome := ⟨_, rfl⟩
          rw [show entB c' q7 cq7 = #[.int .i64 (zo : Int), .slice q7 lo7 cq7] by unfold entB; rw [← hzo, ← hlo7], ← hokb]
          obtain ⟨w7, hw7⟩ : ∃ w7, w6.alloc (.cells #[.int .i64 (zo : Int), .slice q7 lo7 cq7] 48) = w7 := ⟨_, rfl⟩
          have hb67 : Below w6.heap.size w6 w7 := by rw [← hw7]; exact bA (Below.refl _ _) _
          have hc67 := Chg.below hb67 (fun _ => False)
          have hK7 : w7.heap[w6.heap.size]? = some (.cells #[.int .i64 (zo : Int), .slice q7 lo7 cq7] 48 (0, 0)) := by rw [← hw7]; exact heap_new w6 _
          obtain ⟨K7, hK70⟩ : ∃ K7, w6.heap.size = K7 := ⟨_, rfl⟩
          rw [hK70] at hK7
          have HKX := Lib.hid (show K7 ≠ X ∧ K7 ≠ Y by
            have h1 := (Array.getElem?_eq_some_iff.1 hX6).1
            have h2 := (Array.getElem?_eq_some_iff.1 hY6).1
            omega)
          have HQ7 := Lib.hid (show (w7.heap[X]? = some (.cells #[.int .i64 z1, .slice q1 n1 c1] 48 (0, 0)) ∧ w7.heap[Y]? = some (.cells #[.int .i64 z2, .slice q2 n2 c2] 48 (0, 0))) ∧ (KSl w w7 P7 D g k gn' c' none ∧ SBody w w7 q7 (bodyOf c')) ∧ w7.heap[K7]? = some (.cells #[.int .i64 (zo : Int), .slice q7 lo7 cq7] 48 (0, 0)) from ⟨⟨hc67.box hX6 (fun e => e), hc67.box hY6 (fun e => e)⟩, ⟨hk6.on hb67, hq6.on hb67⟩, hK7⟩)
          have HS7 := Lib.hid (hs6'.on hb67)
          have HU7 := Lib.hid (show ∀ b, ub = some b → z2 = (b.1 : Nat) ∧ n2 = b.2.length ∧ SBody w w7 q2 b.2 from fun b h => ⟨(hu6 b h).1, (hu6 b h).2.1, (hu6 b h).2.2.on hb67⟩)
          have HZO := Lib.hid hzo
          have HLO7 := Lib.hid hlo7
          have HOKB := Lib.hid hokb
          have HK70 := Lib.hid hK70
          have a0 : w7.cell? ⟨K7, 0, none⟩ = some (.int .i64 (zo : Int)) := by rw [cell_in hK7]; rfl
          have a1 : w7.cell? ⟨K7, 1, none⟩ = some (.slice q7 lo7 cq7) := by rw [cell_in hK7]; rfl
          have b0 : w7.cell? ⟨X, 0, none⟩ = some (.int .i64 z1) := by rw [cell_in HQ7.out.1.1]; rfl
          have b1 : w7.cell? ⟨X, 1, none⟩ = some (.slice q1 n1 c1) := by rw [cell_in HQ7.out.1.1]; rfl
          have d0 : w7.cell? ⟨Y, 0, none⟩ = some (.int .i64 z2) := by rw [cell_in HQ7.out.1.2]; rfl
          have d1' : w7.cell? ⟨Y, 1, none⟩ = some (.slice q2 n2 c2) := by rw [cell_in HQ7.out.1.2]; rfl
          clear hb4 hX4 hY4 hs4 hu4 hoD hho hs6 hh6 hd6 hc6 hk6 hX6 hY6 hq6 hs6' hu6 hb67 hc67 hK7 hzo hlo7 hokb hP7 hlt4 hbs hapx
          have hsmA := esame_any (zo : Int) z1 (bodyOf c') (bodyOf c) q7 q1 cq7 c1 w7 HQ7.out.2.1.2.1 HS7.out.1
          rw [← HLO7.out, ← HSO.out.2] at hsmA
          rcases hcc with hcA | ⟨b, hub, hgB, hcB⟩
          · obtain ⟨rfl, rfl⟩ := hcA
            have hr : (decide ((zo : Int) = z1) && decide (bodyOf c' = bodyOf c')) = true := by
              rw [decide_eq_true (show (zo : Int) = z1 by rw [HZO.out, HSO.out.1]), decide_eq_true rfl]
              rfl
            rw [hr] at hsmA
            have hokh : okb = hs := by rw [HOKB.out, HHS.out]
            subst hokh
            clear hr
            go_wp2_with fail
            first | rw [hw7] | skip
            first | rw [hK70] | skip
            clear hw7 hK70
            refine hsmA.mono ?_
            clear hsmA
            rintro e w8 ⟨rfl, hb8⟩
            have hc8 := Chg.below hb8 (fun _ => False)
            have HQ8 := Lib.hid (show (w8.heap[X]? = some (.cells #[.int .i64 z1, .slice q1 n1 c1] 48 (0, 0)) ∧ w8.heap[Y]? = some (.cells #[.int .i64 z2, .slice q2 n2 c2] 48 (0, 0))) ∧ (KSl w w8 P7 D g k gn' c' none ∧ SBody w w8 q7 (bodyOf c')) ∧ w8.heap[K7]? = some (.cells #[.int .i64 (zo : Int), .slice q7 lo7 cq7] 48 (0, 0)) from ⟨⟨hc8.box HQ7.out.1.1 (fun e => e), hc8.box HQ7.out.1.2 (fun e => e)⟩, ⟨HQ7.out.2.1.1.on hb8, HQ7.out.2.1.2.on hb8⟩, hc8.box HQ7.out.2.2 (fun e => e)⟩)
            clear hb8 hc8 a0 a1 b0 b1 d0 d1'
            have hX8 := HQ8.out.1
            have ky0 : w8.cell? ⟨K7, 0, none⟩ = some (.int .i64 (zo : Int)) := by rw [cell_in HQ8.out.2.2]; rfl
            have ky1 : w8.cell? ⟨K7, 1, none⟩ = some (.slice q7 lo7 cq7) := by rw [cell_in HQ8.out.2.2]; rfl
            go_wp2_with fail
            have hbd : Below w8.heap.size w8 w8.drew := bD (Below.refl _ _)
            have hcd := Chg.below hbd (fun _ => False)
            have hXd := hcd.box HQ8.out.1.1 (fun e => e)
            have hYd := hcd.box HQ8.out.1.2 (fun e => e)
            have hKd := hcd.box HQ8.out.2.2 (fun e => e)
            have hkd := HQ8.out.2.1.1.on hbd
            have hqd := HQ8.out.2.1.2.on hbd
            have fin := KQ.reopened hkd hXd hYd HLO.out q7 cq7 hqd
            rw [← HZO.out, ← HLO7.out] at fin
            have HFIN := Lib.hid fin
            have x0 : w8.drew.cell? ⟨X, 0, none⟩ = some (.int .i64 z1) := by rw [cell_in hXd]; rfl
            have x1 : w8.drew.cell? ⟨X, 1, none⟩ = some (.slice q1 n1 c1) := by rw [cell_in hXd]; rfl
            have fx0 := frozen_in hXd 0
            have fx1 := frozen_in hXd 1
            have HKD := Lib.hid hKd
            have HXD := Lib.hid hXd
            clear hX8 hcd hXd hYd hKd hkd hqd fin hbd
            refine wp_region_noPanic ?_
            refine wp_region_held_drew (S := fun W => W.cell? ⟨K7, 0, none⟩ = some (.int .i64 (zo : Int)) ∧ W.cell? ⟨K7, 1, none⟩ = some (.slice q7 lo7 cq7)) (by kernel_rfl) (⟨ky0, ky1⟩) (fun hHeld => ?_)
            refine wpAnyH_take (i := 0) (v := ?_) rfl (by kernel_rfl) (by kernel_rfl) (by kernel_rfl) (fun _ _ _ h => h) (Or.inl ⟨by rfl, ?_⟩) (by assumption) ?_
            rotate_left
            · (intro w hSw; (try dsimp only at hSw); go_simp; try (with_reducible rfl))
            try simp only [Act.put, List.setIfInBounds_toArray, List.set_cons_zero, List.set_cons_succ, List.getElem_toArray, List.getElem_cons_zero]
            refine wpAnyH_take (i := 1) (v := ?_) rfl (by kernel_rfl) (by kernel_rfl) (by kernel_rfl) (fun _ _ _ h => h) (Or.inl ⟨by rfl, ?_⟩) (by assumption) ?_
            rotate_left
            · (intro w hSw; (try dsimp only at hSw); go_simp; try (with_reducible rfl))
            try simp only [Act.put, List.setIfInBounds_toArray, List.set_cons_zero, List.set_cons_succ, List.getElem_toArray, List.getElem_cons_zero, List.getElem_cons_succ]
            refine wpAnyH_take (i := 2) (v := ?_) rfl (by kernel_rfl) (by kernel_rfl) (by kernel_rfl) (fun _ _ _ h => h) (Or.inl ⟨by rfl, ?_⟩) (by assumption) ?_
            rotate_left
            · (intro w hSw; (try dsimp only at hSw); go_simp; try (with_reducible rfl))
            try simp only [Act.put, List.setIfInBounds_toArray, List.set_cons_zero, List.set_cons_succ, List.getElem_toArray, List.getElem_cons_zero, List.getElem_cons_succ]
            generalize hwd : w8.drew = wd at *
            refine wpAnyH_ready (rs := [3]) (by kernel_rfl) (by simp) ?_
            refine AllReadyH.cons rfl (fun K hK => ?_) AllReadyH.nil
            go_simp
            refine hK.out _ _ (hHeld) (fun hHeld2 => ?_)
            clear hK K hHeld
            have hHeld := hHeld2
            clear hHeld2
            try simp only [Act.put, List.setIfInBounds_toArray, List.set_cons_zero, List.set_cons_succ, List.getElem_toArray, List.getElem_cons_zero, List.getElem_cons_succ]
            refine wpAnyH_ready (rs := [4]) (by kernel_rfl) (by simp) ?_
            refine AllReadyH.cons rfl (fun K hK => ?_) AllReadyH.nil
            go_simp
            show K _ (setE wd X (.int .i64 (zo : Int)) (.slice q7 lo7 cq7))
            have hse := setE_chg wd X (.int .i64 (zo : Int)) (.slice q7 lo7 cq7)
            have hK8 := hse.box HKD.out (by have := HKX.out; omega)
            refine hK.out _ _ ((by exact ⟨by rw [cell_in hK8]; rfl, by rw [cell_in hK8]; rfl⟩)) (fun hHeld2 => ?_)
            clear hK K hHeld
            have hHeld := hHeld2
            clear hHeld2
            try simp only [Act.put, List.setIfInBounds_toArray, List.set_cons_zero, List.set_cons_succ, List.getElem_toArray, List.getElem_cons_zero, List.getElem_cons_succ]
            refine wpAnyH_ready (rs := [5]) (by kernel_rfl) (by simp) ?_
            refine AllReadyH.cons rfl (fun K hK => ?_) AllReadyH.nil
            go_simp
            refine hK.out _ _ (hHeld) (fun hHeld2 => ?_)
            clear hK K hHeld
            have hHeld := hHeld2
            clear hHeld2
            try simp only [Act.put, List.setIfInBounds_toArray, List.set_cons_zero, List.set_cons_succ, List.getElem_toArray, List.getElem_cons_zero, List.getElem_cons_succ]
            refine wpAnyH_ready (rs := [6]) (by kernel_rfl) (by simp) ?_
            refine AllReadyH.cons rfl (fun K hK => ?_) AllReadyH.nil
            go_simp
            refine hK.out _ _ (hHeld) (fun hHeld2 => ?_)
            clear hK K hHeld
            have hHeld := hHeld2
            clear hHeld2
            try simp only [Act.put, List.setIfInBounds_toArray, List.set_cons_zero, List.set_cons_succ, List.getElem_toArray, List.getElem_cons_zero, List.getElem_cons_succ]
            refine wpAnyH_done (by kernel_rfl) ?_ _
            refine NoPanic.normal ?_
            clear hHeld hwd ky0 ky1 x0 x1 fx0 fx1
            go_wp2
            go_roundw
            case rel => exact ⟨i + 1, P7, gn', c', none, (zo : Int), q7, lo7, cq7, z2, q2, n2, c2, by omega, by go_num, rfl, (by rw [HOKB.out]), rfl, Lib.hid (by have := HGN.out; omega), HFIN⟩
            case measure => simp [intOf]; omega
          · subst hub
            subst hgB
            subst hcB
            have hokt : okb = true := HOKB.out
            subst hokt
            have HU7b := Lib.hid (HU7.out b rfl)
            obtain ⟨r1, hr1⟩ : ∃ r1, (decide ((zo : Int) = z1) && decide (bodyOf (some ⟨gn + 1, b.1, b.2⟩) = bodyOf c)) = r1 := ⟨_, rfl⟩
            rw [hr1] at hsmA
            clear hr1
            cases hs
            · clear hsmA
              have hsmB := esame_any (zo : Int) z2 (bodyOf (some ⟨gn + 1, b.1, b.2⟩)) b.2 q7 q2 cq7 c2 w7 HQ7.out.2.1.2.1 HU7b.out.2.2.1
              rw [← HLO7.out, ← HU7b.out.2.1] at hsmB
              have hr2 : (decide ((zo : Int) = z2) && decide (bodyOf (some ⟨gn + 1, b.1, b.2⟩) = b.2)) = true := by
                rw [decide_eq_true (show (zo : Int) = z2 by rw [HZO.out, HU7b.out.1]; rfl), decide_eq_true (show bodyOf (some ⟨gn + 1, b.1, b.2⟩) = b.2 from rfl)]
                rfl
              rw [hr2] at hsmB
              clear hr2
              go_wp2_with fail
              first | rw [hw7] | skip
              first | rw [hK70] | skip
              clear hw7 hK70
              refine hsmB.mono ?_
              clear hsmB
              rintro e w8 ⟨rfl, hb8⟩
              have hc8 := Chg.below hb8 (fun _ => False)
              have HQ8 := Lib.hid (show (w8.heap[X]? = some (.cells #[.int .i64 z1, .slice q1 n1 c1] 48 (0, 0)) ∧ w8.heap[Y]? = some (.cells #[.int .i64 z2, .slice q2 n2 c2] 48 (0, 0))) ∧ (KSl w w8 P7 D g k (gn + 1) (some ⟨gn + 1, b.1, b.2⟩) none ∧ SBody w w8 q7 (bodyOf (some ⟨gn + 1, b.1, b.2⟩))) ∧ w8.heap[K7]? = some (.cells #[.int .i64 (zo : Int), .slice q7 lo7 cq7] 48 (0, 0)) from ⟨⟨hc8.box HQ7.out.1.1 (fun e => e), hc8.box HQ7.out.1.2 (fun e => e)⟩, ⟨HQ7.out.2.1.1.on hb8, HQ7.out.2.1.2.on hb8⟩, hc8.box HQ7.out.2.2 (fun e => e)⟩)
              clear hb8 hc8 a0 a1 b0 b1 d0 d1'
              have hX8 := HQ8.out.1
              have ky0 : w8.cell? ⟨K7, 0, none⟩ = some (.int .i64 (zo : Int)) := by rw [cell_in HQ8.out.2.2]; rfl
              have ky1 : w8.cell? ⟨K7, 1, none⟩ = some (.slice q7 lo7 cq7) := by rw [cell_in HQ8.out.2.2]; rfl
              go_wp2_with fail
              have hbd : Below w8.heap.size w8 w8.drew := bD (Below.refl _ _)
              have hcd := Chg.below hbd (fun _ => False)
              have hXd := hcd.box HQ8.out.1.1 (fun e => e)
              have hYd := hcd.box HQ8.out.1.2 (fun e => e)
              have hKd := hcd.box HQ8.out.2.2 (fun e => e)
              have hkd := HQ8.out.2.1.1.on hbd
              have hqd := HQ8.out.2.1.2.on hbd
              have fin := KQ.reopened hkd hXd hYd HLO.out q7 cq7 hqd
              rw [← HZO.out, ← HLO7.out] at fin
              have HFIN := Lib.hid fin
              have x0 : w8.drew.cell? ⟨X, 0, none⟩ = some (.int .i64 z1) := by rw [cell_in hXd]; rfl
              have x1 : w8.drew.cell? ⟨X, 1, none⟩ = some (.slice q1 n1 c1) := by rw [cell_in hXd]; rfl
              have fx0 := frozen_in hXd 0
              have fx1 := frozen_in hXd 1
              have HKD := Lib.hid hKd
              have HXD := Lib.hid hXd
              clear hX8 hcd hXd hYd hKd hkd hqd fin hbd
              refine wp_region_noPanic ?_
              refine wp_region_held_drew (S := fun W => W.cell? ⟨K7, 0, none⟩ = some (.int .i64 (zo : Int)) ∧ W.cell? ⟨K7, 1, none⟩ = some (.slice q7 lo7 cq7)) (by kernel_rfl) (⟨ky0, ky1⟩) (fun hHeld => ?_)
              refine wpAnyH_take (i := 0) (v := ?_) rfl (by kernel_rfl) (by kernel_rfl) (by kernel_rfl) (fun _ _ _ h => h) (Or.inl ⟨by rfl, ?_⟩) (by assumption) ?_
              rotate_left
              · (intro w hSw; (try dsimp only at hSw); go_simp; try (with_reducible rfl))
              try simp only [Act.put, List.setIfInBounds_toArray, List.set_cons_zero, List.set_cons_succ, List.getElem_toArray, List.getElem_cons_zero]
              refine wpAnyH_take (i := 1) (v := ?_) rfl (by kernel_rfl) (by kernel_rfl) (by kernel_rfl) (fun _ _ _ h => h) (Or.inl ⟨by rfl, ?_⟩) (by assumption) ?_
              rotate_left
              · (intro w hSw; (try dsimp only at hSw); go_simp; try (with_reducible rfl))
              try simp only [Act.put, List.setIfInBounds_toArray, List.set_cons_zero, List.set_cons_succ, List.getElem_toArray, List.getElem_cons_zero, List.getElem_cons_succ]
              refine wpAnyH_take (i := 2) (v := ?_) rfl (by kernel_rfl) (by kernel_rfl) (by kernel_rfl) (fun _ _ _ h => h) (Or.inl ⟨by rfl, ?_⟩) (by assumption) ?_
              rotate_left
              · (intro w hSw; (try dsimp only at hSw); go_simp; try (with_reducible rfl))
              try simp only [Act.put, List.setIfInBounds_toArray, List.set_cons_zero, List.set_cons_succ, List.getElem_toArray, List.getElem_cons_zero, List.getElem_cons_succ]
              generalize hwd : w8.drew = wd at *
              refine wpAnyH_ready (rs := [3]) (by kernel_rfl) (by simp) ?_
              refine AllReadyH.cons rfl (fun K hK => ?_) AllReadyH.nil
              go_simp
              refine hK.out _ _ (hHeld) (fun hHeld2 => ?_)
              clear hK K hHeld
              have hHeld := hHeld2
              clear hHeld2
              try simp only [Act.put, List.setIfInBounds_toArray, List.set_cons_zero, List.set_cons_succ, List.getElem_toArray, List.getElem_cons_zero, List.getElem_cons_succ]
              refine wpAnyH_ready (rs := [4]) (by kernel_rfl) (by simp) ?_
              refine AllReadyH.cons rfl (fun K hK => ?_) AllReadyH.nil
              go_simp
              show K _ (setE wd X (.int .i64 (zo : Int)) (.slice q7 lo7 cq7))
              have hse := setE_chg wd X (.int .i64 (zo : Int)) (.slice q7 lo7 cq7)
              have hK8 := hse.box HKD.out (by have := HKX.out; omega)
              refine hK.out _ _ ((by exact ⟨by rw [cell_in hK8]; rfl, by rw [cell_in hK8]; rfl⟩)) (fun hHeld2 => ?_)
              clear hK K hHeld
              have hHeld := hHeld2
              clear hHeld2
              try simp only [Act.put, List.setIfInBounds_toArray, List.set_cons_zero, List.set_cons_succ, List.getElem_toArray, List.getElem_cons_zero, List.getElem_cons_succ]
              refine wpAnyH_ready (rs := [5]) (by kernel_rfl) (by simp) ?_
              refine AllReadyH.cons rfl (fun K hK => ?_) AllReadyH.nil
              go_simp
              refine hK.out _ _ (hHeld) (fun hHeld2 => ?_)
              clear hK K hHeld
              have hHeld := hHeld2
              clear hHeld2
              try simp only [Act.put, List.setIfInBounds_toArray, List.set_cons_zero, List.set_cons_succ, List.getElem_toArray, List.getElem_cons_zero, List.getElem_cons_succ]
              refine wpAnyH_ready (rs := [6]) (by kernel_rfl) (by simp) ?_
              refine AllReadyH.cons rfl (fun K hK => ?_) AllReadyH.nil
              go_simp
              refine hK.out _ _ (hHeld) (fun hHeld2 => ?_)
              clear hK K hHeld
              have hHeld := hHeld2
              clear hHeld2
              try simp only [Act.put, List.setIfInBounds_toArray, List.set_cons_zero, List.set_cons_succ, List.getElem_toArray, List.getElem_cons_zero, List.getElem_cons_succ]
              refine wpAnyH_done (by kernel_rfl) ?_ _
              refine NoPanic.normal ?_
              clear hHeld hwd ky0 ky1 x0 x1 fx0 fx1
              go_wp2
              go_roundw
              case rel => exact ⟨i + 1, P7, (gn + 1), (some ⟨gn + 1, b.1, b.2⟩), none, (zo : Int), q7, lo7, cq7, z2, q2, n2, c2, by omega, by go_num, rfl, rfl, rfl, Lib.hid (by have := HGN.out; omega), HFIN⟩
              case measure => simp [intOf]; omega
            · go_wp2_with fail
              first | rw [hw7] | skip
              first | rw [hK70] | skip
              clear hw7 hK70
              refine hsmA.mono ?_
              clear hsmA
              rintro e w8 ⟨rfl, hb8⟩
              have hc8 := Chg.below hb8 (fun _ => False)
              have HQ8 := Lib.hid (show (w8.heap[X]? = some (.cells #[.int .i64 z1, .slice q1 n1 c1] 48 (0, 0)) ∧ w8.heap[Y]? = some (.cells #[.int .i64 z2, .slice q2 n2 c2] 48 (0, 0))) ∧ (KSl w w8 P7 D g k (gn + 1) (some ⟨gn + 1, b.1, b.2⟩) none ∧ SBody w w8 q7 (bodyOf (some ⟨gn + 1, b.1, b.2⟩))) ∧ w8.heap[K7]? = some (.cells #[.int .i64 (zo : Int), .slice q7 lo7 cq7] 48 (0, 0)) from ⟨⟨hc8.box HQ7.out.1.1 (fun e => e), hc8.box HQ7.out.1.2 (fun e => e)⟩, ⟨HQ7.out.2.1.1.on hb8, HQ7.out.2.1.2.on hb8⟩, hc8.box HQ7.out.2.2 (fun e => e)⟩)
              have HU8b := Lib.hid (show z2 = (b.1 : Nat) ∧ n2 = b.2.length ∧ SBody w w8 q2 b.2 from ⟨HU7b.out.1, HU7b.out.2.1, HU7b.out.2.2.on hb8⟩)
              clear hb8 hc8 a0 a1 b0 b1 d0 d1'
              cases r1
              · have a0 : w8.cell? ⟨K7, 0, none⟩ = some (.int .i64 (zo : Int)) := by rw [cell_in HQ8.out.2.2]; rfl
                have a1 : w8.cell? ⟨K7, 1, none⟩ = some (.slice q7 lo7 cq7) := by rw [cell_in HQ8.out.2.2]; rfl
                have d0 : w8.cell? ⟨Y, 0, none⟩ = some (.int .i64 z2) := by rw [cell_in HQ8.out.1.2]; rfl
                have d1' : w8.cell? ⟨Y, 1, none⟩ = some (.slice q2 n2 c2) := by rw [cell_in HQ8.out.1.2]; rfl
                have hsmB := esame_any (zo : Int) z2 (bodyOf (some ⟨gn + 1, b.1, b.2⟩)) b.2 q7 q2 cq7 c2 w8 HQ8.out.2.1.2.1 HU8b.out.2.2.1
                rw [← HLO7.out, ← HU8b.out.2.1] at hsmB
                have hr2 : (decide ((zo : Int) = z2) && decide (bodyOf (some ⟨gn + 1, b.1, b.2⟩) = b.2)) = true := by
                  rw [decide_eq_true (show (zo : Int) = z2 by rw [HZO.out, HU8b.out.1]; rfl), decide_eq_true (show bodyOf (some ⟨gn + 1, b.1, b.2⟩) = b.2 from rfl)]
                  rfl
                rw [hr2] at hsmB
                clear hr2
                go_wp2_with fail
                refine hsmB.mono ?_
                clear hsmB
                rintro e w9 ⟨rfl, hb9⟩
                have hc9 := Chg.below hb9 (fun _ => False)
                have HQ9 := Lib.hid (show (w9.heap[X]? = some (.cells #[.int .i64 z1, .slice q1 n1 c1] 48 (0, 0)) ∧ w9.heap[Y]? = some (.cells #[.int .i64 z2, .slice q2 n2 c2] 48 (0, 0))) ∧ (KSl w w9 P7 D g k (gn + 1) (some ⟨gn + 1, b.1, b.2⟩) none ∧ SBody w w9 q7 (bodyOf (some ⟨gn + 1, b.1, b.2⟩))) ∧ w9.heap[K7]? = some (.cells #[.int .i64 (zo : Int), .slice q7 lo7 cq7] 48 (0, 0)) from ⟨⟨hc9.box HQ8.out.1.1 (fun e => e), hc9.box HQ8.out.1.2 (fun e => e)⟩, ⟨HQ8.out.2.1.1.on hb9, HQ8.out.2.1.2.on hb9⟩, hc9.box HQ8.out.2.2 (fun e => e)⟩)
                clear hb9 hc9 a0 a1 d0 d1'
                have hX9 := HQ9.out.1
                have ky0 : w9.cell? ⟨K7, 0, none⟩ = some (.int .i64 (zo : Int)) := by rw [cell_in HQ9.out.2.2]; rfl
                have ky1 : w9.cell? ⟨K7, 1, none⟩ = some (.slice q7 lo7 cq7) := by rw [cell_in HQ9.out.2.2]; rfl
                go_wp2_with fail
                have hbd : Below w9.heap.size w9 w9.drew := bD (Below.refl _ _)
                have hcd := Chg.below hbd (fun _ => False)
                have hXd := hcd.box HQ9.out.1.1 (fun e => e)
                have hYd := hcd.box HQ9.out.1.2 (fun e => e)
                have hKd := hcd.box HQ9.out.2.2 (fun e => e)
                have hkd := HQ9.out.2.1.1.on hbd
                have hqd := HQ9.out.2.1.2.on hbd
                have fin := KQ.reopened hkd hXd hYd HLO.out q7 cq7 hqd
                rw [← HZO.out, ← HLO7.out] at fin
                have HFIN := Lib.hid fin
                have x0 : w9.drew.cell? ⟨X, 0, none⟩ = some (.int .i64 z1) := by rw [cell_in hXd]; rfl
                have x1 : w9.drew.cell? ⟨X, 1, none⟩ = some (.slice q1 n1 c1) := by rw [cell_in hXd]; rfl
                have fx0 := frozen_in hXd 0
                have fx1 := frozen_in hXd 1
                have HKD := Lib.hid hKd
                have HXD := Lib.hid hXd
                clear hX9 hcd hXd hYd hKd hkd hqd fin hbd
                refine wp_region_noPanic ?_
                refine wp_region_held_drew (S := fun W => W.cell? ⟨K7, 0, none⟩ = some (.int .i64 (zo : Int)) ∧ W.cell? ⟨K7, 1, none⟩ = some (.slice q7 lo7 cq7)) (by kernel_rfl) (⟨ky0, ky1⟩) (fun hHeld => ?_)
                refine wpAnyH_take (i := 0) (v := ?_) rfl (by kernel_rfl) (by kernel_rfl) (by kernel_rfl) (fun _ _ _ h => h) (Or.inl ⟨by rfl, ?_⟩) (by assumption) ?_
                rotate_left
                · (intro w hSw; (try dsimp only at hSw); go_simp; try (with_reducible rfl))
                try simp only [Act.put, List.setIfInBounds_toArray, List.set_cons_zero, List.set_cons_succ, List.getElem_toArray, List.getElem_cons_zero]
                refine wpAnyH_take (i := 1) (v := ?_) rfl (by kernel_rfl) (by kernel_rfl) (by kernel_rfl) (fun _ _ _ h => h) (Or.inl ⟨by rfl, ?_⟩) (by assumption) ?_
                rotate_left
                · (intro w hSw; (try dsimp only at hSw); go_simp; try (with_reducible rfl))
                try simp only [Act.put, List.setIfInBounds_toArray, List.set_cons_zero, List.set_cons_succ, List.getElem_toArray, List.getElem_cons_zero, List.getElem_cons_succ]
                refine wpAnyH_take (i := 2) (v := ?_) rfl (by kernel_rfl) (by kernel_rfl) (by kernel_rfl) (fun _ _ _ h => h) (Or.inl ⟨by rfl, ?_⟩) (by assumption) ?_
                rotate_left
                · (intro w hSw; (try dsimp only at hSw); go_simp; try (with_reducible rfl))
                try simp only [Act.put, List.setIfInBounds_toArray, List.set_cons_zero, List.set_cons_succ, List.getElem_toArray, List.getElem_cons_zero, List.getElem_cons_succ]
                generalize hwd : w9.drew = wd at *
                refine wpAnyH_ready (rs := [3]) (by kernel_rfl) (by simp) ?_
                refine AllReadyH.cons rfl (fun K hK => ?_) AllReadyH.nil
                go_simp
                refine hK.out _ _ (hHeld) (fun hHeld2 => ?_)
                clear hK K hHeld
                have hHeld := hHeld2
                clear hHeld2
                try simp only [Act.put, List.setIfInBounds_toArray, List.set_cons_zero, List.set_cons_succ, List.getElem_toArray, List.getElem_cons_zero, List.getElem_cons_succ]
                refine wpAnyH_ready (rs := [4]) (by kernel_rfl) (by simp) ?_
                refine AllReadyH.cons rfl (fun K hK => ?_) AllReadyH.nil
                go_simp
                show K _ (setE wd X (.int .i64 (zo : Int)) (.slice q7 lo7 cq7))
                have hse := setE_chg wd X (.int .i64 (zo : Int)) (.slice q7 lo7 cq7)
                have hK8 := hse.box HKD.out (by have := HKX.out; omega)
                refine hK.out _ _ ((by exact ⟨by rw [cell_in hK8]; rfl, by rw [cell_in hK8]; rfl⟩)) (fun hHeld2 => ?_)
                clear hK K hHeld
                have hHeld := hHeld2
                clear hHeld2
                try simp only [Act.put, List.setIfInBounds_toArray, List.set_cons_zero, List.set_cons_succ, List.getElem_toArray, List.getElem_cons_zero, List.getElem_cons_succ]
                refine wpAnyH_ready (rs := [5]) (by kernel_rfl) (by simp) ?_
                refine AllReadyH.cons rfl (fun K hK => ?_) AllReadyH.nil
                go_simp
                refine hK.out _ _ (hHeld) (fun hHeld2 => ?_)
                clear hK K hHeld
                have hHeld := hHeld2
                clear hHeld2
                try simp only [Act.put, List.setIfInBounds_toArray, List.set_cons_zero, List.set_cons_succ, List.getElem_toArray, List.getElem_cons_zero, List.getElem_cons_succ]
                refine wpAnyH_ready (rs := [6]) (by kernel_rfl) (by simp) ?_
                refine AllReadyH.cons rfl (fun K hK => ?_) AllReadyH.nil
                go_simp
                refine hK.out _ _ (hHeld) (fun hHeld2 => ?_)
                clear hK K hHeld
                have hHeld := hHeld2
                clear hHeld2
                try simp only [Act.put, List.setIfInBounds_toArray, List.set_cons_zero, List.set_cons_succ, List.getElem_toArray, List.getElem_cons_zero, List.getElem_cons_succ]
                refine wpAnyH_done (by kernel_rfl) ?_ _
                refine NoPanic.normal ?_
                clear hHeld hwd ky0 ky1 x0 x1 fx0 fx1
                go_wp2
                go_roundw
                case rel => exact ⟨i + 1, P7, (gn + 1), (some ⟨gn + 1, b.1, b.2⟩), none, (zo : Int), q7, lo7, cq7, z2, q2, n2, c2, by omega, by go_num, rfl, rfl, rfl, Lib.hid (by have := HGN.out; omega), HFIN⟩
                case measure => simp [intOf]; omega
              · have hX8 := HQ8.out.1
                have ky0 : w8.cell? ⟨K7, 0, none⟩ = some (.int .i64 (zo : Int)) := by rw [cell_in HQ8.out.2.2]; rfl
                have ky1 : w8.cell? ⟨K7, 1, none⟩ = some (.slice q7 lo7 cq7) := by rw [cell_in HQ8.out.2.2]; rfl
                go_wp2_with fail
                have hbd : Below w8.heap.size w8 w8.drew := bD (Below.refl _ _)
                have hcd := Chg.below hbd (fun _ => False)
                have hXd := hcd.box HQ8.out.1.1 (fun e => e)
                have hYd := hcd.box HQ8.out.1.2 (fun e => e)
                have hKd := hcd.box HQ8.out.2.2 (fun e => e)
                have hkd := HQ8.out.2.1.1.on hbd
                have hqd := HQ8.out.2.1.2.on hbd
                have fin := KQ.reopened hkd hXd hYd HLO.out q7 cq7 hqd
                rw [← HZO.out, ← HLO7.out] at fin
                have HFIN := Lib.hid fin
                have x0 : w8.drew.cell? ⟨X, 0, none⟩ = some (.int .i64 z1) := by rw [cell_in hXd]; rfl
                have x1 : w8.drew.cell? ⟨X, 1, none⟩ = some (.slice q1 n1 c1) := by rw [cell_in hXd]; rfl
                have fx0 := frozen_in hXd 0
                have fx1 := frozen_in hXd 1
                have HKD := Lib.hid hKd
                have HXD := Lib.hid hXd
                clear hX8 hcd hXd hYd hKd hkd hqd fin hbd
                refine wp_region_noPanic ?_
                refine wp_region_held_drew (S := fun W => W.cell? ⟨K7, 0, none⟩ = some (.int .i64 (zo : Int)) ∧ W.cell? ⟨K7, 1, none⟩ = some (.slice q7 lo7 cq7)) (by kernel_rfl) (⟨ky0, ky1⟩) (fun hHeld => ?_)
                refine wpAnyH_take (i := 0) (v := ?_) rfl (by kernel_rfl) (by kernel_rfl) (by kernel_rfl) (fun _ _ _ h => h) (Or.inl ⟨by rfl, ?_⟩) (by assumption) ?_
                rotate_left
                · (intro w hSw; (try dsimp only at hSw); go_simp; try (with_reducible rfl))
                try simp only [Act.put, List.setIfInBounds_toArray, List.set_cons_zero, List.set_cons_succ, List.getElem_toArray, List.getElem_cons_zero]
                refine wpAnyH_take (i := 1) (v := ?_) rfl (by kernel_rfl) (by kernel_rfl) (by kernel_rfl) (fun _ _ _ h => h) (Or.inl ⟨by rfl, ?_⟩) (by assumption) ?_
                rotate_left
                · (intro w hSw; (try dsimp only at hSw); go_simp; try (with_reducible rfl))
                try simp only [Act.put, List.setIfInBounds_toArray, List.set_cons_zero, List.set_cons_succ, List.getElem_toArray, List.getElem_cons_zero, List.getElem_cons_succ]
                refine wpAnyH_take (i := 2) (v := ?_) rfl (by kernel_rfl) (by kernel_rfl) (by kernel_rfl) (fun _ _ _ h => h) (Or.inl ⟨by rfl, ?_⟩) (by assumption) ?_
                rotate_left
                · (intro w hSw; (try dsimp only at hSw); go_simp; try (with_reducible rfl))
                try simp only [Act.put, List.setIfInBounds_toArray, List.set_cons_zero, List.set_cons_succ, List.getElem_toArray, List.getElem_cons_zero, List.getElem_cons_succ]
                generalize hwd : w8.drew = wd at *
                refine wpAnyH_ready (rs := [3]) (by kernel_rfl) (by simp) ?_
                refine AllReadyH.cons rfl (fun K hK => ?_) AllReadyH.nil
                go_simp
                refine hK.out _ _ (hHeld) (fun hHeld2 => ?_)
                clear hK K hHeld
                have hHeld := hHeld2
                clear hHeld2
                try simp only [Act.put, List.setIfInBounds_toArray, List.set_cons_zero, List.set_cons_succ, List.getElem_toArray, List.getElem_cons_zero, List.getElem_cons_succ]
                refine wpAnyH_ready (rs := [4]) (by kernel_rfl) (by simp) ?_
                refine AllReadyH.cons rfl (fun K hK => ?_) AllReadyH.nil
                go_simp
                show K _ (setE wd X (.int .i64 (zo : Int)) (.slice q7 lo7 cq7))
                have hse := setE_chg wd X (.int .i64 (zo : Int)) (.slice q7 lo7 cq7)
                have hK8 := hse.box HKD.out (by have := HKX.out; omega)
                refine hK.out _ _ ((by exact ⟨by rw [cell_in hK8]; rfl, by rw [cell_in hK8]; rfl⟩)) (fun hHeld2 => ?_)
                clear hK K hHeld
                have hHeld := hHeld2
                clear hHeld2
                try simp only [Act.put, List.setIfInBounds_toArray, List.set_cons_zero, List.set_cons_succ, List.getElem_toArray, List.getElem_cons_zero, List.getElem_cons_succ]
                refine wpAnyH_ready (rs := [5]) (by kernel_rfl) (by simp) ?_
                refine AllReadyH.cons rfl (fun K hK => ?_) AllReadyH.nil
                go_simp
                refine hK.out _ _ (hHeld) (fun hHeld2 => ?_)
                clear hK K hHeld
                have hHeld := hHeld2
                clear hHeld2
                try simp only [Act.put, List.setIfInBounds_toArray, List.set_cons_zero, List.set_cons_succ, List.getElem_toArray, List.getElem_cons_zero, List.getElem_cons_succ]
                refine wpAnyH_ready (rs := [6]) (by kernel_rfl) (by simp) ?_
                refine AllReadyH.cons rfl (fun K hK => ?_) AllReadyH.nil
                go_simp
                refine hK.out _ _ (hHeld) (fun hHeld2 => ?_)
                clear hK K hHeld
                have hHeld := hHeld2
                clear hHeld2
                try simp only [Act.put, List.setIfInBounds_toArray, List.set_cons_zero, List.set_cons_succ, List.getElem_toArray, List.getElem_cons_zero, List.getElem_cons_succ]
                refine wpAnyH_done (by kernel_rfl) ?_ _
                refine NoPanic.normal ?_
                clear hHeld hwd ky0 ky1 x0 x1 fx0 fx1
                go_wp2
                go_roundw
                case rel => exact ⟨i + 1, P7, (gn + 1), (some ⟨gn + 1, b.1, b.2⟩), none, (zo : Int), q7, lo7, cq7, z2, q2, n2, c2, by omega, by go_num, rfl, rfl, rfl, Lib.hid (by have := HGN.out; omega), HFIN⟩
                case measure => simp [intOf]; omega
        have t2 : (kd == 2) = false := by simpa using hk2'
        go_wp2
        first | rw [HW1.out] | skip
        first | rw [HHS.out] | skip
        go_roundw
        case rel => exact ⟨i + 1, P, gn, c, ub, z1, q1, n1, c1, z2, q2, n2, c2, by omega, by go_num, rfl, rfl, rfl, Lib.hid (by have := HGN.out; omega), HS1⟩
        case measure => simp [intOf]; omega
      · have e2 : decide ((i : Int) < (N : Int)) = false := decide_eq_false (by omega)
        have e2' : decide (i < N) = false := decide_eq_false hlt
        obtain ⟨W1, hW1⟩ : ∃ W1, wr.alloc (.cells #[.int .i64 2, .int .i64 0, .int .i64 0, .slice none 0 0, .slice none 0 0] 61) = W1 := ⟨_, rfl⟩
        have hb1' : Below wr.heap.size wr W1 := by rw [← hW1]; exact bA (Below.refl _ _) _
        have HS1 := Lib.hid (HS.out.on hb1')
        have HW1 := Lib.hid hW1
        clear hb1' hW1
        go_wp2_with fail
        first | rw [HW1.out] | skip
        have hcr := HS1.out.ksl.crash none 0 [] (by simp) (fun j hj => by simp at hj)
        rw [List.length_nil] at hcr
        refine hcr.mono ?_
        clear hcr
        rintro e w4 ⟨⟨ce, rfl⟩, hc4, hb4, S', hd4, hh4⟩
        have hap := HS1.out.ksl.apart
        have hbs := HS1.out.ksl.base
        have hapx := HS1.out.apart
        have hlt4 : D < w4.heap.size ∧ g < w4.heap.size := ⟨(Array.getElem?_eq_some_iff.1 hd4.box).1, (Array.getElem?_eq_some_iff.1 hd4.dur).1⟩
        have hX4 := hc4.box HS1.out.sure hapx.1
        have hY4 := hc4.box HS1.out.under hapx.2
        have hso := HS1.out.sok
        have hs4 := hso.2.2.chg hc4 HS1.out.ksl.others
        have hu4 : ∀ b, ub = some b → z2 = (b.1 : Nat) ∧ n2 = b.2.length ∧ SBody w w4 q2 b.2 := fun b h => ⟨(HS1.out.uok b h).1, (HS1.out.uok b h).2.1, (HS1.out.uok b h).2.2.chg hc4 HS1.out.ksl.others⟩
        have hoD : SOther w w4 (fun k => k = D) := fun b hb => by rw [show b = D from hb]; exact ⟨hbs.2.1, _, _, _, hd4.box, by decide⟩
        obtain ⟨gn', c', hho, hcc⟩ : ∃ gn' c', SHold k S' gn' c' ∧ ((gn' = gn ∧ c' = c) ∨ ∃ b, ub = some b ∧ gn' = gn + 1 ∧ c' = some ⟨gn + 1, b.1, b.2⟩) := by
          rcases hh4 with h | ⟨b, hb, h⟩
          · exact ⟨_, _, h, .inl ⟨rfl, rfl⟩⟩
          · exact ⟨_, _, h, .inr ⟨b, hb, rfl, rfl⟩⟩
        have hop := open_whole D g S' k gn' c' hk1 hho w4 hd4 hap.1
        have HC4 := Lib.hid (show _ ∧ _ ∧ _ ∧ _ ∧ _ ∧ _ ∧ _ from ⟨hb4, hX4, hY4, hs4, hu4, hoD, hho⟩)
        have HLO := Lib.hid HS1.out.lo
        have HSO := Lib.hid (show _ ∧ _ from ⟨hso.1, hso.2.1⟩)
        have HAPX := Lib.hid hapx
        clear hb4 hc4 hd4 hh4 hX4 hY4 hs4 hu4 hoD hho hso
        go_wp2_with fail
        refine hop.mono ?_
        clear hop
        rintro e w6 ⟨P7, q7, cq7, rfl, hP7, hs6, hh6, hd6, hc6⟩
        obtain ⟨hb4, hX4, hY4, hs4, hu4, hoD, hho⟩ := HC4.out
        have hk6 := KSl.opened hb4 ⟨hbs.2.1, hbs.2.2⟩ hap.1 hlt4 hP7 hs6 hd6 hc6 hho
        have hX6 := hc6.box hX4 (fun e => hapx.1 (.inr (.inl e)))
        have hY6 := hc6.box hY4 (fun e => hapx.2 (.inr (.inl e)))
        have hq6 : SBody w w6 q7 (bodyOf c') := Held.sbody hh6
        have hs6' := hs4.chg hc6 hoD
        have hu6 : ∀ b, ub = some b → z2 = (b.1 : Nat) ∧ n2 = b.2.length ∧ SBody w w6 q2 b.2 := fun b h => ⟨(hu4 b h).1, (hu4 b h).2.1, (hu4 b h).2.2.chg hc6 hoD⟩
        obtain ⟨zo, hzo⟩ : ∃ zo, zo = stOf c' := ⟨_, rfl⟩
        obtain ⟨lo7, hlo7⟩ : ∃ lo7, lo7 = (bodyOf c').length := ⟨_, rfl⟩
        obtain ⟨okb, hokb⟩ : ∃ okb, okb = c'.isSome := ⟨_, rfl⟩
        rw [show entB c' q7 cq7 = #[.int .i64 (zo : Int), .slice q7 lo7 cq7] by unfold entB; rw [← hzo, ← hlo7], ← hokb]
        obtain ⟨w7, hw7⟩ : ∃ w7, w6.alloc (.cells #[.int .i64 (zo : Int), .slice q7 lo7 cq7] 48) = w7 := ⟨_, rfl⟩
        have hb67 : Below w6.heap.size w6 w7 := by rw [← hw7]; exact bA (Below.refl _ _) _
        have hc67 := Chg.below hb67 (fun _ => False)
        have hK7 : w7.heap[w6.heap.size]? = some (.cells #[.int .i64 (zo : Int), .slice q7 lo7 cq7] 48 (0, 0)) := by rw [← hw7]; exact heap_new w6 _
        obtain ⟨K7, hK70⟩ : ∃ K7, w6.heap.size = K7 := ⟨_, rfl⟩
        rw [hK70] at hK7
        have HKX := Lib.hid (show K7 ≠ X ∧ K7 ≠ Y by
          have h1 := (Array.getElem?_eq_some_iff.1 hX6).1
          have h2 := (Array.getElem?_eq_some_iff.1 hY6).1
          omega)
        have HQ7 := Lib.hid (show (w7.heap[X]? = some (.cells #[.int .i64 z1, .slice q1 n1 c1] 48 (0, 0)) ∧ w7.heap[Y]? = some (.cells #[.int .i64 z2, .slice q2 n2 c2] 48 (0, 0))) ∧ (KSl w w7 P7 D g k gn' c' none ∧ SBody w w7 q7 (bodyOf c')) ∧ w7.heap[K7]? = some (.cells #[.int .i64 (zo : Int), .slice q7 lo7 cq7] 48 (0, 0)) from ⟨⟨hc67.box hX6 (fun e => e), hc67.box hY6 (fun e => e)⟩, ⟨hk6.on hb67, hq6.on hb67⟩, hK7⟩)
        have HS7 := Lib.hid (hs6'.on hb67)
        have HU7 := Lib.hid (show ∀ b, ub = some b → z2 = (b.1 : Nat) ∧ n2 = b.2.length ∧ SBody w w7 q2 b.2 from fun b h => ⟨(hu6 b h).1, (hu6 b h).2.1, (hu6 b h).2.2.on hb67⟩)
        have HZO := Lib.hid hzo
        have HLO7 := Lib.hid hlo7
        have HOKB := Lib.hid hokb
        have HK70 := Lib.hid hK70
        have a0 : w7.cell? ⟨K7, 0, none⟩ = some (.int .i64 (zo : Int)) := by rw [cell_in hK7]; rfl
        have a1 : w7.cell? ⟨K7, 1, none⟩ = some (.slice q7 lo7 cq7) := by rw [cell_in hK7]; rfl
        have b0 : w7.cell? ⟨X, 0, none⟩ = some (.int .i64 z1) := by rw [cell_in HQ7.out.1.1]; rfl
        have b1 : w7.cell? ⟨X, 1, none⟩ = some (.slice q1 n1 c1) := by rw [cell_in HQ7.out.1.1]; rfl
        have d0 : w7.cell? ⟨Y, 0, none⟩ = some (.int .i64 z2) := by rw [cell_in HQ7.out.1.2]; rfl
        have d1' : w7.cell? ⟨Y, 1, none⟩ = some (.slice q2 n2 c2) := by rw [cell_in HQ7.out.1.2]; rfl
        clear hb4 hX4 hY4 hs4 hu4 hoD hho hs6 hh6 hd6 hc6 hk6 hX6 hY6 hq6 hs6' hu6 hb67 hc67 hK7 hzo hlo7 hokb hP7 hlt4 hbs hapx
        have hsmA := esame_any (zo : Int) z1 (bodyOf c') (bodyOf c) q7 q1 cq7 c1 w7 HQ7.out.2.1.2.1 HS7.out.1
        rw [← HLO7.out, ← HSO.out.2] at hsmA
        rcases hcc with hcA | ⟨b, hub, hgB, hcB⟩
        · obtain ⟨rfl, rfl⟩ := hcA
          have hr : (decide ((zo : Int) = z1) && decide (bodyOf c' = bodyOf c')) = true := by
            rw [decide_eq_true (show (zo : Int) = z1 by rw [HZO.out, HSO.out.1]), decide_eq_true rfl]
            rfl
          rw [hr] at hsmA
          have hokh : okb = hs := by rw [HOKB.out, HHS.out]
          subst hokh
          clear hr
          go_wp2_with fail
          first | rw [hw7] | skip
          first | rw [hK70] | skip
          clear hw7 hK70
          refine hsmA.mono ?_
          clear hsmA
          rintro e w8 ⟨rfl, hb8⟩
          have hc8 := Chg.below hb8 (fun _ => False)
          have HQ8 := Lib.hid (show (w8.heap[X]? = some (.cells #[.int .i64 z1, .slice q1 n1 c1] 48 (0, 0)) ∧ w8.heap[Y]? = some (.cells #[.int .i64 z2, .slice q2 n2 c2] 48 (0, 0))) ∧ (KSl w w8 P7 D g k gn' c' none ∧ SBody w w8 q7 (bodyOf c')) ∧ w8.heap[K7]? = some (.cells #[.int .i64 (zo : Int), .slice q7 lo7 cq7] 48 (0, 0)) from ⟨⟨hc8.box HQ7.out.1.1 (fun e => e), hc8.box HQ7.out.1.2 (fun e => e)⟩, ⟨HQ7.out.2.1.1.on hb8, HQ7.out.2.1.2.on hb8⟩, hc8.box HQ7.out.2.2 (fun e => e)⟩)
          clear hb8 hc8 a0 a1 b0 b1 d0 d1'
          have hX8 := HQ8.out.1
          have ky0 : w8.cell? ⟨K7, 0, none⟩ = some (.int .i64 (zo : Int)) := by rw [cell_in HQ8.out.2.2]; rfl
          have ky1 : w8.cell? ⟨K7, 1, none⟩ = some (.slice q7 lo7 cq7) := by rw [cell_in HQ8.out.2.2]; rfl
          go_wp2_with fail
          have hbd : Below w8.heap.size w8 w8.drew := bD (Below.refl _ _)
          have hcd := Chg.below hbd (fun _ => False)
          have hXd := hcd.box HQ8.out.1.1 (fun e => e)
          have hYd := hcd.box HQ8.out.1.2 (fun e => e)
          have hKd := hcd.box HQ8.out.2.2 (fun e => e)
          have hkd := HQ8.out.2.1.1.on hbd
          have hqd := HQ8.out.2.1.2.on hbd
          have fin := KQ.reopened hkd hXd hYd HLO.out q7 cq7 hqd
          rw [← HZO.out, ← HLO7.out] at fin
          have HFIN := Lib.hid fin
          have x0 : w8.drew.cell? ⟨X, 0, none⟩ = some (.int .i64 z1) := by rw [cell_in hXd]; rfl
          have x1 : w8.drew.cell? ⟨X, 1, none⟩ = some (.slice q1 n1 c1) := by rw [cell_in hXd]; rfl
          have fx0 := frozen_in hXd 0
          have fx1 := frozen_in hXd 1
          have HKD := Lib.hid hKd
          have HXD := Lib.hid hXd
          clear hX8 hcd hXd hYd hKd hkd hqd fin hbd
          refine wp_region_noPanic ?_
          refine wp_region_held_drew (S := fun W => W.cell? ⟨K7, 0, none⟩ = some (.int .i64 (zo : Int)) ∧ W.cell? ⟨K7, 1, none⟩ = some (.slice q7 lo7 cq7)) (by kernel_rfl) (⟨ky0, ky1⟩) (fun hHeld => ?_)
          refine wpAnyH_take (i := 0) (v := ?_) rfl (by kernel_rfl) (by kernel_rfl) (by kernel_rfl) (fun _ _ _ h => h) (Or.inl ⟨by rfl, ?_⟩) (by assumption) ?_
          rotate_left
          · (intro w hSw; (try dsimp only at hSw); go_simp; try (with_reducible rfl))
          try simp only [Act.put, List.setIfInBounds_toArray, List.set_cons_zero, List.set_cons_succ, List.getElem_toArray, List.getElem_cons_zero]
          refine wpAnyH_take (i := 1) (v := ?_) rfl (by kernel_rfl) (by kernel_rfl) (by kernel_rfl) (fun _ _ _ h => h) (Or.inl ⟨by rfl, ?_⟩) (by assumption) ?_
          rotate_left
          · (intro w hSw; (try dsimp only at hSw); go_simp; try (with_reducible rfl))
          try simp only [Act.put, List.setIfInBounds_toArray, List.set_cons_zero, List.set_cons_succ, List.getElem_toArray, List.getElem_cons_zero, List.getElem_cons_succ]
          refine wpAnyH_take (i := 2) (v := ?_) rfl (by kernel_rfl) (by kernel_rfl) (by kernel_rfl) (fun _ _ _ h => h) (Or.inl ⟨by rfl, ?_⟩) (by assumption) ?_
          rotate_left
          · (intro w hSw; (try dsimp only at hSw); go_simp; try (with_reducible rfl))
          try simp only [Act.put, List.setIfInBounds_toArray, List.set_cons_zero, List.set_cons_succ, List.getElem_toArray, List.getElem_cons_zero, List.getElem_cons_succ]
          generalize hwd : w8.drew = wd at *
          refine wpAnyH_ready (rs := [3]) (by kernel_rfl) (by simp) ?_
          refine AllReadyH.cons rfl (fun K hK => ?_) AllReadyH.nil
          go_simp
          refine hK.out _ _ (hHeld) (fun hHeld2 => ?_)
          clear hK K hHeld
          have hHeld := hHeld2
          clear hHeld2
          try simp only [Act.put, List.setIfInBounds_toArray, List.set_cons_zero, List.set_cons_succ, List.getElem_toArray, List.getElem_cons_zero, List.getElem_cons_succ]
          refine wpAnyH_ready (rs := [4]) (by kernel_rfl) (by simp) ?_
          refine AllReadyH.cons rfl (fun K hK => ?_) AllReadyH.nil
          go_simp
          show K _ (setE wd X (.int .i64 (zo : Int)) (.slice q7 lo7 cq7))
          have hse := setE_chg wd X (.int .i64 (zo : Int)) (.slice q7 lo7 cq7)
          have hK8 := hse.box HKD.out (by have := HKX.out; omega)
          refine hK.out _ _ ((by exact ⟨by rw [cell_in hK8]; rfl, by rw [cell_in hK8]; rfl⟩)) (fun hHeld2 => ?_)
          clear hK K hHeld
          have hHeld := hHeld2
          clear hHeld2
          try simp only [Act.put, List.setIfInBounds_toArray, List.set_cons_zero, List.set_cons_succ, List.getElem_toArray, List.getElem_cons_zero, List.getElem_cons_succ]
          refine wpAnyH_ready (rs := [5]) (by kernel_rfl) (by simp) ?_
          refine AllReadyH.cons rfl (fun K hK => ?_) AllReadyH.nil
          go_simp
          refine hK.out _ _ (hHeld) (fun hHeld2 => ?_)
          clear hK K hHeld
          have hHeld := hHeld2
          clear hHeld2
          try simp only [Act.put, List.setIfInBounds_toArray, List.set_cons_zero, List.set_cons_succ, List.getElem_toArray, List.getElem_cons_zero, List.getElem_cons_succ]
          refine wpAnyH_ready (rs := [6]) (by kernel_rfl) (by simp) ?_
          refine AllReadyH.cons rfl (fun K hK => ?_) AllReadyH.nil
          go_simp
          refine hK.out _ _ (hHeld) (fun hHeld2 => ?_)
          clear hK K hHeld
          have hHeld := hHeld2
          clear hHeld2
          try simp only [Act.put, List.setIfInBounds_toArray, List.set_cons_zero, List.set_cons_succ, List.getElem_toArray, List.getElem_cons_zero, List.getElem_cons_succ]
          refine wpAnyH_done (by kernel_rfl) ?_ _
          refine NoPanic.normal ?_
          clear hHeld hwd ky0 ky1 x0 x1 fx0 fx1
          go_wp2
          go_roundw
          case rel => exact ⟨i + 1, P7, gn', c', none, (zo : Int), q7, lo7, cq7, z2, q2, n2, c2, by omega, by go_num, rfl, (by rw [HOKB.out]), rfl, Lib.hid (by have := HGN.out; omega), HFIN⟩
          case measure => simp [intOf]; omega
        · subst hub
          subst hgB
          subst hcB
          have hokt : okb = true := HOKB.out
          subst hokt
          have HU7b := Lib.hid (HU7.out b rfl)
          obtain ⟨r1, hr1⟩ : ∃ r1, (decide ((zo : Int) = z1) && decide (bodyOf (some ⟨gn + 1, b.1, b.2⟩) = bodyOf c)) = r1 := ⟨_, rfl⟩
          rw [hr1] at hsmA
          clear hr1
          cases hs
          · clear hsmA
            have hsmB := esame_any (zo : Int) z2 (bodyOf (some ⟨gn + 1, b.1, b.2⟩)) b.2 q7 q2 cq7 c2 w7 HQ7.out.2.1.2.1 HU7b.out.2.2.1
            rw [← HLO7.out, ← HU7b.out.2.1] at hsmB
            have hr2 : (decide ((zo : Int) = z2) && decide (bodyOf (some ⟨gn + 1, b.1, b.2⟩) = b.2)) = true := by
              rw [decide_eq_true (show (zo : Int) = z2 by rw [HZO.out, HU7b.out.1]; rfl), decide_eq_true (show bodyOf (some ⟨gn + 1, b.1, b.2⟩) = b.2 from rfl)]
              rfl
            rw [hr2] at hsmB
            clear hr2
            go_wp2_with fail
            first | rw [hw7] | skip
            first | rw [hK70] | skip
            clear hw7 hK70
            refine hsmB.mono ?_
            clear hsmB
            rintro e w8 ⟨rfl, hb8⟩
            have hc8 := Chg.below hb8 (fun _ => False)
            have HQ8 := Lib.hid (show (w8.heap[X]? = some (.cells #[.int .i64 z1, .slice q1 n1 c1] 48 (0, 0)) ∧ w8.heap[Y]? = some (.cells #[.int .i64 z2, .slice q2 n2 c2] 48 (0, 0))) ∧ (KSl w w8 P7 D g k (gn + 1) (some ⟨gn + 1, b.1, b.2⟩) none ∧ SBody w w8 q7 (bodyOf (some ⟨gn + 1, b.1, b.2⟩))) ∧ w8.heap[K7]? = some (.cells #[.int .i64 (zo : Int), .slice q7 lo7 cq7] 48 (0, 0)) from ⟨⟨hc8.box HQ7.out.1.1 (fun e => e), hc8.box HQ7.out.1.2 (fun e => e)⟩, ⟨HQ7.out.2.1.1.on hb8, HQ7.out.2.1.2.on hb8⟩, hc8.box HQ7.out.2.2 (fun e => e)⟩)
            clear hb8 hc8 a0 a1 b0 b1 d0 d1'
            have hX8 := HQ8.out.1
            have ky0 : w8.cell? ⟨K7, 0, none⟩ = some (.int .i64 (zo : Int)) := by rw [cell_in HQ8.out.2.2]; rfl
            have ky1 : w8.cell? ⟨K7, 1, none⟩ = some (.slice q7 lo7 cq7) := by rw [cell_in HQ8.out.2.2]; rfl
            go_wp2_with fail
            have hbd : Below w8.heap.size w8 w8.drew := bD (Below.refl _ _)
            have hcd := Chg.below hbd (fun _ => False)
            have hXd := hcd.box HQ8.out.1.1 (fun e => e)
            have hYd := hcd.box HQ8.out.1.2 (fun e => e)
            have hKd := hcd.box HQ8.out.2.2 (fun e => e)
            have hkd := HQ8.out.2.1.1.on hbd
            have hqd := HQ8.out.2.1.2.on hbd
            have fin := KQ.reopened hkd hXd hYd HLO.out q7 cq7 hqd
            rw [← HZO.out, ← HLO7.out] at fin
            have HFIN := Lib.hid fin
            have x0 : w8.drew.cell? ⟨X, 0, none⟩ = some (.int .i64 z1) := by rw [cell_in hXd]; rfl
            have x1 : w8.drew.cell? ⟨X, 1, none⟩ = some (.slice q1 n1 c1) := by rw [cell_in hXd]; rfl
            have fx0 := frozen_in hXd 0
            have fx1 := frozen_in hXd 1
            have HKD := Lib.hid hKd
            have HXD := Lib.hid hXd
            clear hX8 hcd hXd hYd hKd hkd hqd fin hbd
            refine wp_region_noPanic ?_
            refine wp_region_held_drew (S := fun W => W.cell? ⟨K7, 0, none⟩ = some (.int .i64 (zo : Int)) ∧ W.cell? ⟨K7, 1, none⟩ = some (.slice q7 lo7 cq7)) (by kernel_rfl) (⟨ky0, ky1⟩) (fun hHeld => ?_)
            refine wpAnyH_take (i := 0) (v := ?_) rfl (by kernel_rfl) (by kernel_rfl) (by kernel_rfl) (fun _ _ _ h => h) (Or.inl ⟨by rfl, ?_⟩) (by assumption) ?_
            rotate_left
            · (intro w hSw; (try dsimp only at hSw); go_simp; try (with_reducible rfl))
            try simp only [Act.put, List.setIfInBounds_toArray, List.set_cons_zero, List.set_cons_succ, List.getElem_toArray, List.getElem_cons_zero]
            refine wpAnyH_take (i := 1) (v := ?_) rfl (by kernel_rfl) (by kernel_rfl) (by kernel_rfl) (fun _ _ _ h => h) (Or.inl ⟨by rfl, ?_⟩) (by assumption) ?_
            rotate_left
            · (intro w hSw; (try dsimp only at hSw); go_simp; try (with_reducible rfl))
            try simp only [Act.put, List.setIfInBounds_toArray, List.set_cons_zero, List.set_cons_succ, List.getElem_toArray, List.getElem_cons_zero, List.getElem_cons_succ]
            refine wpAnyH_take (i := 2) (v := ?_) rfl (by kernel_rfl) (by kernel_rfl) (by kernel_rfl) (fun _ _ _ h => h) (Or.inl ⟨by rfl, ?_⟩) (by assumption) ?_
            rotate_left
            · (intro w hSw; (try dsimp only at hSw); go_simp; try (with_reducible rfl))
            try simp only [Act.put, List.setIfInBounds_toArray, List.set_cons_zero, List.set_cons_succ, List.getElem_toArray, List.getElem_cons_zero, List.getElem_cons_succ]
            generalize hwd : w8.drew = wd at *
            refine wpAnyH_ready (rs := [3]) (by kernel_rfl) (by simp) ?_
            refine AllReadyH.cons rfl (fun K hK => ?_) AllReadyH.nil
            go_simp
            refine hK.out _ _ (hHeld) (fun hHeld2 => ?_)
            clear hK K hHeld
            have hHeld := hHeld2
            clear hHeld2
            try simp only [Act.put, List.setIfInBounds_toArray, List.set_cons_zero, List.set_cons_succ, List.getElem_toArray, List.getElem_cons_zero, List.getElem_cons_succ]
            refine wpAnyH_ready (rs := [4]) (by kernel_rfl) (by simp) ?_
            refine AllReadyH.cons rfl (fun K hK => ?_) AllReadyH.nil
            go_simp
            show K _ (setE wd X (.int .i64 (zo : Int)) (.slice q7 lo7 cq7))
            have hse := setE_chg wd X (.int .i64 (zo : Int)) (.slice q7 lo7 cq7)
            have hK8 := hse.box HKD.out (by have := HKX.out; omega)
            refine hK.out _ _ ((by exact ⟨by rw [cell_in hK8]; rfl, by rw [cell_in hK8]; rfl⟩)) (fun hHeld2 => ?_)
            clear hK K hHeld
            have hHeld := hHeld2
            clear hHeld2
            try simp only [Act.put, List.setIfInBounds_toArray, List.set_cons_zero, List.set_cons_succ, List.getElem_toArray, List.getElem_cons_zero, List.getElem_cons_succ]
            refine wpAnyH_ready (rs := [5]) (by kernel_rfl) (by simp) ?_
            refine AllReadyH.cons rfl (fun K hK => ?_) AllReadyH.nil
            go_simp
            refine hK.out _ _ (hHeld) (fun hHeld2 => ?_)
            clear hK K hHeld
            have hHeld := hHeld2
            clear hHeld2
            try simp only [Act.put, List.setIfInBounds_toArray, List.set_cons_zero, List.set_cons_succ, List.getElem_toArray, List.getElem_cons_zero, List.getElem_cons_succ]
            refine wpAnyH_ready (rs := [6]) (by kernel_rfl) (by simp) ?_
            refine AllReadyH.cons rfl (fun K hK => ?_) AllReadyH.nil
            go_simp
            refine hK.out _ _ (hHeld) (fun hHeld2 => ?_)
            clear hK K hHeld
            have hHeld := hHeld2
            clear hHeld2
            try simp only [Act.put, List.setIfInBounds_toArray, List.set_cons_zero, List.set_cons_succ, List.getElem_toArray, List.getElem_cons_zero, List.getElem_cons_succ]
            refine wpAnyH_done (by kernel_rfl) ?_ _
            refine NoPanic.normal ?_
            clear hHeld hwd ky0 ky1 x0 x1 fx0 fx1
            go_wp2
            go_roundw
            case rel => exact ⟨i + 1, P7, (gn + 1), (some ⟨gn + 1, b.1, b.2⟩), none, (zo : Int), q7, lo7, cq7, z2, q2, n2, c2, by omega, by go_num, rfl, rfl, rfl, Lib.hid (by have := HGN.out; omega), HFIN⟩
            case measure => simp [intOf]; omega
          · go_wp2_with fail
            first | rw [hw7] | skip
            first | rw [hK70] | skip
            clear hw7 hK70
            refine hsmA.mono ?_
            clear hsmA
            rintro e w8 ⟨rfl, hb8⟩
            have hc8 := Chg.below hb8 (fun _ => False)
            have HQ8 := Lib.hid (show (w8.heap[X]? = some (.cells #[.int .i64 z1, .slice q1 n1 c1] 48 (0, 0)) ∧ w8.heap[Y]? = some (.cells #[.int .i64 z2, .slice q2 n2 c2] 48 (0, 0))) ∧ (KSl w w8 P7 D g k (gn + 1) (some ⟨gn + 1, b.1, b.2⟩) none ∧ SBody w w8 q7 (bodyOf (some ⟨gn + 1, b.1, b.2⟩))) ∧ w8.heap[K7]? = some (.cells #[.int .i64 (zo : Int), .slice q7 lo7 cq7] 48 (0, 0)) from ⟨⟨hc8.box HQ7.out.1.1 (fun e => e), hc8.box HQ7.out.1.2 (fun e => e)⟩, ⟨HQ7.out.2.1.1.on hb8, HQ7.out.2.1.2.on hb8⟩, hc8.box HQ7.out.2.2 (fun e => e)⟩)
            have HU8b := Lib.hid (show z2 = (b.1 : Nat) ∧ n2 = b.2.length ∧ SBody w w8 q2 b.2 from ⟨HU7b.out.1, HU7b.out.2.1, HU7b.out.2.2.on hb8⟩)
            clear hb8 hc8 a0 a1 b0 b1 d0 d1'
            cases r1
            · have a0 : w8.cell? ⟨K7, 0, none⟩ = some (.int .i64 (zo : Int)) := by rw [cell_in HQ8.out.2.2]; rfl
              have a1 : w8.cell? ⟨K7, 1, none⟩ = some (.slice q7 lo7 cq7) := by rw [cell_in HQ8.out.2.2]; rfl
              have d0 : w8.cell? ⟨Y, 0, none⟩ = some (.int .i64 z2) := by rw [cell_in HQ8.out.1.2]; rfl
              have d1' : w8.cell? ⟨Y, 1, none⟩ = some (.slice q2 n2 c2) := by rw [cell_in HQ8.out.1.2]; rfl
              have hsmB := esame_any (zo : Int) z2 (bodyOf (some ⟨gn + 1, b.1, b.2⟩)) b.2 q7 q2 cq7 c2 w8 HQ8.out.2.1.2.1 HU8b.out.2.2.1
              rw [← HLO7.out, ← HU8b.out.2.1] at hsmB
              have hr2 : (decide ((zo : Int) = z2) && decide (bodyOf (some ⟨gn + 1, b.1, b.2⟩) = b.2)) = true := by
                rw [decide_eq_true (show (zo : Int) = z2 by rw [HZO.out, HU8b.out.1]; rfl), decide_eq_true (show bodyOf (some ⟨gn + 1, b.1, b.2⟩) = b.2 from rfl)]
                rfl
              rw [hr2] at hsmB
              clear hr2
              go_wp2_with fail
              refine hsmB.mono ?_
              clear hsmB
              rintro e w9 ⟨rfl, hb9⟩
              have hc9 := Chg.below hb9 (fun _ => False)
              have HQ9 := Lib.hid (show (w9.heap[X]? = some (.cells #[.int .i64 z1, .slice q1 n1 c1] 48 (0, 0)) ∧ w9.heap[Y]? = some (.cells #[.int .i64 z2, .slice q2 n2 c2] 48 (0, 0))) ∧ (KSl w w9 P7 D g k (gn + 1) (some ⟨gn + 1, b.1, b.2⟩) none ∧ SBody w w9 q7 (bodyOf (some ⟨gn + 1, b.1, b.2⟩))) ∧ w9.heap[K7]? = some (.cells #[.int .i64 (zo : Int), .slice q7 lo7 cq7] 48 (0, 0)) from ⟨⟨hc9.box HQ8.out.1.1 (fun e => e), hc9.box HQ8.out.1.2 (fun e => e)⟩, ⟨HQ8.out.2.1.1.on hb9, HQ8.out.2.1.2.on hb9⟩, hc9.box HQ8.out.2.2 (fun e => e)⟩)
              clear hb9 hc9 a0 a1 d0 d1'
              have hX9 := HQ9.out.1
              have ky0 : w9.cell? ⟨K7, 0, none⟩ = some (.int .i64 (zo : Int)) := by rw [cell_in HQ9.out.2.2]; rfl
              have ky1 : w9.cell? ⟨K7, 1, none⟩ = some (.slice q7 lo7 cq7) := by rw [cell_in HQ9.out.2.2]; rfl
              go_wp2_with fail
              have hbd : Below w9.heap.size w9 w9.drew := bD (Below.refl _ _)
              have hcd := Chg.below hbd (fun _ => False)
              have hXd := hcd.box HQ9.out.1.1 (fun e => e)
              have hYd := hcd.box HQ9.out.1.2 (fun e => e)
              have hKd := hcd.box HQ9.out.2.2 (fun e => e)
              have hkd := HQ9.out.2.1.1.on hbd
              have hqd := HQ9.out.2.1.2.on hbd
              have fin := KQ.reopened hkd hXd hYd HLO.out q7 cq7 hqd
              rw [← HZO.out, ← HLO7.out] at fin
              have HFIN := Lib.hid fin
              have x0 : w9.drew.cell? ⟨X, 0, none⟩ = some (.int .i64 z1) := by rw [cell_in hXd]; rfl
              have x1 : w9.drew.cell? ⟨X, 1, none⟩ = some (.slice q1 n1 c1) := by rw [cell_in hXd]; rfl
              have fx0 := frozen_in hXd 0
              have fx1 := frozen_in hXd 1
              have HKD := Lib.hid hKd
              have HXD := Lib.hid hXd
              clear hX9 hcd hXd hYd hKd hkd hqd fin hbd
              refine wp_region_noPanic ?_
              refine wp_region_held_drew (S := fun W => W.cell? ⟨K7, 0, none⟩ = some (.int .i64 (zo : Int)) ∧ W.cell? ⟨K7, 1, none⟩ = some (.slice q7 lo7 cq7)) (by kernel_rfl) (⟨ky0, ky1⟩) (fun hHeld => ?_)
              refine wpAnyH_take (i := 0) (v := ?_) rfl (by kernel_rfl) (by kernel_rfl) (by kernel_rfl) (fun _ _ _ h => h) (Or.inl ⟨by rfl, ?_⟩) (by assumption) ?_
              rotate_left
              · (intro w hSw; (try dsimp only at hSw); go_simp; try (with_reducible rfl))
              try simp only [Act.put, List.setIfInBounds_toArray, List.set_cons_zero, List.set_cons_succ, List.getElem_toArray, List.getElem_cons_zero]
              refine wpAnyH_take (i := 1) (v := ?_) rfl (by kernel_rfl) (by kernel_rfl) (by kernel_rfl) (fun _ _ _ h => h) (Or.inl ⟨by rfl, ?_⟩) (by assumption) ?_
              rotate_left
              · (intro w hSw; (try dsimp only at hSw); go_simp; try (with_reducible rfl))
              try simp only [Act.put, List.setIfInBounds_toArray, List.set_cons_zero, List.set_cons_succ, List.getElem_toArray, List.getElem_cons_zero, List.getElem_cons_succ]
              refine wpAnyH_take (i := 2) (v := ?_) rfl (by kernel_rfl) (by kernel_rfl) (by kernel_rfl) (fun _ _ _ h => h) (Or.inl ⟨by rfl, ?_⟩) (by assumption) ?_
              rotate_left
              · (intro w hSw; (try dsimp only at hSw); go_simp; try (with_reducible rfl))
              try simp only [Act.put, List.setIfInBounds_toArray, List.set_cons_zero, List.set_cons_succ, List.getElem_toArray, List.getElem_cons_zero, List.getElem_cons_succ]
              generalize hwd : w9.drew = wd at *
              refine wpAnyH_ready (rs := [3]) (by kernel_rfl) (by simp) ?_
              refine AllReadyH.cons rfl (fun K hK => ?_) AllReadyH.nil
              go_simp
              refine hK.out _ _ (hHeld) (fun hHeld2 => ?_)
              clear hK K hHeld
              have hHeld := hHeld2
              clear hHeld2
              try simp only [Act.put, List.setIfInBounds_toArray, List.set_cons_zero, List.set_cons_succ, List.getElem_toArray, List.getElem_cons_zero, List.getElem_cons_succ]
              refine wpAnyH_ready (rs := [4]) (by kernel_rfl) (by simp) ?_
              refine AllReadyH.cons rfl (fun K hK => ?_) AllReadyH.nil
              go_simp
              show K _ (setE wd X (.int .i64 (zo : Int)) (.slice q7 lo7 cq7))
              have hse := setE_chg wd X (.int .i64 (zo : Int)) (.slice q7 lo7 cq7)
              have hK8 := hse.box HKD.out (by have := HKX.out; omega)
              refine hK.out _ _ ((by exact ⟨by rw [cell_in hK8]; rfl, by rw [cell_in hK8]; rfl⟩)) (fun hHeld2 => ?_)
              clear hK K hHeld
              have hHeld := hHeld2
              clear hHeld2
              try simp only [Act.put, List.setIfInBounds_toArray, List.set_cons_zero, List.set_cons_succ, List.getElem_toArray, List.getElem_cons_zero, List.getElem_cons_succ]
              refine wpAnyH_ready (rs := [5]) (by kernel_rfl) (by simp) ?_
              refine AllReadyH.cons rfl (fun K hK => ?_) AllReadyH.nil
              go_simp
              refine hK.out _ _ (hHeld) (fun hHeld2 => ?_)
              clear hK K hHeld
              have hHeld := hHeld2
              clear hHeld2
              try simp only [Act.put, List.setIfInBounds_toArray, List.set_cons_zero, List.set_cons_succ, List.getElem_toArray, List.getElem_cons_zero, List.getElem_cons_succ]
              refine wpAnyH_ready (rs := [6]) (by kernel_rfl) (by simp) ?_
              refine AllReadyH.cons rfl (fun K hK => ?_) AllReadyH.nil
              go_simp
              refine hK.out _ _ (hHeld) (fun hHeld2 => ?_)
              clear hK K hHeld
              have hHeld := hHeld2
              clear hHeld2
              try simp only [Act.put, List.setIfInBounds_toArray, List.set_cons_zero, List.set_cons_succ, List.getElem_toArray, List.getElem_cons_zero, List.getElem_cons_succ]
              refine wpAnyH_done (by kernel_rfl) ?_ _
              refine NoPanic.normal ?_
              clear hHeld hwd ky0 ky1 x0 x1 fx0 fx1
              go_wp2
              go_roundw
              case rel => exact ⟨i + 1, P7, (gn + 1), (some ⟨gn + 1, b.1, b.2⟩), none, (zo : Int), q7, lo7, cq7, z2, q2, n2, c2, by omega, by go_num, rfl, rfl, rfl, Lib.hid (by have := HGN.out; omega), HFIN⟩
              case measure => simp [intOf]; omega
            · have hX8 := HQ8.out.1
              have ky0 : w8.cell? ⟨K7, 0, none⟩ = some (.int .i64 (zo : Int)) := by rw [cell_in HQ8.out.2.2]; rfl
              have ky1 : w8.cell? ⟨K7, 1, none⟩ = some (.slice q7 lo7 cq7) := by rw [cell_in HQ8.out.2.2]; rfl
              go_wp2_with fail
              have hbd : Below w8.heap.size w8 w8.drew := bD (Below.refl _ _)
              have hcd := Chg.below hbd (fun _ => False)
              have hXd := hcd.box HQ8.out.1.1 (fun e => e)
              have hYd := hcd.box HQ8.out.1.2 (fun e => e)
              have hKd := hcd.box HQ8.out.2.2 (fun e => e)
              have hkd := HQ8.out.2.1.1.on hbd
              have hqd := HQ8.out.2.1.2.on hbd
              have fin := KQ.reopened hkd hXd hYd HLO.out q7 cq7 hqd
              rw [← HZO.out, ← HLO7.out] at fin
              have HFIN := Lib.hid fin
              have x0 : w8.drew.cell? ⟨X, 0, none⟩ = some (.int .i64 z1) := by rw [cell_in hXd]; rfl
              have x1 : w8.drew.cell? ⟨X, 1, none⟩ = some (.slice q1 n1 c1) := by rw [cell_in hXd]; rfl
              have fx0 := frozen_in hXd 0
              have fx1 := frozen_in hXd 1
              have HKD := Lib.hid hKd
              have HXD := Lib.hid hXd
              clear hX8 hcd hXd hYd hKd hkd hqd fin hbd
              refine wp_region_noPanic ?_
              refine wp_region_held_drew (S := fun W => W.cell? ⟨K7, 0, none⟩ = some (.int .i64 (zo : Int)) ∧ W.cell? ⟨K7, 1, none⟩ = some (.slice q7 lo7 cq7)) (by kernel_rfl) (⟨ky0, ky1⟩) (fun hHeld => ?_)
              refine wpAnyH_take (i := 0) (v := ?_) rfl (by kernel_rfl) (by kernel_rfl) (by kernel_rfl) (fun _ _ _ h => h) (Or.inl ⟨by rfl, ?_⟩) (by assumption) ?_
              rotate_left
              · (intro w hSw; (try dsimp only at hSw); go_simp; try (with_reducible rfl))
              try simp only [Act.put, List.setIfInBounds_toArray, List.set_cons_zero, List.set_cons_succ, List.getElem_toArray, List.getElem_cons_zero]
              refine wpAnyH_take (i := 1) (v := ?_) rfl (by kernel_rfl) (by kernel_rfl) (by kernel_rfl) (fun _ _ _ h => h) (Or.inl ⟨by rfl, ?_⟩) (by assumption) ?_
              rotate_left
              · (intro w hSw; (try dsimp only at hSw); go_simp; try (with_reducible rfl))
              try simp only [Act.put, List.setIfInBounds_toArray, List.set_cons_zero, List.set_cons_succ, List.getElem_toArray, List.getElem_cons_zero, List.getElem_cons_succ]
              refine wpAnyH_take (i := 2) (v := ?_) rfl (by kernel_rfl) (by kernel_rfl) (by kernel_rfl) (fun _ _ _ h => h) (Or.inl ⟨by rfl, ?_⟩) (by assumption) ?_
              rotate_left
              · (intro w hSw; (try dsimp only at hSw); go_simp; try (with_reducible rfl))
              try simp only [Act.put, List.setIfInBounds_toArray, List.set_cons_zero, List.set_cons_succ, List.getElem_toArray, List.getElem_cons_zero, List.getElem_cons_succ]
              generalize hwd : w8.drew = wd at *
              refine wpAnyH_ready (rs := [3]) (by kernel_rfl) (by simp) ?_
              refine AllReadyH.cons rfl (fun K hK => ?_) AllReadyH.nil
              go_simp
              refine hK.out _ _ (hHeld) (fun hHeld2 => ?_)
              clear hK K hHeld
              have hHeld := hHeld2
              clear hHeld2
              try simp only [Act.put, List.setIfInBounds_toArray, List.set_cons_zero, List.set_cons_succ, List.getElem_toArray, List.getElem_cons_zero, List.getElem_cons_succ]
              refine wpAnyH_ready (rs := [4]) (by kernel_rfl) (by simp) ?_
              refine AllReadyH.cons rfl (fun K hK => ?_) AllReadyH.nil
              go_simp
              show K _ (setE wd X (.int .i64 (zo : Int)) (.slice q7 lo7 cq7))
              have hse := setE_chg wd X (.int .i64 (zo : Int)) (.slice q7 lo7 cq7)
              have hK8 := hse.box HKD.out (by have := HKX.out; omega)
              refine hK.out _ _ ((by exact ⟨by rw [cell_in hK8]; rfl, by rw [cell_in hK8]; rfl⟩)) (fun hHeld2 => ?_)
              clear hK K hHeld
              have hHeld := hHeld2
              clear hHeld2
              try simp only [Act.put, List.setIfInBounds_toArray, List.set_cons_zero, List.set_cons_succ, List.getElem_toArray, List.getElem_cons_zero, List.getElem_cons_succ]
              refine wpAnyH_ready (rs := [5]) (by kernel_rfl) (by simp) ?_
              refine AllReadyH.cons rfl (fun K hK => ?_) AllReadyH.nil
              go_simp
              refine hK.out _ _ (hHeld) (fun hHeld2 => ?_)
              clear hK K hHeld
              have hHeld := hHeld2
              clear hHeld2
              try simp only [Act.put, List.setIfInBounds_toArray, List.set_cons_zero, List.set_cons_succ, List.getElem_toArray, List.getElem_cons_zero, List.getElem_cons_succ]
              refine wpAnyH_ready (rs := [6]) (by kernel_rfl) (by simp) ?_
              refine AllReadyH.cons rfl (fun K hK => ?_) AllReadyH.nil
              go_simp
              refine hK.out _ _ (hHeld) (fun hHeld2 => ?_)
              clear hK K hHeld
              have hHeld := hHeld2
              clear hHeld2
              try simp only [Act.put, List.setIfInBounds_toArray, List.set_cons_zero, List.set_cons_succ, List.getElem_toArray, List.getElem_cons_zero, List.getElem_cons_succ]
              refine wpAnyH_done (by kernel_rfl) ?_ _
              refine NoPanic.normal ?_
              clear hHeld hwd ky0 ky1 x0 x1 fx0 fx1
              go_wp2
              go_roundw
              case rel => exact ⟨i + 1, P7, (gn + 1), (some ⟨gn + 1, b.1, b.2⟩), none, (zo : Int), q7, lo7, cq7, z2, q2, n2, c2, by omega, by go_num, rfl, rfl, rfl, Lib.hid (by have := HGN.out; omega), HFIN⟩
              case measure => simp [intOf]; omega
    · have e1 : decide ((i : Int) ≤ (N : Int)) = false := decide_eq_false (by omega)
      have e1' : decide (i ≤ N) = false := decide_eq_false hle
      have HBZ := Lib.hid HS.out.ksl.below
      go_wp2
      go_ret
      exact ⟨rfl, HBZ.out⟩
end Go.Proofs.Ytgcifhhbhoafcaa
