/-
  Checkpoints alternate between the slots.
-/
import Derived.Test.YtgcifhhbhoafcaaSlotAwake
import Derived.Test.YtgcifhhbhoafcaaSlotArgs
namespace Go.Proofs.Ytgcifhhbhoafcaa
open Go.RowKit Go.Shelf

/-- A part of the disk is read. -/
theorem SSt.read {w0 wr : World} {P D g m gn : Nat} {S : List Sec} {c : Option Ck} (H : SSt w0 wr P D g m gn S c) (A N : Nat) (h1 : 1 ≤ N) (hAN : A + N ≤ 2 * m) :
    Calls Try.prog 28 #[.pointer (some ⟨D, 0, none⟩), .int .i64 A, .int .i64 N] wr fun e w' => ∃ R, e = .returned (.tuple #[.slice (some ⟨R, 0, none⟩) (N * 64) (N * 64), .int .i64 0]) ∧ w'.heap[R]? = some (.cells (bCells (partS S A N).flatten).toArray 5 (0, 0)) ∧ wr.heap.size ≤ R ∧ SSt w0 w' P D g m gn S c ∧ Chg (fun k => k = D) wr w' := by
  have h := read_any D g S (.slice none 0 0) [] (-1) (by decide) (by decide) (by simp) A N h1 (by rw [H.hold.len]; exact hAN) wr H.disk H.apart.1
  refine h.mono ?_
  rintro e w' ⟨R, rfl, hr, hR, hd, hc⟩
  have hb := H.base
  rw [dCells_flat] at hr
  exact ⟨R, rfl, hr, hR, ⟨H.sl.chg hc (fun e => H.apart.2.1 e), hd, H.hold, H.apart, H.base, hc.on H.below H.below.size (fun k e => by rw [e]; exact hb.2.1)⟩, hc⟩
theorem part_put {m k : Nat} {S X : List Sec} (hl : S.length = 2 * m) (hk : k < 2) (hX : X.length ≤ m) : partS (putS S (k * m) X) ((1 - k) * m) m = partS S ((1 - k) * m) m := by
  have hkm : k * m + X.length ≤ S.length := by
    match k, hk with
    | 0, _ => omega
    | 1, _ => omega
  unfold partS
  apply List.ext_getElem?
  intro j
  rw [List.getElem?_take, List.getElem?_take]
  split
  · rw [List.getElem?_drop, List.getElem?_drop, put_at hkm, if_neg ?_]
    match k, hk with
    | 0, _ => omega
    | 1, _ => omega
  · rfl
theorem flat_part {S : List Sec} (h : ∀ s ∈ S, s.length = 64) (A N : Nat) (hAN : A + N ≤ S.length) : (partS S A N).flatten.length = N * 64 := by
  rw [flat_64 _ (partS_64 h), partS_len hAN]

set_option maxRecDepth 20000 in
set_option maxHeartbeats 8000000 in
theorem turn_walk (pb : Option Addr) (cb : Nat) (al : List BArg) (w : World) (hx : BRows w pb al) :
    Calls Try.prog 6 #[.slice pb al.length cb] w fun e w' => e = .returned (.bool true) ∧ Below w.heap.size w w' := by
  have HX := Lib.hid hx
  obtain ⟨N, hN⟩ : ∃ N, N = al.length := ⟨_, rfl⟩
  have HN := Lib.hid hN
  rw [← hN]
  clear hx hN
  by_cases hbig : 12 < N
  · have d1 : decide ((12 : Int) < (N : Int)) = true := decide_eq_true (by omega)
    have d1' : decide (12 < N) = true := decide_eq_true hbig
    go_enter Try.func6, Try.ntmps6
    go_wp2_with fail
    refine (sawake_true w).mono ?_
    rintro e w1 ⟨rfl, hb1⟩
    have HB1 := Lib.hid hb1
    clear hb1
    go_wp2_with fail
    refine (sawake_true w1).mono ?_
    rintro e w2 ⟨rfl, hb2⟩
    have HB2 := Lib.hid hb2
    clear hb2
    go_wp2
    go_ret
    exact ⟨rfl, bT HB1.out HB2.out⟩
  have d1 : decide ((12 : Int) < (N : Int)) = false := decide_eq_false (by omega)
  have d1' : decide (12 < N) = false := decide_eq_false hbig
  go_enter Try.func6, Try.ntmps6
  go_wp2_with fail
  refine (sawake_true w).mono ?_
  rintro e w1 ⟨rfl, hb1⟩
  have HB1 := Lib.hid hb1
  clear hb1
  go_wp2_with fail
  refine (new_any 12 (by decide) (by decide) w1).mono ?_
  rintro e w2 ⟨rfl, hd2, hb2⟩
  have hb2w : Below w.heap.size w w2 := bT HB1.out hb2
  have hws := HB1.out.size
  obtain ⟨D, hD⟩ : ∃ D, w1.heap.size + 1 = D := ⟨_, rfl⟩
  obtain ⟨g, hg⟩ : ∃ g, w1.heap.size = g := ⟨_, rfl⟩
  rw [hD, hg] at hd2
  rw [hD]
  have hDg : D ≠ g := by omega
  have hbase : w.heap.size ≤ D ∧ w.heap.size ≤ g := by omega
  have hl2 : D < w2.heap.size ∧ g < w2.heap.size := ⟨(Array.getElem?_eq_some_iff.1 hd2.box).1, (Array.getElem?_eq_some_iff.1 hd2.dur).1⟩
  have hop := open_whole D g (zeroS 12) 6 0 none (by decide) (SHold.zero 6 (by decide)) w2 hd2 hDg
  have HB2 := Lib.hid hb2w
  have HBS := Lib.hid (show _ ∧ _ from ⟨hbase, hl2⟩)
  clear hb2 hb2w hd2 hD hg hws hbase hl2
  go_wp2_with fail
  refine hop.mono ?_
  clear hop
  rintro e w3 ⟨P, q, cq, rfl, hP, hs3, hh3, hd3, hc3⟩
  obtain ⟨rfl, rfl⟩ := hh3.1 rfl
  have hST : SSt w w3 P D g 6 0 (zeroS 12) none := by
    have h1 := HBS.out
    have h2 := HB2.out.size
    exact ⟨hs3, hd3, SHold.zero 6 (by decide), ⟨hDg, by omega, by omega⟩, ⟨by omega, h1.1.1, h1.1.2⟩, hc3.on HB2.out HB2.out.size (fun k e => by rw [e]; exact h1.1.1)⟩
  have HST := Lib.hid (hST.on (bA (Below.refl w3.heap.size w3) (.cells #[.int .i64 0, .slice none 0 0] 48)))
  clear hs3 hh3 hd3 hc3 hST hP
  rw [show entB none none 0 = #[.int .i64 0, .slice none 0 0] from rfl, show (none : Option Ck).isSome = false from rfl]
  go_wp2
  go_loopw [9] (fun s9 wr => ∃ i : Nat, ∃ S c, i ≤ N ∧ s9 = .int .i64 i ∧ Hid (SSt w wr P D g 6 i S c)) (fun s9 _ => N - (intOf s9).toNat)
  case atStart => exact ⟨0, _, _, Nat.zero_le _, rfl, HST⟩
  case round =>
    clear HST
    obtain ⟨i, S, c, hi, rfl, HS⟩ := hrel
    by_cases hlt : i < N
    · have e1 : decide ((i : Int) < (N : Int)) = true := decide_eq_true (by omega)
      have e1' : decide (i < N) = true := decide_eq_true hlt
      have hil : i < al.length := by have := HN.out; omega
      obtain ⟨hrow, b, o, rfl, hcell⟩ := HX.out i hil
      obtain ⟨a, ha⟩ : ∃ a, al[i] = a := ⟨_, rfl⟩
      rw [ha] at hrow hcell
      have hbl : Below w.heap.size w wr := HS.out.below
      have hbw : b < w.heap.size := World.block_lt_of_cell? w _ hcell
      have kc : wr.cell? ⟨b, o + i, none⟩ = some (.slice a.p a.l.length a.c) := (hbl.cell (p := ⟨b, o + i, none⟩) hbw).trans hcell
      obtain ⟨ap, ac, body⟩ := a
      obtain ⟨hin, hlc, hcc⟩ := hrow
      dsimp only at kc hin hlc hcc
      obtain ⟨bl, hbl0⟩ : ∃ bl, bl = body.length := ⟨_, rfl⟩
      rw [← hbl0] at kc
      have HCELL := Lib.hid hcell
      have HIN := Lib.hid (show _ ∧ _ ∧ _ from ⟨hin, hlc, hcc⟩)
      have HBL0 := Lib.hid hbl0
      have HBL := Lib.hid hbl
      clear hcell hin hlc hcc hbl0 hbl ha
      have j0 : (0 : Int) ≤ (i : Int) := by omega
      have j1 : (i : Int) < (N : Int) := by omega
      by_cases hb300 : 300 < bl
      · have f1 : decide ((300 : Int) < (bl : Int)) = true := decide_eq_true (by omega)
        have f1' : decide (300 < bl) = true := decide_eq_true hb300
        go_wp2
        go_ret
        exact ⟨rfl, HBL.out⟩
      have f1 : decide ((300 : Int) < (bl : Int)) = false := decide_eq_false (by omega)
      have f1' : decide (300 < bl) = false := decide_eq_false hb300
      obtain ⟨g1, hg1⟩ : ∃ g1, g1 = i + 1 := ⟨_, rfl⟩
      have hgi : (i : Int) + 1 = (g1 : Int) := by omega
      obtain ⟨r, hr⟩ : ∃ r, r = g1 % 2 := ⟨_, rfl⟩
      have hr2 : r < 2 := by omega
      have q1 : ((g1 : Nat) : Int).tmod 2 = (r : Int) := by rw [Int.tmod_eq_emod_of_nonneg (by omega)]; omega
      obtain ⟨A, hA⟩ : ∃ A, A = (1 - r) * 6 := ⟨_, rfl⟩
      have q2 : (6 : Int) * (1 - (r : Int)) = (A : Int) := by omega
      obtain ⟨L, hL⟩ : ∃ L, L = 6 * 64 := ⟨_, rfl⟩
      have hrd := HS.out.read A 6 (by decide) (by omega)
      rw [← hL] at hrd
      have HL := Lib.hid hL
      have HG1 := Lib.hid (show g1 = i + 1 ∧ r = g1 % 2 ∧ A = (1 - r) * 6 from ⟨hg1, hr, hA⟩)
      have hib : i ≤ 12 := by omega
      have hA2 : A + 6 ≤ 12 := by omega
      clear hg1 hr hA hL
      go_wp2_with fail
      refine hrd.mono ?_
      clear hrd
      rintro e w4 ⟨R, rfl, hR, hRl, hs4, hc4⟩
      have hbase := HS.out.base
      have hap := HS.out.apart
      have hlP : P < wr.heap.size := HS.out.sl.lt
      have hlD : D < wr.heap.size := (Array.getElem?_eq_some_iff.1 HS.out.disk.box).1
      have hlg : g < wr.heap.size := (Array.getElem?_eq_some_iff.1 HS.out.disk.dur).1
      have kc4 : w4.cell? ⟨b, o + i, none⟩ = some (.slice ap bl ac) := (hs4.below.cell (p := ⟨b, o + i, none⟩) hbw).trans (by rw [HBL0.out]; exact HCELL.out)
      have hpn : ∀ b' o', ap = some ⟨b', o', none⟩ → 0 < body.length → b' < w.heap.size := fun b' o' e hl => InAt.lt (b := b') (o := o') (by rw [← e]; exact HIN.out.1) hl
      have hsv := hs4.save (by decide) (by omega) i (by omega) ap ac body (by have := HBL0.out; omega) HIN.out.2.1 HIN.out.2.2 (by have := HBL0.out; unfold roomS; omega) (HIN.out.1.on hs4.below) (fun b' o' e hl => by have := hpn b' o' e hl; omega)
      rw [← HBL0.out] at hsv
      have HS4 := Lib.hid hs4
      have HR := Lib.hid hR
      have HC4 := Lib.hid hc4
      clear hs4 hR hc4 hpn kc
      go_wp2_with fail
      refine hsv.mono ?_
      clear hsv
      rintro e w5 ⟨rfl, hs5, hc5⟩
      have hgen := sgen_any P D 0 6 (i + 1) false w5 hs5.sl
      rw [← HG1.out.1] at hgen
      have hR5 := hc5.box HR.out (by omega)
      have hrd2 := hs5.read A 6 (by decide) (by omega)
      rw [← HL.out] at hrd2
      obtain ⟨S5, hS5⟩ : ∃ S5, putS S ((i + 1) % 2 * 6) (hdrS (i + 1) i body :: padS body) = S5 := ⟨_, rfl⟩
      have hpart : partS S5 A 6 = partS S A 6 := by
        rw [← hS5, HG1.out.2.2, HG1.out.2.1, HG1.out.1]
        exact part_put HS.out.hold.len (by omega) (by rw [List.length_cons, padS_len]; have := HBL0.out; omega)
      rw [hS5] at hs5 hrd2
      have HS5 := Lib.hid hs5
      have HR5 := Lib.hid hR5
      have HPT := Lib.hid hpart
      clear hs5 hc5 hR5 hS5 hpart kc4
      go_wp2_with fail
      refine hgen.mono ?_
      clear hgen
      rintro e w6 ⟨rfl, hw6⟩
      obtain rfl := hw6
      go_wp2_with fail
      refine hrd2.mono ?_
      clear hrd2
      rintro e w6 ⟨R2, rfl, hR2, hRl2, hs6, hc6⟩
      have hR6 := hc6.box HR5.out (by omega)
      have hfl := flat_part HS.out.hold.s64 A 6 (by rw [HS.out.hold.len]; omega)
      have c1 := run_str (c := L) (in_block hR6)
      rw [HPT.out] at hR2
      have c2 := run_str (c := L) (in_block hR2)
      rw [hfl, ← HL.out] at c1 c2
      generalize bs (partS S A 6).flatten = st at *
      have HS6 := Lib.hid hs6
      clear hR2 hRl2 hc6 hR6 hfl hs6
      go_wp2
      go_roundw
      case rel =>
        rw [HG1.out.1] at *
        exact ⟨i + 1, _, _, by omega, by go_num, HS6⟩
      case measure => simp [intOf]; omega
    · have e1 : decide ((i : Int) < (N : Int)) = false := decide_eq_false (by omega)
      have e1' : decide (i < N) = false := decide_eq_false hlt
      go_wp2
      go_ret
      exact ⟨rfl, HS.out.below⟩
end Go.Proofs.Ytgcifhhbhoafcaa
