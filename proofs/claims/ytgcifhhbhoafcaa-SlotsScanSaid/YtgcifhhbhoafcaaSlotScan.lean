/-
  Slots opened: the code's answers are the reference's.
-/
import Derived.Test.YtgcifhhbhoafcaaSlotTwo
import Derived.Test.YtgcifhhbhoafcaaSlotSt
import Derived.Test.YtgcifhhbhoafcaaSlotAwake
import Derived.Test.YtgcifhhbhoafcaaLogArgs
import Derived.Deep.QuietTactic
import Derived.BigQuiet
namespace Go.Proofs.Ytgcifhhbhoafcaa
open Go.RowKit Go.Shelf
attribute [local go_sem] Oper.semAt_some

def wqK (n : Nat) (xa xb : List UInt8) : Nat → List Wq
  | 0 => []
  | 1 => [] ++ piecesW 0 xa
  | _ => [] ++ piecesW 0 xa ++ piecesW n xb
def poK (n : Nat) (xa xb : List UInt8) : Nat → List Nat
  | 0 => []
  | 1 => [] ++ (List.range (cutS xa).length).map (0 + ·)
  | _ => [] ++ (List.range (cutS xa).length).map (0 + ·) ++ (List.range (cutS xb).length).map (n + ·)
def bbK (xa xb : List UInt8) : Nat → List Sec
  | 0 => []
  | 1 => [] ++ cutS xa
  | _ => [] ++ cutS xa ++ cutS xb

theorem InAt.pre {w : World} {p : Option Addr} {l : List UInt8} (H : InAt w p l) (k : Nat) : InAt w p (l.take k) := fun h => by
  have hl : (l.take k).length ≤ l.length := by rw [List.length_take]; omega
  obtain ⟨b, o, hp, hr⟩ := H (by omega)
  refine ⟨b, o, hp, fun j u hu => hr j u ?_⟩
  unfold bCells at hu ⊢
  rw [List.map_take, List.getElem?_take] at hu
  split at hu
  · exact hu
  · cases hu
theorem Held.inat {wr : World} {lo : Nat} {c : Option Ck} {q : Option Addr} {cap : Nat} (H : Held lo wr c q cap) : InAt wr q (bodyOf c) := by
  cases c with
  | none => exact fun h => by simp [bodyOf] at h
  | some x => exact (H.2 x rfl).1
theorem zipK (n : Nat) (xa xb : List UInt8) : (poK n xa xb 2).zip (bbK xa xb 2) = wqK n xa xb 2 := by
  show ([] ++ (List.range (cutS xa).length).map (0 + ·) ++ (List.range (cutS xb).length).map (n + ·)).zip ([] ++ cutS xa ++ cutS xb) = [] ++ piecesW 0 xa ++ piecesW n xb
  rw [List.nil_append, List.nil_append, List.nil_append, List.zip_append (by simp), zip_mapIdx, zip_mapIdx, pieces_pad, pieces_pad]
  rfl
theorem lenK (n : Nat) (xa xb : List UInt8) (h : xa.length ≤ 1024) (h' : xb.length ≤ 1024) (k : Nat) : (wqK n xa xb k).length ≤ 1000 ∧ (poK n xa xb k).length ≤ 1000 ∧ (bbK xa xb k).length ≤ 1000 := by
  match k with
  | 0 => exact ⟨by simp [wqK], by simp [poK], by simp [bbK]⟩
  | 1 =>
    refine ⟨?_, ?_, ?_⟩
    · simp only [wqK, List.nil_append, pieces_pad, List.length_mapIdx, padS_len]; omega
    · simp only [poK, List.nil_append, List.length_map, List.length_range, cutS_len]; omega
    · simp only [bbK, List.nil_append, cutS_len]; omega
  | k + 2 =>
    refine ⟨?_, ?_, ?_⟩
    · simp only [wqK, List.nil_append, List.length_append, pieces_pad, List.length_mapIdx, padS_len]; omega
    · simp only [poK, List.nil_append, List.length_append, List.length_map, List.length_range, cutS_len]; omega
    · simp only [bbK, List.nil_append, List.length_append, cutS_len]; omega
theorem k64 (xa xb : List UInt8) : ∀ y ∈ bbK xa xb 2, y.length = 64 := fun y hy => by
  have e : bbK xa xb 2 = padS xa ++ padS xb := by show [] ++ cutS xa ++ cutS xb = _; rw [List.nil_append]; rfl
  rw [e] at hy
  rcases List.mem_append.1 hy with h | h
  · exact padS_64 _ y h
  · exact padS_64 _ y h
theorem poK_len (n : Nat) (xa xb : List UInt8) : (poK n xa xb 2).length = (bbK xa xb 2).length := by simp [poK, bbK]

set_option maxRecDepth 20000 in
set_option maxHeartbeats 8000000 in
theorem sscan_walk (pp0 : Option Addr) (c0 : Nat) (l0 : List UInt8) (pp1 : Option Addr) (c1 : Nat) (l1 : List UInt8) (x2 : Int) (W : World) (hb0 : InAt W pp0 l0 ∧ l0.length ≤ c0 ∧ c0 ≤ 9223372036854775807) (hb1 : InAt W pp1 l1 ∧ l1.length ≤ c1 ∧ c1 ≤ 9223372036854775807) :
    Calls Try.prog 4 #[.slice pp0 l0.length c0, .slice pp1 l1.length c1, .int .i64 x2] W fun e w' => e = .returned (.bool true) ∧ Below W.heap.size W w' := by
  by_cases hbig : 1000 < l0.length ∨ 1000 < l1.length
  · by_cases ha : 1000 < l0.length
    · have d1 : decide ((1000 : Int) < (l0.length : Int)) = true := decide_eq_true (by omega)
      have d1' : decide (1000 < l0.length) = true := decide_eq_true ha
      clear hbig hb0 hb1
      go_enter Try.func4, Try.ntmps4
      go_wp2_with fail
      refine (sawake_true W).mono ?_
      rintro e w1 ⟨rfl, hb1⟩
      have HB1 := Lib.hid hb1
      clear hb1
      go_wp2_with fail
      refine (sawake_true w1).mono ?_
      rintro e w2 ⟨rfl, hb2⟩
      have HB2 := Lib.hid hb2
      clear hb2
      go_wp2
      go_ret
      exact ⟨rfl, HB1.out.trans (HB2.out.mono HB1.out.size)⟩
    · have d1 : decide ((1000 : Int) < (l0.length : Int)) = false := decide_eq_false (by omega)
      have d1' : decide (1000 < l0.length) = false := decide_eq_false ha
      have d2 : decide ((1000 : Int) < (l1.length : Int)) = true := decide_eq_true (by omega)
      have d2' : decide (1000 < l1.length) = true := decide_eq_true (by omega)
      clear hbig hb0 hb1
      go_enter Try.func4, Try.ntmps4
      go_wp2_with fail
      refine (sawake_true W).mono ?_
      rintro e w1 ⟨rfl, hb1⟩
      have HB1 := Lib.hid hb1
      clear hb1
      go_wp2_with fail
      refine (sawake_true w1).mono ?_
      rintro e w2 ⟨rfl, hb2⟩
      have HB2 := Lib.hid hb2
      clear hb2
      go_wp2
      go_ret
      exact ⟨rfl, HB1.out.trans (HB2.out.mono HB1.out.size)⟩
  · have d1 : decide ((1000 : Int) < (l0.length : Int)) = false := decide_eq_false (by omega)
    have d1' : decide (1000 < l0.length) = false := decide_eq_false (by omega)
    have d2 : decide ((1000 : Int) < (l1.length : Int)) = false := decide_eq_false (by omega)
    have d2' : decide (1000 < l1.length) = false := decide_eq_false (by omega)
    obtain ⟨r, hr⟩ : ∃ r, x2.tmod 16 = r := ⟨_, rfl⟩
    have hr1 : -16 < r ∧ r < 16 := by
      rw [← hr]
      exact ⟨Int.lt_tmod_of_pos _ (by decide), Int.tmod_lt_of_pos _ (by decide)⟩
    obtain ⟨n0, hn0⟩ : ∃ n0 : Nat, (r + 16).tmod 16 = (n0 : Int) := ⟨((r + 16).tmod 16).toNat, by rw [Int.tmod_eq_emod_of_nonneg (by omega)]; omega⟩
    have hn0b : n0 < 16 := by rw [Int.tmod_eq_emod_of_nonneg (by omega)] at hn0; omega
    obtain ⟨n, hn⟩ : ∃ n, n = n0 + 1 := ⟨_, rfl⟩
    have q1 : IntKind.i64.wrap r = r := by rw [IntKind.wrap_i64]; omega
    have q2 : IntKind.i64.wrap (r + 16) = r + 16 := by rw [IntKind.wrap_i64]; omega
    have q3 : IntKind.i64.wrap (n0 : Int) = (n0 : Int) := by rw [IntKind.wrap_i64]; omega
    have q4 : IntKind.i64.wrap (1 + (n0 : Int)) = (n : Int) := by rw [IntKind.wrap_i64]; omega
    have q4' : (1 + (n0 : Int)) = (n : Int) := by omega
    obtain ⟨N, hN⟩ : ∃ N, N = 2 * n := ⟨_, rfl⟩
    have q5 : (2 : Int) * (n : Int) = (N : Int) := by omega
    obtain ⟨s, hs⟩ : ∃ s, s = 64 * n := ⟨_, rfl⟩
    have q6 : (64 : Int) * (n : Int) = (s : Int) := by omega
    have hnb : 1 ≤ n ∧ n ≤ 16 := by omega
    have hnw := fun w => new_any N (by omega) (by omega) w
    have hrn := fun w => refnew_any N (by omega) (by omega) w
    have HNN := Lib.hid hN
    have HSS := Lib.hid hs
    have HR := Lib.hid hr
    have HN0 := Lib.hid (show x2 < 1 ∨ (N : Int) < 2 * x2 ∨ (1 ≤ x2 ∧ x2 ≤ (n : Int)) from by omega)
    have hsb : s ≤ 1024 := by omega
    have hNb : N ≤ 32 := by omega
    clear hbig hN hs hn
    go_enter Try.func4, Try.ntmps4
    go_wp2_with fail
    refine (sawake_true W).mono ?_
    rintro e w1 ⟨rfl, hb1⟩
    have HB1 := Lib.hid hb1
    clear hb1
    go_wp2_with fail
    refine (hnw w1).mono ?_
    clear hnw
    rintro e w2 ⟨rfl, hd, hb2⟩
    obtain ⟨g, hg⟩ : ∃ g, w1.heap.size = g := ⟨_, rfl⟩
    have hgl : g < w2.heap.size := (Array.getElem?_eq_some_iff.1 (hg ▸ hd.dur)).1
    have hDl : g + 1 < w2.heap.size := (Array.getElem?_eq_some_iff.1 (hg ▸ hd.box)).1
    obtain ⟨D, hD⟩ : ∃ D, w1.heap.size + 1 = D := ⟨_, rfl⟩
    rw [hD] at hd ⊢
    rw [hg] at hd
    have HD2 := Lib.hid hd
    have HB2 := Lib.hid hb2
    have HGD := Lib.hid (show w1.heap.size = g ∧ D = g + 1 ∧ D < w2.heap.size from by omega)
    clear hd hb2 hgl hDl hg hD
    go_wp2_with fail
    refine (hrn w2).mono ?_
    clear hrn
    rintro e w3 ⟨rfl, hr3, hb3⟩
    obtain ⟨R, hR⟩ : ∃ R, w2.heap.size = R := ⟨_, rfl⟩
    have htwo : Two W w3 D g R w3.heap.size N (wqK n (l0.take s) (l1.take s) 0) (poK n (l0.take s) (l1.take s) 0) (bbK (l0.take s) (l1.take s) 0) := by
      have h1 := HGD.out
      have h2 := HB1.out.size
      have h3 := hr3.lt
      have hd3 := HD2.out.on hb3
      rw [hR] at hr3
      have hb13 := (HB1.out.trans (HB2.out.mono HB1.out.size)).trans (hb3.mono (by omega))
      exact ⟨⟨_, _, _, hd3, hr3, fun k e => by cases e⟩, by omega, hb13⟩
    rw [hR]
    obtain ⟨lo, hlo⟩ : ∃ lo, w3.heap.size = lo := ⟨_, rfl⟩
    rw [hlo] at htwo
    have HTWO := Lib.hid htwo
    have hc0 : 0 < l0.length → ∃ b o, pp0 = some ⟨b, o, none⟩ := fun h => by obtain ⟨b, o, h1, _⟩ := hb0.1 h; exact ⟨b, o, h1⟩
    have hc1 : 0 < l1.length → ∃ b o, pp1 = some ⟨b, o, none⟩ := fun h => by obtain ⟨b, o, h1, _⟩ := hb1.1 h; exact ⟨b, o, h1⟩
    have HC0 := Lib.hid hc0
    have HC1 := Lib.hid hc1
    have HA0 := Lib.hid hb0
    have HA1 := Lib.hid hb1
    clear htwo hr3 hb3 hR hlo hc0 hc1 hb0 hb1
    go_wp2_with fail
    go_loopw [11] (fun s11 wr => ∃ k : Nat, k ≤ 2 ∧ s11 = .int .i64 k ∧ Hid (Two W wr D g R lo N (wqK n (l0.take s) (l1.take s) k) (poK n (l0.take s) (l1.take s) k) (bbK (l0.take s) (l1.take s) k))) (fun s11 _ => 2 - (intOf s11).toNat)
    case atStart => exact ⟨0, by omega, rfl, HTWO⟩
    case round =>
      clear HTWO
      obtain ⟨k, hk, rfl, HT⟩ := hrel
      match k, hk with
      | 0, _ =>
        have hx := (HA0.out.1).pre s
        have hlc := HA0.out.2.1
        have hcb := HA0.out.2.2
        obtain ⟨x, hxe⟩ : ∃ x, l0.take s = x := ⟨_, rfl⟩
        have hxl : x.length = min s l0.length := by rw [← hxe, List.length_take]
        have hlk := lenK n (l0.take s) (l1.take s) (by rw [List.length_take]; omega) (by rw [List.length_take]; omega) 0
        rw [hxe] at hx
        have hss := HSS.out
        have hnn := HNN.out
        have hw := HT.out.write 0 pp0 c0 x hx (by omega) hcb (by omega) (by omega) hlk.1
        have hrw := fun W' (H : Two W W' D g R lo N (wqK n (l0.take s) (l1.take s) 0 ++ piecesW 0 x) (poK n (l0.take s) (l1.take s) 0) (bbK (l0.take s) (l1.take s) 0)) => H.rwrite 0 pp0 c0 x hx (by omega) hcb (by omega) (by omega) hlk.2
        have HXE := Lib.hid hxe
        by_cases hlt : s < l0.length
        · have hxs : x.length = s := by omega
          rw [hxs] at hw hrw
          have i1 : s ≤ c0 := by omega
          have i2 : (s : Int) ≤ (c0 : Int) := by omega
          clear hx hlc hcb hxe hxl hlk hss hnn hxs HT
          go_wp2_with fail
          refine hw.mono ?_
          clear hw
          rintro e w4 ⟨⟨z4, rfl⟩, ht4, -⟩
          have hrw := hrw w4 ht4
          clear ht4
          go_wp2_with fail
          refine hrw.mono ?_
          clear hrw
          rintro e w5 ⟨⟨z5, rfl⟩, ht5, -⟩
          have HT5 := Lib.hid ht5
          clear ht5
          go_wp2
          go_roundw
          case rel => exact ⟨1, by omega, by go_num, Lib.hid (by have := HT5.out; rw [← HXE.out] at this; exact this)⟩
          case measure => simp [intOf]
        · have hxs : x.length = l0.length := by omega
          rw [hxs] at hw hrw
          clear hx hcb hxe hxl hlk hss hnn hxs HT
          go_wp2_with fail
          refine hw.mono ?_
          clear hw
          rintro e w4 ⟨⟨z4, rfl⟩, ht4, -⟩
          have hrw := hrw w4 ht4
          clear ht4
          go_wp2_with fail
          refine hrw.mono ?_
          clear hrw
          rintro e w5 ⟨⟨z5, rfl⟩, ht5, -⟩
          have HT5 := Lib.hid ht5
          clear ht5
          go_wp2
          go_roundw
          case rel => exact ⟨1, by omega, by go_num, Lib.hid (by have := HT5.out; rw [← HXE.out] at this; exact this)⟩
          case measure => simp [intOf]
      | 1, _ =>
        have hx := (HA1.out.1).pre s
        have hlc := HA1.out.2.1
        have hcb := HA1.out.2.2
        obtain ⟨x, hxe⟩ : ∃ x, l1.take s = x := ⟨_, rfl⟩
        have hxl : x.length = min s l1.length := by rw [← hxe, List.length_take]
        have hlk := lenK n (l0.take s) (l1.take s) (by rw [List.length_take]; omega) (by rw [List.length_take]; omega) 1
        rw [hxe] at hx
        have hss := HSS.out
        have hnn := HNN.out
        have hw := HT.out.write n pp1 c1 x hx (by omega) hcb (by omega) (by omega) hlk.1
        have hrw := fun W' (H : Two W W' D g R lo N (wqK n (l0.take s) (l1.take s) 1 ++ piecesW n x) (poK n (l0.take s) (l1.take s) 1) (bbK (l0.take s) (l1.take s) 1)) => H.rwrite n pp1 c1 x hx (by omega) hcb (by omega) (by omega) hlk.2
        have HXE := Lib.hid hxe
        by_cases hlt : s < l1.length
        · have hxs : x.length = s := by omega
          rw [hxs] at hw hrw
          have i1 : s ≤ c1 := by omega
          have i2 : (s : Int) ≤ (c1 : Int) := by omega
          clear hx hlc hcb hxe hxl hlk hss hnn hxs HT
          go_wp2_with fail
          refine hw.mono ?_
          clear hw
          rintro e w4 ⟨⟨z4, rfl⟩, ht4, -⟩
          have hrw := hrw w4 ht4
          clear ht4
          go_wp2_with fail
          refine hrw.mono ?_
          clear hrw
          rintro e w5 ⟨⟨z5, rfl⟩, ht5, -⟩
          have HT5 := Lib.hid ht5
          clear ht5
          go_wp2
          go_roundw
          case rel => exact ⟨2, by omega, by go_num, Lib.hid (by have := HT5.out; rw [← HXE.out] at this; exact this)⟩
          case measure => simp [intOf]
        · have hxs : x.length = l1.length := by omega
          rw [hxs] at hw hrw
          clear hx hcb hxe hxl hlk hss hnn hxs HT
          go_wp2_with fail
          refine hw.mono ?_
          clear hw
          rintro e w4 ⟨⟨z4, rfl⟩, ht4, -⟩
          have hrw := hrw w4 ht4
          clear ht4
          go_wp2_with fail
          refine hrw.mono ?_
          clear hrw
          rintro e w5 ⟨⟨z5, rfl⟩, ht5, -⟩
          have HT5 := Lib.hid ht5
          clear ht5
          go_wp2
          go_roundw
          case rel => exact ⟨2, by omega, by go_num, Lib.hid (by have := HT5.out; rw [← HXE.out] at this; exact this)⟩
          case measure => simp [intOf]
      | 2, _ =>
        go_wp2_with fail
        have HLK := Lib.hid (lenK n (l0.take s) (l1.take s) (by rw [List.length_take]; omega) (by rw [List.length_take]; omega) 2)
        have HZK := Lib.hid (zipK n (l0.take s) (l1.take s))
        have HK64 := Lib.hid (k64 (l0.take s) (l1.take s))
        have HPL := Lib.hid (poK_len n (l0.take s) (l1.take s))
        generalize wqK n (l0.take s) (l1.take s) 2 = ws at *
        generalize poK n (l0.take s) (l1.take s) 2 = pos at *
        generalize bbK (l0.take s) (l1.take s) 2 = B at *
        obtain ⟨v, va, vw, hd, hr, hv⟩ := HT.out.ex
        obtain ⟨o1, o2, o3, o4, o5, o6, o7⟩ := HT.out.ord
        have hbel := HT.out.below
        have hlk := HLK.out
        have hnn := HNN.out
        obtain ⟨cu, hcu⟩ : ∃ cu, cur n (partS (doneS (zeroS N) ws) 0 (2 * n)) = cu := ⟨_, rfl⟩
        have hop := sopen_any D g (zeroS N) v ws (-1) (by decide) (by decide) (by omega) 0 n hnb.1 (by rw [zero_cells]; omega) wr hd o1
        have hro := fun w' (H : RA w' R lo (zeroS N) va vw pos B) => ropen_any H HPL.out (by omega) hd.s64 HK64.out n hnb.1 (by omega) (by rw [zero_cells]; omega) (by rw [zero_cells]; omega)
        simp only [HZK.out] at hro
        rw [hcu] at hop
        rw [hcu] at hro
        have hg0 : genOf cu < 9223372036854775808 := by rw [← hcu]; exact cur_gen _ _
        have HO := Lib.hid (show D ≠ g ∧ D < R ∧ g < R ∧ R < lo ∧ W.heap.size ≤ D ∧ W.heap.size ≤ g ∧ 1 ≤ N from ⟨o1, o2, o3, o4, o5, o6, o7⟩)
        have HBEL := Lib.hid hbel
        have HRA := Lib.hid hr
        have HDD := Lib.hid hd
        clear hd hr hv o1 o2 o3 o4 o5 o6 o7 hbel hlk hnn hcu HT
        refine hop.mono ?_
        clear hop
        rintro e w4 ⟨P, q4, c4, rfl, hP4, hsl4, hh4, hd4, hch4⟩
        have o := HO.out
        have hr4 : RA w4 R lo (zeroS N) va vw pos B := HRA.out.apart (by rw [zero_cells]; exact o.2.2.2.2.2.2) hch4 (fun k hk => by
          have hk' : k = D := hk
          subst hk'
          exact ⟨⟨_, _, _, HDD.out.box, by decide, by decide, by decide⟩, Or.inr ⟨_, HDD.out.box.cells.1, fun x e => by cases e⟩⟩)
        have hb4 : Below W.heap.size W w4 := hch4.on HBEL.out HBEL.out.size (fun k hk => by have hk' : k = D := hk; omega)
        obtain ⟨t, ht⟩ : ∃ t, stOf cu = t := ⟨_, rfl⟩
        obtain ⟨L, hL⟩ : ∃ L, (bodyOf cu).length = L := ⟨_, rfl⟩
        obtain ⟨gn, hgn⟩ : ∃ gn, genOf cu = gn := ⟨_, rfl⟩
        obtain ⟨ok, hok⟩ : ∃ ok, cu.isSome = ok := ⟨_, rfl⟩
        unfold entB
        unfold entR at hro
        rw [ht, hL, hgn, hok] at hro
        rw [ht, hL, hok]
        rw [hgn] at hsl4 hg0
        have HIN4 := Lib.hid hh4.inat
        have HEQ := Lib.hid (show (stOf cu = t ∧ (bodyOf cu).length = L) from ⟨ht, hL⟩)
        obtain ⟨w5, hw5⟩ : ∃ w5, w4.alloc (.cells #[.int .i64 (t : Int), .slice q4 L c4] 48) = w5 := ⟨_, rfl⟩
        have hb5 : Below w4.heap.size w4 w5 := by rw [← hw5]; exact bA (Below.refl _ _) _
        have hE5 : w5.heap[w4.heap.size]? = some (.cells #[.int .i64 (t : Int), .slice q4 L c4] 48 (0, 0)) := by rw [← hw5]; exact heap_new w4 _
        have hr5 := hr4.on hb5
        have hro5 := hro w5 hr5
        have HSL4 := Lib.hid hsl4
        have HD4 := Lib.hid hd4
        have HB4 := Lib.hid hb4
        have HB5 := Lib.hid hb5
        have HE5 := Lib.hid hE5
        have HW5 := Lib.hid hw5
        clear hh4 hch4 hsl4 hd4 hb4 hb5 hE5 hr4 hr5 hro ht hL hgn hok o HRA hP4
        go_wp2_with fail
        first | rw [HW5.out] | skip
        obtain ⟨Z, hZ⟩ : ∃ Z, w4.heap.size = Z := ⟨_, rfl⟩
        rw [hZ]
        refine hro5.mono ?_
        clear hro5 hw5
        rintro e w6 ⟨Q, q6, c6, rfl, hs6, hQ6, hb6, hh6⟩
        obtain ⟨w7, hw7⟩ : ∃ w7, w6.alloc (.cells #[.int .i64 (t : Int), .slice q6 L c6] 48) = w7 := ⟨_, rfl⟩
        have hb7 : Below w6.heap.size w6 w7 := by rw [← hw7]; exact bA (Below.refl _ _) _
        have hE7 : w7.heap[w6.heap.size]? = some (.cells #[.int .i64 (t : Int), .slice q6 L c6] 48 (0, 0)) := by rw [← hw7]; exact heap_new w6 _
        have hb67 := hb6.trans (hb7.mono hb6.size)
        have hc67 := Chg.below hb67 (fun _ => False)
        have hZ7 := hc67.box HE5.out (fun e => e)
        rw [hZ] at hZ7
        obtain ⟨Y, hY⟩ : ∃ Y, w6.heap.size = Y := ⟨_, rfl⟩
        rw [hY] at hE7
        have kz0 : w7.cell? ⟨Z, 0, none⟩ = some (.int .i64 (t : Int)) := by rw [cell_in hZ7]; rfl
        have kz1 : w7.cell? ⟨Z, 1, none⟩ = some (.slice q4 L c4) := by rw [cell_in hZ7]; rfl
        have ky0 : w7.cell? ⟨Y, 0, none⟩ = some (.int .i64 (t : Int)) := by rw [cell_in hE7]; rfl
        have ky1 : w7.cell? ⟨Y, 1, none⟩ = some (.slice q6 L c6) := by rw [cell_in hE7]; rfl
        have hin4 := (HIN4.out.on HB5.out).on hb67
        have hin6 := hh6.1.on hb7
        have hes := esame_any (t : Int) (t : Int) (bodyOf cu) (bodyOf cu) q4 q6 c4 c6 w7 hin4 hin6
        rw [HEQ.out.2] at hes
        simp only [decide_true, Bool.and_self] at hes
        have hsl7 := hc67.box (show w5.heap[P]? = _ from (Chg.below HB5.out (fun _ => False)).box HSL4.out (fun e => e)) (fun e => e)
        have hrs7 := (Chg.below hb7 (fun _ => False)).box hs6 (fun e => e)
        have hd7 := (HD4.out.on HB5.out).on hb67
        have hb47 : Below W.heap.size W w7 := (HB4.out.trans (HB5.out.mono HB4.out.size)).trans (hb67.mono (Nat.le_trans HB4.out.size HB5.out.size))
        have HSL7 := Lib.hid hsl7
        have HRS7 := Lib.hid hrs7
        have HD7 := Lib.hid hd7
        have HB7 := Lib.hid hb47
        rw [← hw7] at kz0 kz1 ky0 ky1 hes
        rw [← hY] at ky0 ky1
        have HW7 := Lib.hid hw7
        clear hs6 hQ6 hb6 hh6 hb7 hE7 hb67 hc67 hZ7 hin4 hin6 hsl7 hrs7 hd7 hb47 hY hw7 HE5 HB5
        go_wp2_with fail
        refine hes.mono ?_
        clear hes
        rw [HW7.out]
        rintro e w8 ⟨rfl, hb8⟩
        have hsl8 := (Chg.below hb8 (fun _ => False)).box HSL7.out (fun e => e)
        have hrs8 := (Chg.below hb8 (fun _ => False)).box HRS7.out (fun e => e)
        have hd8 := HD7.out.on hb8
        have hb80 := HB7.out.trans (hb8.mono HB7.out.size)
        have HSL8 := Lib.hid hsl8
        have HRS8 := Lib.hid hrs8
        have HD8 := Lib.hid hd8
        have HB8 := Lib.hid hb80
        clear hsl8 hrs8 hb80 hb8 kz0 kz1 ky0 ky1
        rcases HN0.out with hc | hc | hc
        · have e1 : decide (x2 < 1) = true := decide_eq_true hc
          have hbad := sopen_bad D g (zeroS N).length v (less (-1)) x2 (Or.inl hc) w8 hd8.box
          clear hd8
          go_wp2_with fail
          refine hbad.mono ?_
          clear hbad
          rintro e w9 ⟨rfl, hb9⟩
          have HB9 := Lib.hid (HB8.out.trans (hb9.mono HB8.out.size))
          clear hb9
          go_wp2
          go_ret
          exact ⟨rfl, bA HB9.out _⟩
        · have e1 : decide (x2 < 1) = false := decide_eq_false (by omega)
          have hnn := HNN.out
          have e2 : decide ((n : Int) < x2) = true := decide_eq_true (by omega)
          have hbad := sopen_bad D g (zeroS N).length v (less (-1)) x2 (Or.inr (by rw [zero_cells]; exact hc)) w8 hd8.box
          clear hd8 hnn
          go_wp2_with fail
          refine hbad.mono ?_
          clear hbad
          rintro e w9 ⟨rfl, hb9⟩
          have HB9 := Lib.hid (HB8.out.trans (hb9.mono HB8.out.size))
          clear hb9
          go_wp2
          go_ret
          exact ⟨rfl, bA HB9.out _⟩
        · have hnn := HNN.out
          obtain ⟨m, hm⟩ : ∃ m : Nat, x2 = (m : Int) := ⟨x2.toNat, by omega⟩
          have e1 : decide (x2 < 1) = false := decide_eq_false (by omega)
          have e2 : decide ((n : Int) < x2) = false := decide_eq_false (by omega)
          rw [hm] at e1 e2 ⊢
          have e2' : decide (n < m) = false := decide_eq_false (by omega)
          have o := HO.out
          have hlk := HLK.out
          have hop := sopen_any D g (zeroS N) v ws (less (-1)) (by decide) (by decide) (by omega) 0 m (by omega) (by rw [zero_cells]; omega) w8 hd8 o.1
          generalize cur m (partS (doneS (zeroS N) ws) 0 (2 * m)) = cv at hop
          clear hd8 hnn
          go_wp2_with fail
          refine hop.mono ?_
          clear hop
          rintro e w9 ⟨P3, q3', c3', rfl, hP3, hsl3, hh3, hd9, hch9⟩
          have hPD : P ≠ D := fun e => absurd (type_ne (e ▸ HSL8.out) HD8.out.box) (by decide)
          have hQD : Q ≠ D := fun e => absurd (type_ne (e ▸ HRS8.out) HD8.out.box) (by decide)
          have hsl9 := hch9.box HSL8.out hPD
          have hrs9 := hch9.box HRS8.out hQD
          have hb9 := hch9.on HB8.out HB8.out.size (fun k hk => by have hk' : k = D := hk; omega)
          unfold entB
          generalize stOf cv = t3
          generalize (bodyOf cv).length = L3
          generalize cv.isSome = ok3
          obtain ⟨w10, hw10⟩ : ∃ w10, w9.alloc (.cells #[.int .i64 (t3 : Int), .slice q3' L3 c3'] 48) = w10 := ⟨_, rfl⟩
          have hb10 : Below w9.heap.size w9 w10 := by rw [← hw10]; exact bA (Below.refl _ _) _
          have hsl10 := (Chg.below hb10 (fun _ => False)).box hsl9 (fun e => e)
          have hrs10 := (Chg.below hb10 (fun _ => False)).box hrs9 (fun e => e)
          have HB10 := Lib.hid (hb9.trans (hb10.mono hb9.size))
          have HW10 := Lib.hid hw10
          clear hP3 hsl3 hh3 hd9 hch9 hsl9 hrs9 hb9 hPD hQD o hlk
          go_wp2_with fail
          have kq3 : w10.cell? ⟨Q, 3, none⟩ = some (.int .i64 (gn : Int)) := by rw [cell_in hrs10]; rfl
          have hge := fun nq => (sgen_any P D 0 n gn false (w10.drewN nq) (by exact hsl10)).mono (fun _ _ h => (⟨h.1, h.2.symm⟩ : _ ∧ _))
          have hrm := fun nq => (sroomp_any P D 0 n gn false hnb.1 (by omega) (w10.drewN nq) (by exact hsl10)).mono (fun _ _ h => (⟨h.1, h.2.symm⟩ : _ ∧ _))
          have hrr := fun nq => (rroom_any hnb.1 (by omega) (show RSl (w10.drewN nq) Q R 0 n gn from hrs10)).mono (fun _ _ h => (⟨h.1, h.2.symm⟩ : _ ∧ _))
          clear hw10 hsl10 hrs10 hb10
          generalize roomS n = rm at hrm hrr
          go_quiet (first | (go_at_call 22; exact Calls.quiet_of_same (hge _)) | (go_at_call 23; exact Calls.quiet_of_same (hrm _)) | (go_at_call 24; exact Calls.quiet_of_same (hrr _)) | fail)
          go_wp2
          go_ret
          exact ⟨rfl, HB10.out.trans ⟨rfl, rfl, rfl, Nat.le_refl _, fun _ _ => rfl⟩⟩
end Go.Proofs.Ytgcifhhbhoafcaa
