/-
  Append.
-/
import Derived.Test.YtgcifhhbhoafcaaLogRec
namespace Go.Proofs.Ytgcifhhbhoafcaa
open Go.RowKit Go.Shelf

set_option maxHeartbeats 1000000 in
theorem append_off (P D f n u l : Nat) (stamp : Int) (p : Option Addr) (m cc : Nat) (w : World) (H : LogAt w P D f n u l true) :
    Calls Try.prog 29 #[.pointer (some ⟨P, 0, none⟩), .int .i64 stamp, .slice p m cc] w fun e w' => e = .returned (.int .i64 20) ∧ w = w' := by
  obtain ⟨k0, k1, k2, k3, k4, k5⟩ := H.cells
  clear H
  go_enter Try.func29, Try.ntmps29
  go_wp2
  go_ret
  exact ⟨rfl, rfl⟩
set_option maxHeartbeats 1000000 in
theorem append_arg (P D f n u l : Nat) (stamp : Nat) (hs : stamp ≠ l + 1) (hl : l ≤ 1152921504606846975) (p : Option Addr) (m cc : Nat) (w : World) (H : LogAt w P D f n u l false) :
    Calls Try.prog 29 #[.pointer (some ⟨P, 0, none⟩), .int .i64 stamp, .slice p m cc] w fun e w' => e = .returned (.int .i64 2) ∧ w = w' := by
  obtain ⟨k0, k1, k2, k3, k4, k5⟩ := H.cells
  have d1 : decide ((stamp : Int) = (l : Int) + 1) = false := decide_eq_false (by omega)
  have d1' : decide (stamp = l + 1) = false := decide_eq_false hs
  clear H
  go_enter Try.func29, Try.ntmps29
  go_wp2
  go_ret
  exact ⟨rfl, rfl⟩
set_option maxHeartbeats 1000000 in
theorem append_full (P D f n u l : Nat) (hl : l < 1152921504606846975) (p : Option Addr) (m cc : Nat) (hm : m ≤ 100000) (hu : u ≤ n) (hn : n ≤ 65536) (hf : n - u < secs m) (w : World) (H : LogAt w P D f n u l false) :
    Calls Try.prog 29 #[.pointer (some ⟨P, 0, none⟩), .int .i64 ((l : Int) + 1), .slice p m cc] w fun e w' => e = .returned (.int .i64 22) ∧ Below w.heap.size w w' := by
  obtain ⟨k0, k1, k2, k3, k4, k5⟩ := H.cells
  have hfr := free_any P D f n u l false hu hn w H
  have hsec := sectors_any m (by omega) w
  obtain ⟨r, hr⟩ : ∃ r, r = n - u := ⟨_, rfl⟩
  obtain ⟨K, hK⟩ : ∃ K, K = secs m := ⟨_, rfl⟩
  rw [← hr] at hfr
  rw [← hK] at hsec
  have d3 : decide ((r : Int) < (K : Int)) = true := decide_eq_true (by omega)
  have d3' : decide (r < K) = true := decide_eq_true (by omega)
  have d2 : decide ((1152921504606846975 : Int) < (l : Int) + 1) = false := decide_eq_false (by omega)
  have d2' : decide (1152921504606846975 < l + 1) = false := decide_eq_false (by omega)
  clear H hf hr hK
  go_enter Try.func29, Try.ntmps29
  go_wp2_with fail
  refine hsec.mono ?_
  rintro e1 w1 ⟨rfl, rfl⟩
  go_wp2_with fail
  refine hfr.mono ?_
  rintro e2 w2 ⟨rfl, hb⟩
  have HB := Lib.hid hb
  clear hb
  go_wp2
  go_ret
  exact ⟨rfl, HB.out⟩
set_option maxHeartbeats 2000000 in
theorem append_fits (P D f n u l : Nat) (g : Nat) (S : List Sec) (c : Int) (hl : -9223372036854775808 ≤ c ∧ c ≤ 9223372036854775807) (hlm : l < 1152921504606846975) (p : Option Addr) (cc : Nat) (body : List UInt8) (hbl : body.length ≤ 100000) (hcb : body.length ≤ cc) (hcc : cc ≤ 9223372036854775807) (hfit : u + secs body.length ≤ n) (hfn : f + n ≤ S.length) (w : World) (hin : InAt w p body) (hne : ∀ b o, p = some ⟨b, o, none⟩ → 0 < body.length → b ≠ D ∧ b ≠ g)
    (HL : LogAt w P D f n u l false) (H : DiskAt w D g S (.slice none 0 0) [] c) (hDg : D ≠ g) (hPD : P ≠ D) (hPg : P ≠ g) :
    Calls Try.prog 29 #[.pointer (some ⟨P, 0, none⟩), .int .i64 ((l : Int) + 1), .slice p body.length cc] w fun e w' =>
      (e = .returned (.int .i64 0) ∧ (∃ c', DiskAt w' D g (putS S (f + u) (hdr (l + 1) body :: packed body)) (.slice none 0 0) [] c' ∧ (c < 0 → c' = c) ∧ (-9223372036854775808 ≤ c' ∧ c' ≤ 9223372036854775807)) ∧ LogAt w' P D f n (u + secs body.length) (l + 1) false ∧ Chg (fun k => k = P ∨ k = D ∨ k = g) w w')
      ∨ (e = .returned (.int .i64 20) ∧ 0 ≤ c ∧ (∃ S' v' ws', DiskAt w' D g S' v' ws' 0 ∧ Half S (f + u) (l + 1) body S' ws' ∧ (∀ k, v'.ownBlock = some k → w.heap.size ≤ k)) ∧ LogAt w' P D f n u l true ∧ Chg (fun k => k = P ∨ k = D ∨ k = g) w w') := by
  obtain ⟨k0, k1, k2, k3, k4, k5⟩ := HL.cells
  have hNf := H.few
  have hfr := free_any P D f n u l false (by omega) (by omega) w HL
  have hsec := sectors_any body.length (by omega) w
  have hDl : D < w.heap.size := (Array.getElem?_eq_some_iff.1 H.box).1
  have hgl : g < w.heap.size := (Array.getElem?_eq_some_iff.1 H.dur).1
  obtain ⟨r, hr⟩ : ∃ r, r = n - u := ⟨_, rfl⟩
  obtain ⟨K, hK⟩ : ∃ K, K = secs body.length := ⟨_, rfl⟩
  have hadv := fun (w : World) (H : LogAt w P D f n u l false) => advance_any P D f n u l false body.length (by omega) (by omega) (by omega) w H
  have hrec := fun (w : World) (hin : InAt w p body) (HL : LogAt w P D f n u l false) (H : DiskAt w D g S (.slice none 0 0) [] c) => rec_any P D f n u l g S c hl (l + 1) p cc body hbl hcb hcc hfit hfn w hin hne HL H hDg hPD hPg
  obtain ⟨bl, hbl0⟩ : ∃ bl, bl = body.length := ⟨_, rfl⟩
  have HREC := Lib.hid hrec
  have HADV := Lib.hid hadv
  have HBL := Lib.hid hbl0
  rw [← hr] at hfr
  rw [← hK] at hsec hfit ⊢
  rw [← hbl0] at hbl hcb hsec ⊢
  have HK := Lib.hid hK
  have d3 : decide ((r : Int) < (K : Int)) = false := decide_eq_false (by omega)
  have d3' : decide (r < K) = false := decide_eq_false (by omega)
  have d2 : decide ((1152921504606846975 : Int) < (l : Int) + 1) = false := decide_eq_false (by omega)
  have d2' : decide (1152921504606846975 < l + 1) = false := decide_eq_false (by omega)
  have HIN := Lib.hid hin
  have HLL := Lib.hid HL
  have HD := Lib.hid H
  clear H HL hin hr hK hadv hrec hbl0
  go_enter Try.func29, Try.ntmps29
  go_wp2_with fail
  refine hsec.mono ?_
  rintro e1 w1 ⟨rfl, rfl⟩
  go_wp2_with fail
  refine hfr.mono ?_
  rintro e2 w2 ⟨rfl, hb⟩
  have hL2 := HLL.out.chg (Chg.below hb (fun _ => False)) (fun e => e)
  have hrec := HREC.out w2 (HIN.out.on hb) hL2 (HD.out.on hb)
  have HL2 := Lib.hid hL2
  rw [← HBL.out] at hrec
  have HB := Lib.hid hb
  clear hb hL2
  go_wp2_with fail
  refine hrec.mono ?_
  clear hrec
  rintro e3 w3 h3
  rcases h3 with ⟨rfl, hd3, hc3⟩ | ⟨rfl, hz, S', v', ws', hd3, hh3, hc3, hv3⟩
  · have hL3 := HL2.out.chg hc3 (by rintro (e | e); exact hPD e; exact hPg e)
    have hadv := HADV.out w3 hL3
    rw [← HBL.out] at hadv
    have HX := Lib.hid (show _ ∧ _ from ⟨hd3, hc3⟩)
    clear hd3 hc3 hL3
    go_wp2_with fail
    refine hadv.mono ?_
    rintro e4 w4 ⟨rfl, hL4, hc4⟩
    have HY := Lib.hid (show _ ∧ _ from ⟨hL4, hc4⟩)
    clear hL4 hc4 hadv
    go_wp2
    go_ret
    obtain ⟨c', hd, h1, h2⟩ := HX.out.1
    refine .inl ⟨rfl, ⟨c', hd.chg HY.out.2 (fun e => hPD e.symm) (fun e => hPg e.symm) (fun k hk => by cases hk), h1, h2⟩, ?_, ?_⟩
    · rw [HK.out, ← HBL.out]
      exact HY.out.1
    · exact ((Chg.below HB.out _).trans (HX.out.2.weaken (fun k _ e => .inr e))).trans (HY.out.2.weaken (fun k _ e => .inl e))
  · have hL3 := HL2.out.chg hc3 (by rintro (e | e); exact hPD e; exact hPg e)
    have fz5 := frozen_in hL3 5
    have kk5 := hL3.cells.2.2.2.2.2
    have HX := Lib.hid (show _ ∧ _ ∧ _ ∧ _ from ⟨hd3, hh3, hc3, hv3⟩)
    have HL3 := Lib.hid hL3
    clear hd3 hh3 hc3 hv3 hL3
    go_wp2
    go_ret
    have hc4 := Chg.setCell w3 ⟨P, 5, none⟩ (.bool true)
    refine .inr ⟨rfl, hz, ⟨S', v', ws', HX.out.1.chg hc4 (fun e => hPD e.symm) (fun e => hPg e.symm) (fun k hk e => ?_), HX.out.2.1, fun k hk => ?_⟩, log_set5 HL3.out true, ((Chg.below HB.out _).trans (HX.out.2.2.1.weaken (fun k _ e => .inr e))).trans (hc4.weaken (fun k _ e => .inl e))⟩
    · have h1 := HX.out.2.2.2 k hk
      have h2 := HLL.out.lt
      have h3 := HB.out.size
      have e' : k = P := e
      omega
    · have h1 := HX.out.2.2.2 k hk
      have h3 := HB.out.size
      omega
end Go.Proofs.Ytgcifhhbhoafcaa
