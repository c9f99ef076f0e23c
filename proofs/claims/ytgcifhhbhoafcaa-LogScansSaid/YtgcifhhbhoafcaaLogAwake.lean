/-
  The document's example.
-/
import Derived.Test.YtgcifhhbhoafcaaLogOpen
import Derived.Test.YtgcifhhbhoafcaaLogSame
import Derived.Test.YtgcifhhbhoafcaaLogHold
import Derived.Lib.SlBytesConst
namespace Go.Proofs.Ytgcifhhbhoafcaa
open Go.RowKit Go.Shelf

theorem scan_ex1 : scan 6 (partS (doneS (zeroS 6) []) 1 5) 0 = [] := by
  have h : partS (doneS (zeroS 6) []) 1 5 = zeroS 5 := by simp [doneS, partS, zeroS]
  rw [h]
  exact (Holds.zero 5 0 (by decide)).scan
def ab : List UInt8 := [97, 98]
theorem hold_ab : Holds (putS (zeroS 5) 0 (hdr 1 ab :: packed ab)) 0 [ab] := by
  have h := (Holds.zero 5 0 (by decide)).put ab (by decide) (by decide)
  exact h
theorem scan_ab : scan (5 + 1) (putS (zeroS 5) 0 (hdr 1 ab :: packed ab)) 0 = [ab] := by
  have h := hold_ab.scan
  rwa [show (putS (zeroS 5) 0 (hdr 1 ab :: packed ab)).length = 5 from putS_len (by decide)] at h
theorem part_ab : partS (doneS (putS (zeroS 6) (1 + 0) (hdr (0 + 1) ab :: packed ab)) []) 1 5 = putS (zeroS 5) 0 (hdr 1 ab :: packed ab) := by
  have h2 : (packed ab).length = 1 := rfl
  have e : (hdr (0 + 1) ab :: packed ab).length = 2 := by rw [List.length_cons, h2]
  unfold putS partS doneS
  rw [e]
  simp only [List.foldl_nil]
  rw [show List.take (1 + 0) (zeroS 6) = [List.replicate 64 0] from rfl, List.append_assoc]
  show List.take 5 ((hdr (0 + 1) ab :: packed ab) ++ List.drop (1 + 0 + 2) (zeroS 6)) = _
  rw [show List.drop (1 + 0 + 2) (zeroS 6) = zeroS 3 from rfl, show List.take 0 (zeroS 5) = [] from rfl, List.nil_append]
  exact List.take_of_length_le (by rw [List.length_append, e]; decide)

theorem row_of_owns {w : World} {lo : Nat} {v : Value} {E : List Ent} (h : w.ownsRow lo 48 2 v E.length (eCells E)) (hx : ∀ x ∈ E, InAt w x.p x.body) : ∃ p c, v = .slice p E.length c ∧ EntRow w p E := by
  rcases h.2 with ⟨rfl, h0⟩ | ⟨gr, cap, cur, rfl, hb, hg, hn, hm, hs, ht⟩
  · exact ⟨none, 0, by rw [h0], fun hh => by omega, hx⟩
  · refine ⟨_, _, rfl, fun _ => ⟨gr, 0, rfl, fun j u hj => ?_⟩, hx⟩
    rw [Nat.zero_add, cell_in hg, ← Array.getElem?_toList]
    have hl := (List.getElem?_eq_some_iff.1 hj).1
    rw [← ht] at hj
    rwa [List.getElem?_take_of_lt (by
      have h2 := hl
      rw [← ht, List.length_take] at h2
      omega)] at hj
theorem EntNew.in {w : World} {lo : Nat} {x : Ent} (h : EntNew w lo x) : InAt w x.p x.body := by
  obtain ⟨g, h1, h2, h3, h4⟩ := h
  rw [h1]
  exact fun _ => ⟨g, 0, rfl, in_block h4⟩
theorem Opened.rowed {w w' : World} {P D f N : Nat} {Bs : List Sec} {after : Nat} {v : Value} {E : List Ent} (h : Opened w w' P D f N Bs after v E) : ∃ p c, v = .slice p E.length c ∧ EntRow w' p E := row_of_owns h.row (fun x hx => (h.ents x hx).in)

set_option maxRecDepth 20000 in
set_option maxHeartbeats 4000000 in
theorem awake_true (w : World) :
    Calls Try.prog 7 #[] w fun e w' => e = .returned (.bool true) ∧ Below w.heap.size w w' := by
  have hnew := new_any 6 (by decide) (by decide)
  have hcv := fun (w : World) (C : Array Value) (n c : Nat) => Lib.run_convert_bytes_const (P := Try.prog) w 22 5 C n c Try.underlying22 Try.underlying5
  go_enter Try.func7, Try.ntmps7
  go_wp2_with fail
  refine (hnew w).mono ?_
  rintro e w1 ⟨rfl, hd1, hb1⟩
  have HB1 := Lib.hid hb1
  obtain ⟨D, hD⟩ : ∃ D, w.heap.size + 1 = D := ⟨_, rfl⟩
  have hDg : D ≠ w.heap.size := by omega
  rw [hD] at hd1 ⊢
  have hDl : D < w1.heap.size := (Array.getElem?_eq_some_iff.1 hd1.box).1
  obtain ⟨g, hg⟩ : ∃ g, w.heap.size = g := ⟨_, rfl⟩
  have HG := Lib.hid hg
  have HDE := Lib.hid hD
  rw [hg] at hd1 hDg
  have hgl : g < w1.heap.size := (Array.getElem?_eq_some_iff.1 hd1.dur).1
  have hop := open_any D g (zeroS 6) (.slice none 0 0) [] (-1) (by decide) (by decide) (by simp) 1 5 0 (by decide) (by decide) (by decide) (by decide) w1 hd1 hDg
  clear hnew hd1 hb1 hD hg
  go_wp2_with fail
  refine hop.mono ?_
  clear hop
  rintro e w2 ⟨P, v, E, rfl, hP, hO, hd2, hc2⟩
  have hE : E = [] := by
    have := hO.bodies
    rw [scan_ex1] at this
    simpa using this
  subst hE
  have hv : ∃ q c, v = .slice q 0 c := by
    rcases hO.row.2 with ⟨h, _⟩ | ⟨gr, cap, cur, h, _⟩
    · exact ⟨none, 0, h⟩
    · exact ⟨_, _, h⟩
  obtain ⟨q, cq, rfl⟩ := hv
  have hlog : LogAt w2 P D 1 5 0 0 false := hO.log
  have hd2' : DiskAt w2 D g (zeroS 6) (.slice none 0 0) [] (-1) := hd2
  have hs1 := HB1.out.size
  have hs12 := hc2.size
  have HL2 := Lib.hid hlog
  have HD2 := Lib.hid hd2'
  have HC2 := Lib.hid hc2
  clear hO hlog hd2 hd2' hc2
  have hin : InAt (w2.alloc (.cells #[.int .u8 97, .int .u8 98] 5 (2, 3))) (some ⟨w2.heap.size, 0, none⟩) ab := fun _ => ⟨_, _, rfl, fun j u hj => by
    rw [cell_in (heap_new w2 _)]
    rw [← hj, Nat.zero_add]
    match j with
    | 0 => rfl
    | 1 => rfl
    | j + 2 => rfl⟩
  have hb2 : Below w2.heap.size w2 (w2.alloc (.cells #[.int .u8 97, .int .u8 98] 5 (2, 3))) := bA (Below.refl _ _) _
  have hap := append_fits P D 1 5 0 0 g (zeroS 6) (-1) (by decide) (by decide) (some ⟨w2.heap.size, 0, none⟩) 2 ab (by decide) (by decide) (by decide) (by decide) (by decide) _ hin (fun b o e _ => by cases e; omega) (HL2.out.chg (Chg.below hb2 (fun _ => False)) (fun e => e)) (HD2.out.on hb2) hDg (by omega) (by omega)
  have HB2 := Lib.hid hb2
  clear hin hb2
  go_wp2_with fail
  refine hap.mono ?_
  clear hap
  rintro e w3 (⟨rfl, ⟨c', hd3, hc', _⟩, hl3, hc3⟩ | ⟨_, h0, _⟩)
  case inr => omega
  obtain rfl := hc' (by decide)
  have hl3' : LogAt w3 P D 1 5 2 1 false := hl3
  have harg := append_arg P D 1 5 2 1 3 (by decide) (by decide) none 0 0 w3 hl3'
  have HD3 := Lib.hid hd3
  have HC3 := Lib.hid hc3
  clear hd3 hc3 hl3 hl3' hc'
  go_wp2_with fail
  refine harg.mono ?_
  rintro e w4 ⟨rfl, rfl⟩
  have hcr := crash_any D g _ (.slice none 0 0) [] (by simp) none 0 [] (by simp) (-1) w3 HD3.out hDg (fun j hj => by simp at hj)
  clear harg
  go_wp2_with fail
  refine hcr.mono ?_
  rintro e w4 ⟨rfl, hd4, hc4⟩
  have hd4' : DiskAt w4 D g (putS (zeroS 6) (1 + 0) (hdr (0 + 1) ab :: packed ab)) (.slice none 0 0) [] (-1) := hd4
  have hop := open_any D g _ (.slice none 0 0) [] (-1) (by decide) (by decide) (by simp) 1 5 0 (by decide) (by rw [putS_len (by decide)]; decide) (by decide) (by decide) w4 hd4' hDg
  rw [part_ab] at hop
  have HC4 := Lib.hid hc4
  clear hd4 hd4' hc4 hcr
  go_wp2_with fail
  refine hop.mono ?_
  clear hop
  rintro e w5 ⟨P2, v2, E2, rfl, hP2, hO2, hd5, hc5⟩
  have HO2 := Lib.hid hO2
  have HC5 := Lib.hid hc5
  have hlen2 : E2.length = 1 := by
    have := congrArg List.length hO2.bodies
    rw [scan_ab] at this
    simpa using this
  clear hO2 hc5 hd5
  obtain ⟨p2, c2, rfl, hrow2⟩ := HO2.out.rowed
  rw [hlen2]
  obtain ⟨x2, rfl⟩ : ∃ x2, E2 = [x2] := by
    match E2, hlen2 with
    | [x2], _ => exact ⟨x2, rfl⟩
  have hst2 : x2.st = 1 := HO2.out.st 0 (by simp)
  have hbo2 : x2.body = ab := by
    have h := HO2.out.bodies
    rw [scan_ab] at h
    simpa using h
  have HROW2 := Lib.hid hrow2
  have hb6 : Below w5.heap.size w5 ((w5.alloc (.cells #[.int .u8 97, .int .u8 98] 5 (2, 3))).alloc (.cells #[.int .i64 1, .slice (some ⟨w5.heap.size, 0, none⟩) 2 2] 48)) := bA (bA (Below.refl _ _) _) _
  have hin6 : InAt ((w5.alloc (.cells #[.int .u8 97, .int .u8 98] 5 (2, 3))).alloc (.cells #[.int .i64 1, .slice (some ⟨w5.heap.size, 0, none⟩) 2 2] 48)) (some ⟨w5.heap.size, 0, none⟩) ab := fun _ => ⟨_, _, rfl, fun j u hj => by
    rw [cell_in ((Below.heap_alloc _ _ _ (by simp)).trans (heap_new w5 _)), ← hj, Nat.zero_add]
    match j with
    | 0 => rfl
    | 1 => rfl
    | j + 2 => rfl⟩
  have hrw6 : EntRow ((w5.alloc (.cells #[.int .u8 97, .int .u8 98] 5 (2, 3))).alloc (.cells #[.int .i64 1, .slice (some ⟨w5.heap.size, 0, none⟩) 2 2] 48)) (some ⟨w5.heap.size + 1, 0, none⟩) [⟨1, some ⟨w5.heap.size, 0, none⟩, 2, ab⟩] := ⟨fun _ => ⟨_, _, rfl, fun j u hj => by
    have h := heap_new (w5.alloc (.cells #[.int .u8 97, .int .u8 98] 5 (2, 3))) (.cells #[.int .i64 1, .slice (some ⟨w5.heap.size, 0, none⟩) 2 2] 48)
    rw [World.size_alloc] at h
    rw [cell_in h, ← hj, Nat.zero_add]
    match j with
    | 0 => rfl
    | 1 => rfl
    | j + 2 => rfl⟩, fun x hx => by rw [List.mem_singleton.1 hx]; exact hin6⟩
  have hsame := same_true p2 (some ⟨w5.heap.size + 1, 0, none⟩) 1 c2 1 [x2] [⟨1, some ⟨w5.heap.size, 0, none⟩, 2, ab⟩] (by decide) rfl ⟨rfl, fun i h h' => by
    obtain rfl : i = 0 := by simpa using h
    exact ⟨hst2, hbo2⟩⟩ _ (hrow2.on hb6) hrw6
  have HB6 := Lib.hid hb6
  clear hin6 hrw6 hb6 hst2 hbo2 hrow2
  go_wp2_with fail
  refine hsame.mono ?_
  rintro e w6 ⟨rfl, hb7⟩
  have HB7 := Lib.hid hb7
  clear hb7 hsame
  go_wp2_with fail
  refine (sectors_any 2 (by decide) w6).mono ?_
  rintro e w7 ⟨rfl, rfl⟩
  go_wp2
  go_ret
  refine ⟨rfl, ?_⟩
  have e1 : Below w.heap.size w w2 := HC2.out.on HB1.out hs1 (fun k hk => by have := HDE.out; omega)
  have e3 : Below w.heap.size w w3 := HC3.out.on (e1.trans (HB2.out.mono (by omega))) (by have := HB2.out.size; omega) (fun k hk => by have := HDE.out; have := HG.out; omega)
  have e3s := e3.size
  have e4 : Below w.heap.size w w4 := HC4.out.on e3 e3s (fun k hk => by have := HDE.out; have := HG.out; omega)
  have e5 : Below w.heap.size w w5 := HC5.out.on e4 e4.size (fun k hk => by have := HDE.out; omega)
  exact (e5.trans (HB6.out.mono e5.size)).trans (HB7.out.mono (by have := e5.size; have := HB6.out.size; omega))
end Go.Proofs.Ytgcifhhbhoafcaa
