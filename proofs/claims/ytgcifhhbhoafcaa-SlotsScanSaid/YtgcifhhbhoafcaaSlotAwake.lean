/-
  The document's example.
-/
import Derived.Test.YtgcifhhbhoafcaaSlotSt
import Derived.Lib.SlBytesConst
namespace Go.Proofs.Ytgcifhhbhoafcaa
open Go.RowKit Go.Shelf

theorem one_in {w : World} {b : Nat} {x : UInt8} {t : TypeId} {fr : Nat × Nat} (h : w.heap[b]? = some (.cells #[.int .u8 ((x.toNat : Nat) : Int)] t fr)) : InAt w (some ⟨b, 0, none⟩) [x] := fun _ => ⟨_, _, rfl, fun j u hj => by
  rw [cell_in h, ← hj, Nat.zero_add]
  match j with
  | 0 => rfl
  | j + 1 => rfl⟩

set_option maxRecDepth 20000 in
set_option maxHeartbeats 4000000 in
theorem sawake_true (w : World) :
    Calls Try.prog 18 #[] w fun e w' => e = .returned (.bool true) ∧ Below w.heap.size w w' := by
  have hcv := fun (w : World) (C : Array Value) (n c : Nat) => Lib.run_convert_bytes_const (P := Try.prog) w 22 5 C n c Try.underlying22 Try.underlying5
  have hnew := new_any 8 (by decide) (by decide)
  go_enter Try.func18, Try.ntmps18
  go_wp2_with fail
  refine (hnew w).mono ?_
  rintro e w1 ⟨rfl, hd1, hb1⟩
  have HB1 := Lib.hid hb1
  obtain ⟨D, hD⟩ : ∃ D, w.heap.size + 1 = D := ⟨_, rfl⟩
  have hDg : D ≠ w.heap.size := by omega
  rw [hD] at hd1 ⊢
  obtain ⟨g, hg⟩ : ∃ g, w.heap.size = g := ⟨_, rfl⟩
  have HG := Lib.hid hg
  have HDE := Lib.hid hD
  rw [hg] at hd1 hDg
  have hl1 : D < w1.heap.size ∧ g < w1.heap.size := ⟨(Array.getElem?_eq_some_iff.1 hd1.box).1, (Array.getElem?_eq_some_iff.1 hd1.dur).1⟩
  have hop := open_whole D g (zeroS 8) 4 0 none (by decide) (SHold.zero 4 (by decide)) w1 hd1 hDg
  have HL1 := Lib.hid hl1
  clear hnew hd1 hb1 hD hg hl1
  go_wp2_with fail
  refine hop.mono ?_
  clear hop
  rintro e w2 ⟨P, q, cq, rfl, hP, hs2, hh2, hd2, hc2⟩
  obtain ⟨rfl, rfl⟩ := hh2.1 rfl
  have hST : SSt w w2 P D g 4 0 (zeroS 8) none := by
    have h1 := HL1.out
    have h2 := HB1.out.size
    have h3 := HDE.out
    have h4 := HG.out
    exact ⟨hs2, hd2, SHold.zero 4 (by decide), ⟨hDg, by omega, by omega⟩, ⟨by omega, by omega, by omega⟩, hc2.on HB1.out HB1.out.size (fun k e => by rw [e]; omega)⟩
  have HST := Lib.hid hST
  clear hs2 hh2 hd2 hc2 hST
  rw [show entB none none 0 = #[.int .i64 0, .slice none 0 0] from rfl, show (none : Option Ck).isSome = false from rfl]
  have hcv1 : (convert 22 22 (.slice (some ⟨w2.heap.size + 1, 0, none⟩) 1 1)).run Try.prog ((w2.alloc (.cells #[.int .i64 0, .slice none 0 0] 48)).alloc (.cells #[.int .u8 97] 5)) = .ok (.slice (some ⟨w2.heap.size + 1, 0, none⟩) 1 1) ((w2.alloc (.cells #[.int .i64 0, .slice none 0 0] 48)).alloc (.cells #[.int .u8 97] 5 (1, 2))) := by
    have := hcv (w2.alloc (.cells #[.int .i64 0, .slice none 0 0] 48)) #[.int .u8 97] 1 1
    simpa using this
  obtain ⟨w3, hw3⟩ : ∃ w3, (w2.alloc (.cells #[.int .i64 0, .slice none 0 0] 48)).alloc (.cells #[.int .u8 97] 5 (1, 2)) = w3 := ⟨_, rfl⟩
  have hb3 : Below w2.heap.size w2 w3 := by rw [← hw3]; exact bA (bA (Below.refl _ _) _) _
  have hx3 : w3.heap[w2.heap.size + 1]? = some (.cells #[.int .u8 97] 5 (1, 2)) := by
    rw [← hw3]
    have := heap_new (w2.alloc (.cells #[.int .i64 0, .slice none 0 0] 48)) (.cells #[.int .u8 97] 5 (1, 2))
    simpa using this
  have hsv := (HST.out.on hb3).save (by decide) (by decide) 5 (by decide) (some ⟨w2.heap.size + 1, 0, none⟩) 1 [97] (by decide) (by decide) (by decide) (by decide) (one_in hx3) (fun b o e _ => by
    cases e
    have h1 := HST.out.disk
    have h2 : D < w2.heap.size := (Array.getElem?_eq_some_iff.1 h1.box).1
    have h3 : g < w2.heap.size := (Array.getElem?_eq_some_iff.1 h1.dur).1
    omega)
  rw [hw3] at hcv1
  clear hb3 hx3
  go_wp2_with fail
  first | rw [hw3] | skip
  clear hw3 hcv1
  refine hsv.mono ?_
  clear hsv
  rintro e w4 ⟨rfl, hst4, _⟩
  obtain ⟨w5, hw5⟩ : ∃ w5, w4.alloc (.cells #[.int .u8 98] 5 (1, 2)) = w5 := ⟨_, rfl⟩
  have hb5 : Below w4.heap.size w4 w5 := by rw [← hw5]; exact bA (Below.refl _ _) _
  have hx5 : w5.heap[w4.heap.size]? = some (.cells #[.int .u8 98] 5 (1, 2)) := by rw [← hw5]; exact heap_new w4 _
  have hsv := (hst4.on hb5).save (by decide) (by decide) 6 (by decide) (some ⟨w4.heap.size, 0, none⟩) 1 [98] (by decide) (by decide) (by decide) (by decide) (one_in hx5) (fun b o e _ => by
    cases e
    have h1 := hst4.disk
    have h2 : D < w4.heap.size := (Array.getElem?_eq_some_iff.1 h1.box).1
    have h3 : g < w4.heap.size := (Array.getElem?_eq_some_iff.1 h1.dur).1
    omega)
  clear hb5 hx5 hst4
  go_wp2_with fail
  first | rw [hw5] | skip
  clear hw5
  refine hsv.mono ?_
  clear hsv
  rintro e w6 ⟨rfl, hst6, _⟩
  obtain ⟨S2, hS2⟩ : ∃ S2, putS (putS (zeroS 8) ((0 + 1) % 2 * 4) (hdrS (0 + 1) 5 [97] :: padS [97])) ((0 + 1 + 1) % 2 * 4) (hdrS (0 + 1 + 1) 6 [98] :: padS [98]) = S2 := ⟨_, rfl⟩
  have hst6' : SSt w w6 P D g 4 2 S2 (some ⟨2, 6, [98]⟩) := by rw [← hS2]; exact hst6
  have HST6 := Lib.hid hst6'
  clear hst6 hst6' hS2
  have hgen := sgen_any P D 0 4 2 false w6 HST6.out.sl
  go_wp2_with fail
  refine hgen.mono ?_
  rintro e w7 ⟨rfl, rfl⟩
  have hcr := crash_any D g S2 (.slice none 0 0) [] (by simp) none 0 [] (by simp) (-1) w6 HST6.out.disk hDg (fun j hj => by simp at hj)
  clear hgen
  go_wp2_with fail
  refine hcr.mono ?_
  clear hcr
  rintro e w7 ⟨rfl, hd7, hc7⟩
  have hd7' : DiskAt w7 D g S2 (.slice none 0 0) [] (-1) := hd7
  have hop := open_whole D g S2 4 2 (some ⟨2, 6, [98]⟩) (by decide) HST6.out.hold w7 hd7' hDg
  have hb7 : Below w.heap.size w w7 := hc7.on HST6.out.below HST6.out.below.size (fun k e => by have := HST6.out.base; rcases e with e | e <;> omega)
  have HB7 := Lib.hid hb7
  clear hd7 hd7' hc7 hb7
  go_wp2_with fail
  refine hop.mono ?_
  clear hop
  rintro e w8 ⟨P2, q2, cq2, rfl, hP2, hs8, hh8, hd8, hc8⟩
  have hin8 : InAt w8 q2 [98] := (hh8.2 _ rfl).1
  have hb8 : Below w.heap.size w w8 := hc8.on HB7.out HB7.out.size (fun k e => by have := HST6.out.base; omega)
  have HB8 := Lib.hid hb8
  clear hs8 hh8 hd8 hc8 hb8
  rw [show entB (some ⟨2, 6, [98]⟩) q2 cq2 = #[.int .i64 6, .slice q2 1 cq2] from rfl, show (some (⟨2, 6, [98]⟩ : Ck)).isSome = true from rfl]
  have hcv2 : (convert 22 22 (.slice (some ⟨w8.heap.size + 1, 0, none⟩) 1 1)).run Try.prog ((w8.alloc (.cells #[.int .i64 6, .slice q2 1 cq2] 48)).alloc (.cells #[.int .u8 98] 5)) = .ok (.slice (some ⟨w8.heap.size + 1, 0, none⟩) 1 1) ((w8.alloc (.cells #[.int .i64 6, .slice q2 1 cq2] 48)).alloc (.cells #[.int .u8 98] 5 (1, 2))) := by
    have := hcv (w8.alloc (.cells #[.int .i64 6, .slice q2 1 cq2] 48)) #[.int .u8 98] 1 1
    simpa using this
  obtain ⟨w9, hw9⟩ : ∃ w9, (w8.alloc (.cells #[.int .i64 6, .slice q2 1 cq2] 48)).alloc (.cells #[.int .u8 98] 5 (1, 2)) = w9 := ⟨_, rfl⟩
  have hb9 : Below w8.heap.size w8 w9 := by rw [← hw9]; exact bA (bA (Below.refl _ _) _) _
  have hx9 : w9.heap[w8.heap.size + 1]? = some (.cells #[.int .u8 98] 5 (1, 2)) := by
    rw [← hw9]
    have := heap_new (w8.alloc (.cells #[.int .i64 6, .slice q2 1 cq2] 48)) (.cells #[.int .u8 98] 5 (1, 2))
    simpa using this
  have hsm := esame_any 6 6 [98] [98] q2 (some ⟨w8.heap.size + 1, 0, none⟩) cq2 1 w9 (hin8.on hb9) (one_in hx9)
  rw [show (decide ((6 : Int) = 6) && decide (([98] : List UInt8) = [98])) = true from rfl] at hsm
  rw [hw9] at hcv2
  have HB9 := Lib.hid hb9
  clear hb9 hx9 hin8 hcv
  go_wp2_with fail
  first | rw [hw9] | skip
  clear hw9 hcv2
  refine hsm.mono ?_
  rintro e w10 ⟨rfl, hb10⟩
  have HB10 := Lib.hid hb10
  clear hb10 hsm
  go_wp2
  go_ret
  exact ⟨rfl, HB8.out.trans ((bT HB9.out HB10.out).mono HB8.out.size)⟩
end Go.Proofs.Ytgcifhhbhoafcaa
