/-
  What resp.Write answers: the encodings of the right replies, one behind the other.
-/
import Derived.Test.YtkcapbjmhimceaaDoorRespEnc5
namespace Go.Proofs.YtkcapbjmhimceaaDoor
open Go.RowKit Rp

/-- The encodings of those that are right. -/
def written : List Rep → List UInt8
  | [] => []
  | r :: rs => (if right 4 r = true then enc r else []) ++ written rs
theorem written_append : ∀ (a b : List Rep), written (a ++ b) = written a ++ written b
  | [], b => by simp [written]
  | r :: rs, b => by simp [written, written_append rs b]
theorem written_next (l : List Rep) (j : Nat) (h : j < l.length) : written (l.take (j + 1)) = written (l.take j) ++ (if right 4 l[j] = true then enc l[j] else []) := by
  rw [List.take_succ_eq_append_getElem h, written_append]
  simp [written]
theorem written_le (l : List Rep) (j : Nat) (h : j < l.length) (hr : right 4 l[j] = true) : (written (l.take j)).length + (enc l[j]).length ≤ (written l).length := by
  have h1 : written l = written (l.take (j + 1)) ++ written (l.drop (j + 1)) := by rw [← written_append, List.take_append_drop]
  rw [h1, written_next l j h, if_pos hr, List.length_append, List.length_append]
  omega

/-- A slice's replies. -/
def SliceIn (w : World) (l : List Rep) (p : Option Addr) : Prop := l = [] ∨ ∃ b o, p = some ⟨b, o, none⟩ ∧ RowIn w l b o
theorem SliceIn.at_ {w : World} {l : List Rep} {p : Option Addr} (h : SliceIn w l p) (j : Nat) (hj : j < l.length) : ∃ b o q d, p = some ⟨b, o, none⟩ ∧ CellsAt w b (o + j * 4) l[j] q d ∧ RepIn w l[j] q d := by
  rcases h with rfl | ⟨b, o, hp, hr⟩
  · simp at hj
  · obtain ⟨q, d, h1, h2⟩ := row_at hr j hj
    exact ⟨b, o, q, d, hp, h1, h2⟩

theorem row_mono {w : World} {B B' : Nat} {e : TypeId} {size : Nat} {v : Value} {n : Nat} {xs : List Value} (h : w.ownsRow B e size v n xs) (hb : B' ≤ B) : w.ownsRow B' e size v n xs := by
  refine ⟨h.1, h.2.imp id ?_⟩
  rintro ⟨g, cap, cur, hv, hg, r⟩
  exact ⟨g, cap, cur, hv, Nat.le_trans hb hg, r⟩

/-- Bytes in new memory. -/
def Fresh (w : World) (ys : List UInt8) (e : Ending) (w' : World) : Prop := ∃ v', e = .returned v' ∧ w'.ownsRow w.heap.size 5 1 v' ys.length (sCells ys) ∧ Below w.heap.size w w'

set_option maxRecDepth 20000 in
set_option maxHeartbeats 2000000 in
theorem write_any (l : List Rep) (p : Option Addr) (c : Nat) (w : World) (h : SliceIn w l p) (hs : ShortL l) (hT : Tens w) (hl : l.length ≤ 1099511627776) (hlen : (written l).length ≤ 1099511627776) :
    Calls Tryd.prog 17 #[.slice p l.length c] w (Fresh w (written l)) := by
  have eg := enters_of Tryd.func30 (by kernel_rfl) rfl
  have H := Lib.hid h
  have HS := Lib.hid hs
  clear h hs
  obtain ⟨n, hn⟩ : ∃ n : Nat, n = l.length := ⟨_, rfl⟩
  rw [← hn] at hl ⊢
  have HNL := Lib.hid hn
  clear hn
  have hO0 : Out w.heap.size (.slice none 0 0) [] (w.alloc (.cells #[.slice none 0 0] 22)) := ⟨heap_alloc_new w _, World.ownsRow_nil _ _ _ _⟩
  go_enter Tryd.func17, Tryd.ntmps17
  go_wp2
  go_loopw [6, 10] (fun _ i wr => ∃ (j : Nat) (u : Value) (X : List UInt8), j ≤ n ∧ i = .int .i64 j ∧ Hid (X = written (l.take j)) ∧ Out w.heap.size u X wr ∧ Wrote w.heap.size (w.alloc (.cells #[.slice none 0 0] 22)) wr) (fun _ i _ => n - (intOf i).toNat)
  case atStart => exact ⟨0, _, [], Nat.zero_le _, rfl, Lib.hid (by simp [written]), hO0, Wrote.refl _ _⟩
  case round =>
    clear hO0
    obtain ⟨j, u, X, hj, rfl, HX, hO2, hW⟩ := hrel
    have hsin : Below w.heap.size w wr := ((Below.refl _ w).alloc (Nat.le_refl _) _).trans (hW.ahead (by simp))
    by_cases hjl : j < n
    · have hd1 : decide ((j : Int) < (n : Int)) = true := decide_eq_true (by omega)
      have hja : j < l.length := by have := HNL.out; omega
      have HNX := Lib.hid (written_next l j hja)
      obtain ⟨b, o, q, e, rfl, hc, hi⟩ := H.out.at_ j hja
      obtain ⟨e0, e1, e2, e3⟩ := hc.below hsin
      have hR : ∀ W, Below wr.heap.size wr W → _ := fun W hb => right_any l[j] q e W (RepIn.below (hsin.trans (hb.mono hsin.size)) _ hi) (short_mem HS.out _ (List.getElem_mem hja))
      cases hrt : right 4 l[j]
      · rw [hrt] at hR
        rw [hrt, if_neg (by decide)] at HNX
        clear hi hc hrt
        generalize l[j] = x at *
        unfold repCs at hR
        have HR := Lib.hid hR
        clear hR hja
        go_wp2_with fail
        refine (HR.out _ (bA (Below.refl _ _) _)).mono ?_
        rintro e' w3 ⟨rfl, hb3⟩
        have hb4 := bT (bA (Below.refl wr.heap.size wr) _) hb3
        clear e0 e1 e2 e3
        go_wp2
        go_roundw
        case rel => exact ⟨j + 1, u, X, by omega, by go_num, Lib.hid (by rw [HNX.out, HX.out, List.append_nil]), hO2.below hb4, hW.below hb4⟩
        case measure => simp [intOf]; omega
      · have hle := written_le l j hja hrt
        have hXl : X.length = (written (l.take j)).length := by rw [HX.out]
        have hE : ∀ W, Below wr.heap.size wr W → _ := fun W hb => enc_any l[j] 4 q e w W w.heap.size u X hi (hsin.trans (hb.mono hsin.size)) (Nat.le_refl _) hT hrt (hO2.below hb) (by omega)
        rw [hrt] at hR
        rw [hrt, if_pos rfl] at HNX
        clear hi hc hrt hle hXl hO2
        generalize l[j] = x at *
        unfold repCs at hR hE
        generalize enc x = ex at *
        have HR := Lib.hid hR
        have HE := Lib.hid hE
        clear hR hE hja
        have cbox : ∀ W, Below (wr.alloc (.cells #[.int .i64 x.kind, .string (bs x.str), .int .i64 x.num, .slice q x.kids.length e] 26)).heap.size (wr.alloc (.cells #[.int .i64 x.kind, .string (bs x.str), .int .i64 x.num, .slice q x.kids.length e] 26)) W → W.heap[wr.heap.size]? = some (.cells #[.int .i64 x.kind, .string (bs x.str), .int .i64 x.num, .slice q x.kids.length e] 26 (0, 0)) := fun W hb => (hb.block _ (by simp)).trans (heap_alloc_new wr _)
        have CB := Lib.hid cbox
        clear cbox
        go_wp2_with fail
        refine (HR.out _ (bA (Below.refl _ _) _)).mono ?_
        rintro e' w3 ⟨rfl, hb3⟩
        have hb4 := bT (bA (Below.refl wr.heap.size wr) _) hb3
        have hbx := CB.out w3 hb3
        have b0 : w3.cell? ⟨wr.heap.size, 0, none⟩ = some (.int .i64 x.kind) := by rw [Lib.cell_of_heap hbx]; rfl
        have b1 : w3.cell? ⟨wr.heap.size, 1, none⟩ = some (.string (bs x.str)) := by rw [Lib.cell_of_heap hbx]; rfl
        have b2 : w3.cell? ⟨wr.heap.size, 2, none⟩ = some (.int .i64 x.num) := by rw [Lib.cell_of_heap hbx]; rfl
        have b3 : w3.cell? ⟨wr.heap.size, 3, none⟩ = some (.slice q x.kids.length e) := by rw [Lib.cell_of_heap hbx]; rfl
        clear hbx e0 e1 e2 e3
        go_wp2_with fail
        refine (HE.out _ hb4).mono ?_
        rintro e' w5 ⟨rfl, u', hO5, hW5⟩
        have HO5 := Lib.hid hO5
        have HW5 := Lib.hid ((hW.below hb4).trans hW5)
        clear hO5 hW5 b0 b1 b2 b3
        go_wp2
        go_roundw
        case rel => exact ⟨j + 1, u', X ++ ex, by omega, by go_num, Lib.hid (by rw [HNX.out, HX.out]), HO5.out, HW5.out⟩
        case measure => simp [intOf]; omega
    · have hd1 : decide ((j : Int) < (n : Int)) = false := decide_eq_false (by omega)
      have hE : X = written l := by rw [HX.out, List.take_of_length_le (by have := HNL.out; omega)]
      have cB : wr.cell? ⟨w.heap.size, 0, none⟩ = some u := by rw [Lib.cell_of_heap hO2.var]; rfl
      have hrow := row_mono hO2.row (Nat.le_succ w.heap.size)
      obtain ⟨ua, um, uc, rfl⟩ := row_slice hrow
      rw [hE] at hrow
      have HRW := Lib.hid hrow
      clear hE hrow hO2
      go_wp2
      go_ret
      exact ⟨_, rfl, HRW.out, hsin⟩
end Go.Proofs.YtkcapbjmhimceaaDoor
