/-
  What CrcApart answers: true.
-/
import Derived.Test.YtehdbnjkgdfgbaaCrcTurnsWalk
import Derived.Deep.RegionHeld3
namespace Go.Proofs.Ytehdbnjkgdfgbaa
open Go.RowKit

set_option maxHeartbeats 1000000 in
theorem apart_off (p : Option Addr) (n c : Nat) (at_ : Int) (hn : n < 4 ∨ 1000 < n) (x y z u : Nat) (w : World) :
    Calls Try.prog 6 #[.slice p n c, .int .i64 at_, .agg #[.int .u8 x, .int .u8 y, .int .u8 z, .int .u8 u]] w fun e w' => e = .returned (.bool true) ∧ Below w.heap.size w w' := by
  rcases hn with hn | hn
  · have hd : decide ((n : Int) < 4) = true := decide_eq_true (by omega)
    go_enter Try.func6, Try.ntmps6
    go_wp2_with fail
    refine (awake_true _).mono ?_
    rintro e w1 ⟨rfl, hb1⟩
    go_wp2_with fail
    refine (awake_true _).mono ?_
    rintro e w2 ⟨rfl, hb2⟩
    go_wp2
    go_ret
    exact ⟨rfl, (((Below.refl _ w).alloc (Nat.le_refl _) _).trans (hb1.mono (by simp))).trans (hb2.mono (by have := hb1.size; simp at this; omega))⟩
  · have hd : decide ((n : Int) > 1000) = true := decide_eq_true (by omega)
    have hd' : decide ((1000 : Int) < n) = true := decide_eq_true (by omega)
    have hd4 : decide ((n : Int) < 4) = false := decide_eq_false (by omega)
    go_enter Try.func6, Try.ntmps6
    go_wp2_with fail
    refine (awake_true _).mono ?_
    rintro e w1 ⟨rfl, hb1⟩
    go_wp2_with fail
    refine (awake_true _).mono ?_
    rintro e w2 ⟨rfl, hb2⟩
    go_wp2
    go_ret
    exact ⟨rfl, (((Below.refl _ w).alloc (Nat.le_refl _) _).trans (hb1.mono (by simp))).trans (hb2.mono (by have := hb1.size; simp at this; omega))⟩

theorem bD {a w : World} (h : Below a.heap.size a w) : Below a.heap.size a w.drew := h.drew
theorem bA {a w : World} (h : Below a.heap.size a w) (o : Obj) : Below a.heap.size a (w.alloc o) := h.alloc h.size o
theorem bT {a w w' : World} (h : Below a.heap.size a w) (hb : Below w.heap.size w w') : Below a.heap.size a w' := h.trans (hb.mono h.size)

theorem cHere (w : World) (v : Value) (T : TypeId) (k : Nat) (h : k = w.heap.size) : (w.alloc (.cells #[v] T)).cell? ⟨k, 0, none⟩ = some v := (Lib.cell_of_heap (heap_alloc_new' w _ k h) 0).trans rfl
theorem cOld {w : World} {o : Obj} {a : Addr} {v : Value} (h : w.cell? a = some v) : (w.alloc o).cell? a = some v := Lib.cell?_alloc_some _ h
theorem cDrew {w : World} {a : Addr} {v : Value} (h : w.cell? a = some v) : w.drew.cell? a = some v := h
theorem cKept {w w' : World} {a : Addr} {v : Value} (hb : Below w.heap.size w w') (h : w.cell? a = some v) : w'.cell? a = some v := (hb.cell (World.block_lt_of_cell? w _ h)).trans h

/-- An altered byte is a byte. -/
theorem second_byte (a b : Nat) (_ : a < 256) (hb : b < 256) : (fun (_ w : Nat) => w) a b < 256 := hb

set_option maxHeartbeats 1000000 in
theorem apart_on (l : List Nat) (ho : Crc.Octets l) (n : Nat) (hln : n + 4 = l.length) (hl : n + 4 ≤ 1000) (p : Option Addr) (c : Nat) (at_ : Int) (x y z u : Nat) (hw : Crc.Octets [x, y, z, u]) (w : World) (h : BytesIn w p c l) :
    Calls Try.prog 6 #[.slice p (n + 4) c, .int .i64 at_, .agg #[.int .u8 x, .int .u8 y, .int .u8 z, .int .u8 u]] w fun e w' => e = .returned (.bool true) ∧ Below w.heap.size w w' := by
  have HN := Lib.hid hln
  clear hln
  have hd : decide ((n : Int) + 4 > 1000) = false := decide_eq_false (by omega)
  have hd' : decide ((1000 : Int) < (n : Int) + 4) = false := decide_eq_false (by omega)
  have hd4 : decide ((n : Int) + 4 < 4) = false := decide_eq_false (by omega)
  go_enter Try.func6, Try.ntmps6
  go_wp2_with fail
  refine (awake_true _).mono ?_
  rintro e w1 ⟨rfl, hb1⟩
  have hbox1 : w1.heap[w.heap.size]? = some (.cells #[.int .u8 x, .int .u8 y, .int .u8 z, .int .u8 u] 33 (0, 0)) := (hb1.block _ (by simp)).trans (heap_alloc_new _ _)
  have hB1 : Below w.heap.size w w1 := ((Below.refl _ w).alloc (Nat.le_refl _) _).trans (hb1.mono (by simp))
  have hin1 := h.below hB1
  have hs1 := hB1.size
  have hsz : w.heap.size < w1.heap.size := by have := hb1.size; simp at this; omega
  go_wp2_with (at_builtin; refine append_bytes rfl (.tmp 23) (.tmp 24) rfl w1.heap.size _ _ _ rfl (World.ownsRow_made w1 #[] 0 (Nat.le_refl _) (Nat.zero_le _) rfl) p (n + 4) c l rfl HN.out.symm (hin1.below ((Below.refl _ w1).alloc (Nat.le_refl _) _)) (by omega) (by simp) ?_)
  intro v2 w2 hown2 hgrow hnil
  clear hnil
  have hB21 : Below w1.heap.size w1 w2 := ((Below.refl _ w1).alloc (Nat.le_refl _) _).grown hgrow (by simp) (by intro k hk; cases hk; exact Nat.le_refl _)
  have hB2 : Below w.heap.size w w2 := hB1.trans (hB21.mono hs1)
  have hbox2 : w2.heap[w.heap.size]? = some (.cells #[.int .u8 x, .int .u8 y, .int .u8 z, .int .u8 u] 33 (0, 0)) := (hB21.block _ hsz).trans hbox1
  obtain ⟨g, cap, rfl, hgb, hgl, hgc⟩ := owned_pos hown2 (by omega)
  clear hgrow
  obtain ⟨M, hM⟩ : ∃ M, M = at_.tmod ((n : Int) + 1) := ⟨_, rfl⟩
  have hMb := tmod_bound at_ n
  rw [← hM] at hMb
  obtain ⟨hM1, hM2⟩ := hMb
  have hM' : at_.tmod ((n : Int) + 1) = M := hM.symm
  clear hM
  have e3 : (n : Int) + 4 - 3 = (n : Int) + 1 := by omega
  obtain ⟨K, hK, hKn⟩ := place_nat M n hM1
  have hKi : (M + ((n : Int) + 4) - 3).tmod ((n : Int) + 1) = (K : Int) := by rw [← hK]; congr 1; omega
  clear hK
  have HT := Lib.hid (Crc.apart l ho K (by have := HN.out; omega) x y z u hw)
  clear hb1 hin1 hB1 hbox1 hB21
  go_wp2
  have HA := Lib.hid (And.intro hM' (And.intro hKi e3))
  clear hM' hKi e3
  obtain ⟨F, F0, FS, FL, FO, F4⟩ := altF (fun _ w => w) second_byte K [x, y, z, u] hw l ho
  rw [← F4] at HT
  have HFS := Lib.hid FS
  rw [← F0] at hown2
  have HL : Hid (∀ m, (F m).length = n + 4) := fun m => (FL m).trans HN.out.symm
  clear FS F4 FL F0
  go_loopw [9] (fun i wr => ∃ m : Nat, m ≤ 4 ∧ i = .int .i64 m ∧ wr.ownsRow w1.heap.size 5 1 (.slice (some ⟨g, 0, none⟩) (n + 4) cap) (n + 4) (bcells (F m)) ∧ wr.heap[w.heap.size]? = some (.cells #[.int .u8 x, .int .u8 y, .int .u8 z, .int .u8 u] 33 (0, 0)) ∧ Below w.heap.size w wr) (fun i _ => 4 - (intOf i).toNat)
  case atStart => exact ⟨0, by omega, rfl, hown2, hbox2, hB2⟩
  case round =>
    clear hown2 hbox2 hB2
    obtain ⟨m, hm, rfl, hown, hbox, HB⟩ := hrel
    by_cases hm4 : m < 4
    · have hc1 := hown.cellAt (K + m) (by omega)
      rw [bcells_get _ _ (by rw [HL.out]; omega)] at hc1
      have hf1 := hown.frozenAt (K + m)
      have hcx := four_cells hbox m hm4
      have hst := Lib.hid (HFS.out m)
      have hx := octet_at hw m
      generalize [x, y, z, u].getD m 0 = X at *
      go_wp2
      go_roundw
      case rel =>
        refine ⟨m + 1, by omega, by go_num, ?_, ?_, ?_⟩
        · rw [hst.out, ← bcells_set]
          exact (hown.stored (K + m) (.int .u8 ((X : Nat) : Int))).1
        · exact (Below.heap_setCell _ _ _ _ (by simp; omega)).trans hbox
        · exact HB.setCell (p := ⟨g, K + m, none⟩) (by simp; omega) _
      case measure => simp [intOf]; omega
    · have hm4 : m = 4 := by omega
      subst hm4
      have hL := HL.out 4
      have hinc : BytesIn wr (some ⟨g, 0, none⟩) cap (F 4) := owned_in (by rw [hL]; exact hown)
      have hinb := h.below HB
      have hlc : (F 4).length = l.length := hL.trans HN.out
      have ho4 := FO 4
      generalize F 4 = q at *
      have cv1 : ∀ w', Below wr.heap.size wr w' → (convert 24 9 (.slice p (n + 4) c)).run Try.prog w' = .ok (.string (strN l)) w' := fun w' hb => by rw [HN.out]; exact convert_in (hinb.below hb) ho
      have cv2 : ∀ w', Below wr.heap.size wr w' → (convert 24 9 (.slice (some ⟨g, 0, none⟩) (n + 4) cap)).run Try.prog w' = .ok (.string (strN q)) w' := fun w' hb => by rw [← hL]; exact convert_in (hinc.below hb) ho4
      have sm1 : ∀ w' B, Below wr.heap.size wr w' → w'.cell? ⟨B, 0, none⟩ = some (.slice p (n + 4) c) → Calls Try.prog 8 #[.slice (some ⟨B, 0, none⟩) 1 1] w' fun e w'' => e = .returned (.int .u32 (Crc.crc l : Nat)) ∧ Below w'.heap.size w' w'' := fun w' B hb hc => sum_one l ho (by omega) p c B 0 1 w' (World.block_lt_of_cell? w' _ hc) (by rw [← HN.out]; exact hc) (hinb.below hb).at_
      have sm2 : ∀ w' B, Below wr.heap.size wr w' → w'.cell? ⟨B, 0, none⟩ = some (.slice (some ⟨g, 0, none⟩) (n + 4) cap) → Calls Try.prog 8 #[.slice (some ⟨B, 0, none⟩) 1 1] w' fun e w'' => e = .returned (.int .u32 (Crc.crc q : Nat)) ∧ Below w'.heap.size w' w'' := fun w' B hb hc => sum_one q ho4 (by omega) _ cap B 0 1 w' (World.block_lt_of_cell? w' _ hc) (by rw [hL]; exact hc) (hinc.below hb).at_
      have hsame : ((strN l).toList == (strN q).toList) = decide (l = q) := strN_eq l q ho ho4
      have hsum : (((Crc.crc l : Nat) : Int) == ((Crc.crc q : Nat) : Int)) = decide (l = q) := by
        have := HT.out
        rw [Bool.eq_iff_iff, beq_iff_eq, decide_eq_true_iff]
        exact ⟨fun e => this.1 (by omega), fun e => by rw [this.2 e]⟩
      generalize Crc.crc l = S1 at *
      generalize Crc.crc q = S2 at *
      generalize strN l = A at *
      generalize strN q = B at *
      generalize decide (l = q) = r at *
      go_wp2
      clear hown hinc hinb hbox HT
      go_region_held3 (fun w' => Below wr.heap.size wr w') (repeat' first | assumption | exact Below.refl _ _ | with_reducible refine bD ?_ | with_reducible refine bA ?_ _)
        (first | (go_at_call 8; refine (sm1 _ _ ?_ ?_).mono ?_; (focus ((repeat' first | assumption | exact Below.refl _ _ | with_reducible refine bD ?_ | with_reducible refine bA ?_ _); done)); (focus ((repeat' first | with_reducible refine cDrew ?_ | (with_reducible refine cHere _ _ _ _ ?_; (simp; done)) | with_reducible refine cOld ?_ | with_reducible refine cKept hb3 ?_); done)); rintro e w3 ⟨rfl, hb3⟩; have hS3 := bT (a := wr) (by (repeat' first | assumption | exact Below.refl _ _ | with_reducible refine bD ?_ | with_reducible refine bA ?_ _)) hb3) | (go_at_call 8; refine (sm2 _ _ ?_ ?_).mono ?_; (focus ((repeat' first | assumption | exact Below.refl _ _ | with_reducible refine bD ?_ | with_reducible refine bA ?_ _); done)); (focus ((repeat' first | with_reducible refine cDrew ?_ | (with_reducible refine cHere _ _ _ _ ?_; (simp; done)) | with_reducible refine cOld ?_ | with_reducible refine cKept hb3 ?_); done)); rintro e w3 ⟨rfl, hb3⟩; have hS3 := bT (a := wr) (by (repeat' first | assumption | exact Below.refl _ _ | with_reducible refine bD ?_ | with_reducible refine bA ?_ _)) hb3))
      all_goals go_wp2
      all_goals go_ret
      all_goals exact ⟨rfl, HB.trans (hS3.mono HB.size)⟩

theorem apart_true (l : List Nat) (ho : Crc.Octets l) (p : Option Addr) (c : Nat) (at_ : Int) (x y z u : Nat) (hw : Crc.Octets [x, y, z, u]) (w : World) (h : BytesIn w p c l) :
    Calls Try.prog 6 #[.slice p l.length c, .int .i64 at_, .agg #[.int .u8 x, .int .u8 y, .int .u8 z, .int .u8 u]] w fun e w' => e = .returned (.bool true) ∧ Below w.heap.size w w' := by
  by_cases hl : l.length < 4 ∨ 1000 < l.length
  · exact apart_off p l.length c at_ hl x y z u w
  · obtain ⟨n, hn⟩ : ∃ n, n + 4 = l.length := ⟨l.length - 4, by omega⟩
    rw [← hn]
    exact apart_on l ho n hn (by omega) p c at_ x y z u hw w h
end Go.Proofs.Ytehdbnjkgdfgbaa
