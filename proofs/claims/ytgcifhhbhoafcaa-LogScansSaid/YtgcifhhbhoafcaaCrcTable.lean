/-
  What crc.nibbles answers: four shifts of each of sixteen registers.
-/
import Derived.Test.YtgcifhhbhoafcaaCrcShift
namespace Go.Proofs.Ytgcifhhbhoafcaa
open Go.RowKit

theorem heap_alloc_new' (w : World) (o : Obj) (k : Nat) (h : k = w.heap.size) : (w.alloc o).heap[k]? = some o := by subst h; exact heap_alloc_new w o
theorem heap_set {w : World} {b j : Nat} {cs : Array Value} {T : TypeId} (hb : w.heap[b]? = some (.cells cs T (0, 0))) (v : Value) : (w.setCell ⟨b, j, none⟩ v).heap[b]? = some (.cells (cs.set! j v) T (0, 0)) := by
  simp [World.setCell, Array.getElem?_modify, hb]
theorem frozen_all {W : World} {b : Nat} {cs : Array Value} {T : TypeId} (h : W.heap[b]? = some (.cells cs T (0, 0))) : ∀ j, W.frozen? ⟨b, j, none⟩ = false := fun j => by rw [Lib.frozen_of_heap h]

/-- Sixteen cells, the first k of them as f says, the rest 0. -/
def arrL (f : Nat → Value) (k : Nat) : List Value := (List.range 16).map fun i => if i < k then f i else Value.int .u32 0
def arrF (f : Nat → Value) (k : Nat) : Array Value := (arrL f k).toArray
/-- The table after k rounds. -/
def tabV (i : Nat) : Value := .int .u32 ((Crc.shn 4 i : Nat) : Int)
def tab (k : Nat) : Array Value := arrF tabV k

theorem arr_at (f : Nat → Value) (k j : Nat) (h : j < 16) : (arrF f k)[j]? = some (if j < k then f j else Value.int .u32 0) := by
  simp [arrF, arrL, h]
theorem arr_set (f : Nat → Value) (k : Nat) (h : k < 16) : (arrF f k).set! k (f k) = arrF f (k + 1) := by
  apply Array.ext_getElem?
  intro i
  rw [Array.set!_eq_setIfInBounds, Array.getElem?_setIfInBounds]
  by_cases hi : i < 16
  · rw [arr_at _ _ _ hi, arr_at _ _ _ hi]
    by_cases e : k = i
    · subst e
      simp [arrF, arrL, h]
    · rw [if_neg e]
      by_cases h1 : i < k
      · rw [if_pos h1, if_pos (by omega)]
      · rw [if_neg h1, if_neg (by omega)]
  · have e1 : ∀ m, (arrF f m)[i]? = none := fun m => by simp [arrF, arrL, hi]
    rw [e1, e1, if_neg (by omega)]
theorem tab_at (k j : Nat) (h : j < 16) : (tab k)[j]? = some (if j < k then tabV j else Value.int .u32 0) := arr_at _ _ _ h
theorem heap_step {w : World} {b k : Nat} {T : TypeId} {f : Nat → Value} (hk : k < 16) (hb : w.heap[b]? = some (.cells (arrF f k) T (0, 0))) : (w.setCell ⟨b, k, none⟩ (f k)).heap[b]? = some (.cells (arrF f (k + 1)) T (0, 0)) := by
  rw [heap_set hb, arr_set f k hk]

/-- Sixteen cells stored. -/
def set16 (w : World) (b : Nat) (f : Nat → Value) : World :=
  ((((((((((((((((w.setCell ⟨b, 0, none⟩ (f 0)).setCell ⟨b, 1, none⟩ (f 1)).setCell ⟨b, 2, none⟩ (f 2)).setCell ⟨b, 3, none⟩ (f 3)).setCell ⟨b, 4, none⟩ (f 4)).setCell ⟨b, 5, none⟩ (f 5)).setCell ⟨b, 6, none⟩ (f 6)).setCell ⟨b, 7, none⟩ (f 7)).setCell ⟨b, 8, none⟩ (f 8)).setCell ⟨b, 9, none⟩ (f 9)).setCell ⟨b, 10, none⟩ (f 10)).setCell ⟨b, 11, none⟩ (f 11)).setCell ⟨b, 12, none⟩ (f 12)).setCell ⟨b, 13, none⟩ (f 13)).setCell ⟨b, 14, none⟩ (f 14)).setCell ⟨b, 15, none⟩ (f 15))

theorem heap_set16 {w : World} {b : Nat} {T : TypeId} (f : Nat → Value) (hb : w.heap[b]? = some (.cells (arrF f 0) T (0, 0))) : (set16 w b f).heap[b]? = some (.cells (arrF f 16) T (0, 0)) :=
  heap_step (k := 15) (by decide) (heap_step (k := 14) (by decide) (heap_step (k := 13) (by decide) (heap_step (k := 12) (by decide) (heap_step (k := 11) (by decide) (heap_step (k := 10) (by decide) (heap_step (k := 9) (by decide) (heap_step (k := 8) (by decide) (heap_step (k := 7) (by decide) (heap_step (k := 6) (by decide) (heap_step (k := 5) (by decide) (heap_step (k := 4) (by decide) (heap_step (k := 3) (by decide) (heap_step (k := 2) (by decide) (heap_step (k := 1) (by decide) (heap_step (k := 0) (by decide) (hb))))))))))))))))
theorem set16_below {B : Nat} {w w' : World} {b : Nat} (h : Below B w w') (hb : B ≤ b) (f : Nat → Value) : Below B w (set16 w' b f) :=
  Below.setCell (p := ⟨b, 15, none⟩) (Below.setCell (p := ⟨b, 14, none⟩) (Below.setCell (p := ⟨b, 13, none⟩) (Below.setCell (p := ⟨b, 12, none⟩) (Below.setCell (p := ⟨b, 11, none⟩) (Below.setCell (p := ⟨b, 10, none⟩) (Below.setCell (p := ⟨b, 9, none⟩) (Below.setCell (p := ⟨b, 8, none⟩) (Below.setCell (p := ⟨b, 7, none⟩) (Below.setCell (p := ⟨b, 6, none⟩) (Below.setCell (p := ⟨b, 5, none⟩) (Below.setCell (p := ⟨b, 4, none⟩) (Below.setCell (p := ⟨b, 3, none⟩) (Below.setCell (p := ⟨b, 2, none⟩) (Below.setCell (p := ⟨b, 1, none⟩) (Below.setCell (p := ⟨b, 0, none⟩) (h) hb _) hb _) hb _) hb _) hb _) hb _) hb _) hb _) hb _) hb _) hb _) hb _) hb _) hb _) hb _) hb _

set_option maxHeartbeats 1000000 in
theorem nibbles_any (w : World) :
    Calls Try.prog 77 #[] w fun e w' => e = .returned (.agg (tab 16)) ∧ Below w.heap.size w w' := by
  go_enter Try.func77, Try.ntmps77
  go_wp2
  go_loopw [4] (fun i wr => ∃ k : Nat, k ≤ 16 ∧ i = .int .u32 k ∧ wr.heap[w.heap.size + 1]? = some (.cells (tab k) 131 (0, 0)) ∧ wr.heap[w.heap.size]? = some (.cells (tab 0) 131 (0, 0)) ∧ Below w.heap.size w wr) (fun i _ => 16 - (intOf i).toNat)
  case atStart =>
    exact ⟨0, by omega, rfl, heap_alloc_new' _ _ _ (by simp), (Lib.alloc_old _ _ _ (by simp)).trans (heap_alloc_new _ _), ((Below.refl _ _).alloc (Nat.le_refl _) _).alloc (by simp) _⟩
  case round =>
    obtain ⟨k, hk, rfl, hT, hz, HB⟩ := hrel
    by_cases hlt : k < 16
    · have hc : wr.cell? ⟨w.heap.size + 1, k, none⟩ = some (if k < k then tabV k else Value.int .u32 0) := by rw [Lib.cell_of_heap hT]; exact tab_at k k hlt
      have hf := frozen_all hT
      have hd : decide ((k : Int) < 16) = true := decide_eq_true (by omega)
      go_wp2
      go_loopw [3, 8] (fun r i wi => ∃ m : Nat, m ≤ 4 ∧ i = .int .i64 m ∧ r = .int .u32 (Crc.shn m k : Nat) ∧ wi = wr) (fun _ i _ => 4 - (intOf i).toNat)
      case atStart => exact ⟨0, by omega, rfl, rfl, rfl⟩
      case round =>
        obtain ⟨m, hm, rfl, rfl, rfl⟩ := hrel
        go_wp2_with (go_at_call 78; refine (shift_any _ (Crc.shn_lt m k (by omega)) _).mono ?_; rintro e w1 ⟨rfl, rfl⟩)
        · go_roundw
          case rel => exact ⟨m + 1, by omega, by go_num, by rw [Crc.shn_add m 1]; rfl, trivial⟩
          case measure => simp [intOf]; omega
        · have h4 : m = 4 := by omega
          subst h4
          go_wp2
          go_roundw
          case rel =>
            refine ⟨k + 1, by omega, by go_num, ?_, (Below.heap_setCell _ _ _ _ (by simp)).trans hz, HB.setCell (p := ⟨w.heap.size + 1, k, none⟩) (by simp) _⟩
            exact heap_step hlt hT
          case measure => simp [intOf]; omega
    · have h16 : k = 16 := by omega
      subst h16
      have ct : ∀ j, j < 16 → wr.cell? ⟨w.heap.size + 1, j, none⟩ = some (.int .u32 ((Crc.shn 4 j : Nat) : Int)) := fun j hj => by rw [Lib.cell_of_heap hT]; exact (tab_at 16 j hj).trans (by rw [if_pos hj]; rfl)
      have cz : ∀ j, j < 16 → wr.cell? ⟨w.heap.size, j, none⟩ = some (.int .u32 0) := fun j hj => by rw [Lib.cell_of_heap hz]; exact (tab_at 0 j hj).trans (by rw [if_neg (by omega)])
      have fz := frozen_all hz
      have t0 := ct 0 (by decide); have t1 := ct 1 (by decide); have t2 := ct 2 (by decide); have t3 := ct 3 (by decide); have t4 := ct 4 (by decide); have t5 := ct 5 (by decide); have t6 := ct 6 (by decide); have t7 := ct 7 (by decide)
      have t8 := ct 8 (by decide); have t9 := ct 9 (by decide); have t10 := ct 10 (by decide); have t11 := ct 11 (by decide); have t12 := ct 12 (by decide); have t13 := ct 13 (by decide); have t14 := ct 14 (by decide); have t15 := ct 15 (by decide)
      have z0 := cz 0 (by decide); have z1 := cz 1 (by decide); have z2 := cz 2 (by decide); have z3 := cz 3 (by decide); have z4 := cz 4 (by decide); have z5 := cz 5 (by decide); have z6 := cz 6 (by decide); have z7 := cz 7 (by decide)
      have z8 := cz 8 (by decide); have z9 := cz 9 (by decide); have z10 := cz 10 (by decide); have z11 := cz 11 (by decide); have z12 := cz 12 (by decide); have z13 := cz 13 (by decide); have z14 := cz 14 (by decide); have z15 := cz 15 (by decide)
      have T := Lib.hid hT; have Z := Lib.hid hz
      clear hT hz ct cz
      go_wp2
      have hE := heap_set16 tabV Z.out
      have HE := set16_below HB (Nat.le_refl _) tabV
      show bodyPost _ _ _ _ _ (set16 wr w.heap.size tabV)
      generalize set16 wr w.heap.size tabV = W at *
      have ce : ∀ j, j < 16 → W.cell? ⟨w.heap.size, j, none⟩ = some (.int .u32 ((Crc.shn 4 j : Nat) : Int)) := fun j hj => by rw [Lib.cell_of_heap hE]; exact (tab_at 16 j hj).trans (by rw [if_pos hj]; rfl)
      have e0 := ce 0 (by decide); have e1 := ce 1 (by decide); have e2 := ce 2 (by decide); have e3 := ce 3 (by decide); have e4 := ce 4 (by decide); have e5 := ce 5 (by decide); have e6 := ce 6 (by decide); have e7 := ce 7 (by decide)
      have e8 := ce 8 (by decide); have e9 := ce 9 (by decide); have e10 := ce 10 (by decide); have e11 := ce 11 (by decide); have e12 := ce 12 (by decide); have e13 := ce 13 (by decide); have e14 := ce 14 (by decide); have e15 := ce 15 (by decide)
      exact bodyPost_ret (v := .agg (tab 16)) (by simp [results, Try.results77, go_sem, e0, e1, e2, e3, e4, e5, e6, e7, e8, e9, e10, e11, e12, e13, e14, e15]; rfl) rfl ⟨rfl, HE⟩
end Go.Proofs.Ytgcifhhbhoafcaa
