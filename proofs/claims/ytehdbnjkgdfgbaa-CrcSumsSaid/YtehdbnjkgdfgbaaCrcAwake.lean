/-
  What the statements' own 'awake' answers: true.
-/
import Derived.Test.YtehdbnjkgdfgbaaCrcOpen
import Derived.Lib.SlBytesConst
namespace Go.Proofs.Ytehdbnjkgdfgbaa
open Go.RowKit

def digits : List Nat := [49, 50, 51, 52, 53, 54, 55, 56, 57]

theorem digits_ok : Crc.Octets digits := by
  intro x hx
  simp only [digits, List.mem_cons, List.not_mem_nil, or_false] at hx
  omega
def digitCells : Array Value := #[.int .u8 49, .int .u8 50, .int .u8 51, .int .u8 52, .int .u8 53, .int .u8 54, .int .u8 55, .int .u8 56, .int .u8 57]
theorem digits_in (w : World) : BytesIn ((w.alloc (.cells digitCells 5 (9, 10))).alloc (.cells #[.slice (some ⟨w.heap.size, 0, none⟩) 9 9] 24)) (some ⟨w.heap.size, 0, none⟩) 9 digits := by
  refine ⟨fun h => (by cases h), fun _ => ⟨w.heap.size, 0, rfl, fun i hi => ?_⟩⟩
  have hb : ((w.alloc (.cells digitCells 5 (9, 10))).alloc (.cells #[.slice (some ⟨w.heap.size, 0, none⟩) 9 9] 24)).heap[w.heap.size]? = some (.cells digitCells 5 (9, 10)) :=
    (Lib.alloc_old _ _ _ (by simp)).trans (heap_alloc_new _ _)
  rw [Lib.cell_of_heap hb]
  change i < 9 at hi
  match i, hi with
  | 0, _ => rfl
  | 1, _ => rfl
  | 2, _ => rfl
  | 3, _ => rfl
  | 4, _ => rfl
  | 5, _ => rfl
  | 6, _ => rfl
  | 7, _ => rfl
  | 8, _ => rfl

set_option maxHeartbeats 1000000 in
theorem awake_true (w : World) : Calls Try.prog 7 #[] w fun e w' => e = .returned (.bool true) ∧ Below w.heap.size w w' := by
  have hcv := fun (w : World) (C : Array Value) (n c : Nat) => Lib.run_convert_bytes_const (P := Try.prog) w 24 5 C n c Try.underlying24 Try.underlying5
  go_enter Try.func7, Try.ntmps7
  go_wp2_with fail
  have hs := sum_one digits digits_ok (by decide) (some ⟨w.heap.size, 0, none⟩) 9 (w.heap.size + 1) 0 1 _ (by simp) ((Lib.cell_of_heap (heap_alloc_new' _ (.cells #[.slice (some ⟨w.heap.size, 0, none⟩) 9 9] 24) _ (by simp)) 0).trans rfl) (digits_in w).at_
  rw [show Crc.crc digits = 3421780262 from Crc.crc_digits] at hs
  refine hs.mono ?_
  rintro e w1 ⟨rfl, hb1⟩
  have hB : Below w.heap.size w w1 := (((Below.refl _ w).alloc (Nat.le_refl _) _).alloc (by simp) _).trans (hb1.mono (by simp; omega))
  clear hs hb1 hcv
  go_wp2_with fail
  refine (sum_none none 0 w1).mono ?_
  rintro e w2 ⟨rfl, hb2⟩
  have hB2 : Below w.heap.size w w2 := hB.trans (hb2.mono hB.size)
  go_wp2
  go_ret
  exact ⟨rfl, hB2⟩
end Go.Proofs.Ytehdbnjkgdfgbaa
