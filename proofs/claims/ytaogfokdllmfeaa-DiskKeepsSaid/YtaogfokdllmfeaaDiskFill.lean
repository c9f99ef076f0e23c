/-
  A slice of bytes all alike; what is read as a string.
-/
import Derived.Test.YtaogfokdllmfeaaDiskWrite
import Derived.Laws.IdiomStrings
namespace Go.Proofs.Ytaogfokdllmfeaa
open Go.RowKit Go.Shelf
attribute [local go_sem] Oper.semAt_some

def fillA (x i N : Nat) : Array Value := (List.replicate i (Value.int .u8 (x : Int)) ++ List.replicate (N - i) (Value.int .u8 0)).toArray
theorem fill_zero (x N : Nat) : (List.replicate N (Value.int .u8 0)).toArray = fillA x 0 N := by simp [fillA]
theorem fill_at (x i N : Nat) (h : i < N) : (fillA x i N)[i]? = some (.int .u8 0) := by
  unfold fillA
  rw [List.getElem?_toArray, List.getElem?_append_right (by simp), List.length_replicate, Nat.sub_self, List.getElem?_replicate, if_pos (by omega)]
theorem fill_next (x i N : Nat) (h : i < N) : (fillA x i N).setIfInBounds i (.int .u8 (x : Int)) = fillA x (i + 1) N := by
  unfold fillA
  obtain ⟨m, hm⟩ : ∃ m, N - i = m + 1 := ⟨N - i - 1, by omega⟩
  have hm2 : N - (i + 1) = m := by omega
  rw [hm, hm2, List.setIfInBounds_toArray, List.set_append_right _ _ (by simp), List.length_replicate, Nat.sub_self, List.replicate_succ (n := m), List.set_cons_zero, List.replicate_succ' (n := i), List.append_assoc]
  rfl
theorem fill_store {w : World} {b x i N : Nat} {T : TypeId} (hb : w.heap[b]? = some (.cells (fillA x i N) T (0, 0))) (h : i < N) : (w.setCell ⟨b, i, none⟩ (.int .u8 (x : Int))).heap[b]? = some (.cells (fillA x (i + 1) N) T (0, 0)) := by
  rw [setCell_eq_setRow w b i _ T _ _ hb, setRow_heap w b _ _ T _ hb, fill_next x i N h]
theorem fill_all (x N : Nat) (hx : x < 256) : fillA x N N = (bCells (List.replicate N (UInt8.ofNat x))).toArray := by
  have e : (UInt8.ofNat x).toNat = x := UInt8.toNat_ofNat_of_lt' (by show x < 256; omega)
  simp [fillA, bCells, e]

set_option maxRecDepth 20000 in
theorem filled_any (x n l N : Nat) (hx : x < 256) (hn : n ≤ 1000) (hl : l ≤ 64) (hN : N + l = 64 * n) (w : World) :
    Calls Try.prog 8 #[.int .u8 x, .int .i64 n, .int .i64 l] w fun e w' => e = .returned (.slice (some ⟨w.heap.size, 0, none⟩) N N) ∧ w'.heap[w.heap.size]? = some (.cells (bCells (List.replicate N (UInt8.ofNat x))).toArray 5 (0, 0)) ∧ Below w.heap.size w w' := by
  have q1 : IntKind.i64.wrap (64 * (n : Int)) = 64 * (n : Int) := by rw [IntKind.wrap_i64]; omega
  have q2 : IntKind.i64.wrap (64 * (n : Int) - (l : Int)) = (N : Int) := by rw [IntKind.wrap_i64]; omega
  have hNb : N ≤ 64000 := by omega
  have hmk := fun W => make_u8 W N (by omega)
  simp only [fill_zero x] at hmk
  clear hN hn hl
  go_enter Try.func8, Try.ntmps8
  go_wp2_with fail
  have hL0 := heap_new w (.cells (fillA x 0 N) 5)
  have hb2 := bA (Below.refl w.heap.size w) (.cells (fillA x 0 N) 5)
  generalize w.alloc (.cells (fillA x 0 N) 5) = w2 at *
  obtain ⟨L, hL⟩ : ∃ L, w.heap.size = L := ⟨_, rfl⟩
  rw [hL] at hL0 hb2 ⊢
  have HLE := Lib.hid hL
  clear hmk hL
  go_loopw [8] (fun s5 wr => ∃ i : Nat, i ≤ N ∧ s5 = .int .i64 i ∧ wr.heap[L]? = some (.cells (fillA x i N) 5 (0, 0)) ∧ Below L w wr) (fun s5 _ => N - (intOf s5).toNat)
  case atStart => exact ⟨0, Nat.zero_le _, rfl, hL0, hb2⟩
  case round =>
    obtain ⟨i, hi, rfl, hrow, hbw⟩ := hrel
    by_cases hlt : i < N
    · have d1 : decide ((i : Int) < (N : Int)) = true := decide_eq_true (by omega)
      have d2 : decide (i < N) = true := decide_eq_true hlt
      have hc : wr.cell? ⟨L, i, none⟩ = some (.int .u8 0) := by rw [cell_in hrow]; exact fill_at x i N hlt
      have hf := frozen_in hrow
      have HST := Lib.hid (fill_store (x := x) hrow hlt)
      have HBW := Lib.hid (hbw.setCell (p := ⟨L, i, none⟩) (Nat.le_refl _) (.int .u8 x))
      clear hrow hbw
      go_wp2_with fail
      go_roundw
      case rel => exact ⟨i + 1, by omega, by go_num, HST.out, HBW.out⟩
      case measure => simp [intOf]; omega
    · have d1 : decide ((i : Int) < (N : Int)) = false := decide_eq_false (by omega)
      have d2 : decide (i < N) = false := decide_eq_false hlt
      have hiN : i = N := by omega
      rw [hiN] at hrow
      have HROW := Lib.hid hrow
      have HBW := Lib.hid hbw
      clear hrow hbw hiN
      go_wp2_with fail
      go_ret
      exact ⟨by rw [HLE.out]; rfl, by rw [HLE.out, ← fill_all x N hx]; exact HROW.out, by rw [HLE.out]; exact HBW.out⟩

/-- A row's bytes as a string. -/
theorem conv_row {w : World} {b : Nat} {l : List UInt8} (hb : w.heap[b]? = some (.cells (bCells l).toArray 5 (0, 0))) : (convert 22 9 (.slice (some ⟨b, 0, none⟩) l.length l.length)).run Try.prog w = .ok (.string (bs l)) w := by
  have := run_convert_bytes_back (P := Try.prog) w 22 9 5 ⟨b, 0, none⟩ l.length l Try.underlying22 Try.underlying5 Try.underlying9 (fun j hj => by
    rw [Addr.add_mid, Nat.zero_add, cell_in hb, List.getElem?_toArray]
    unfold bCells
    rw [List.getElem?_map, List.getElem?_eq_getElem hj]
    rfl)
  exact this
end Go.Proofs.Ytaogfokdllmfeaa
