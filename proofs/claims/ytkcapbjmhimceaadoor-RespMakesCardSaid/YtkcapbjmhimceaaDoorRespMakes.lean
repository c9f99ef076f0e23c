/-
  What RespMakes answers: true.
-/
import Derived.Test.YtkcapbjmhimceaaDoorRespStrs
import Derived.Test.YtkcapbjmhimceaaDoorRespSame
import Derived.Deep.RegionHeld3
namespace Go.Proofs.YtkcapbjmhimceaaDoor
open Go.RowKit Rp

set_option maxRecDepth 20000 in
set_option maxHeartbeats 1000000 in
theorem makes_s (S : ByteArray) (n : Int) (m c : Nat) (p : Option Addr) (w : World) (hT : Tens w) (h : 1000 < S.size) :
    Calls Tryd.prog 6 #[.string S, .int .i64 n, .slice p m c] w fun e w' => e = .returned (.bool true) ∧ Below w.heap.size w w' := by
  have KA := Lib.hid (show ∀ W, Below w.heap.size w W → _ from fun W h => awake_true W (hT.on h))
  have h1 : decide (1000 < S.size) = true := decide_eq_true h
  have h1' : decide ((1000 : Int) < (S.size : Int)) = true := decide_eq_true (by omega)
  clear hT
  go_enter Tryd.func6, Tryd.ntmps6
  go_wp2_with fail
  refine (KA.out _ (Below.refl _ _)).mono ?_
  rintro e w1 ⟨rfl, hb1⟩
  go_wp2_with fail
  refine (KA.out _ hb1).mono ?_
  rintro e w2 ⟨rfl, hb2⟩
  go_wp2
  go_ret
  exact ⟨rfl, bT hb1 hb2⟩

set_option maxRecDepth 20000 in
set_option maxHeartbeats 1000000 in
theorem makes_l (S : ByteArray) (n : Int) (m c : Nat) (p : Option Addr) (w : World) (hT : Tens w) (h : S.size ≤ 1000) (hm : 50 < m) :
    Calls Tryd.prog 6 #[.string S, .int .i64 n, .slice p m c] w fun e w' => e = .returned (.bool true) ∧ Below w.heap.size w w' := by
  have KA := Lib.hid (show ∀ W, Below w.heap.size w W → _ from fun W h => awake_true W (hT.on h))
  have h1' : decide ((1000 : Int) < (S.size : Int)) = false := decide_eq_false (by omega)
  have h2' : decide ((50 : Int) < (m : Int)) = true := decide_eq_true (by omega)
  clear hT h
  go_enter Tryd.func6, Tryd.ntmps6
  go_wp2_with fail
  refine (KA.out _ (Below.refl _ _)).mono ?_
  rintro e w1 ⟨rfl, hb1⟩
  go_wp2_with fail
  refine (KA.out _ hb1).mono ?_
  rintro e w2 ⟨rfl, hb2⟩
  go_wp2
  go_ret
  exact ⟨rfl, bT hb1 hb2⟩

theorem fitK (k : Int) (h0 : -10 ≤ k) (h1 : k ≤ 10) : Fits k := ⟨by omega, by omega⟩

/-- The six. -/
def six (s : List UInt8) (n : Int) : List Rep := [.mk 0 s 0 [], .mk 1 s 0 [], .mk 2 [] n [], .mk 3 s 0 [], .mk 4 [] 0 [], .mk 5 [] 0 []]
theorem six_ok (s : List UInt8) (n : Int) (hs : s.length ≤ maxLen) (hn : Fits n) : ∀ x ∈ six s n, Fits x.kind ∧ Fits x.num ∧ x.str.length ≤ maxLen ∧ x.kids = [] := by
  intro x hx
  simp only [six, List.mem_cons, List.not_mem_nil, or_false] at hx
  rcases hx with rfl | rfl | rfl | rfl | rfl | rfl
  all_goals refine ⟨?_, ?_, ?_, rfl⟩
  all_goals first | exact fitK 0 (by omega) (by omega) | exact fitK 1 (by omega) (by omega) | exact fitK 2 (by omega) (by omega) | exact fitK 3 (by omega) (by omega) | exact fitK 4 (by omega) (by omega) | exact fitK 5 (by omega) (by omega) | exact hn | exact hs | exact Nat.zero_le _

/-- The six's cells. -/
def sixCells (S : ByteArray) (n : Int) : Array Value := #[.int .i64 0, .string S, .int .i64 0, .slice none 0 0, .int .i64 1, .string S, .int .i64 0, .slice none 0 0, .int .i64 2, .string ⟨#[]⟩, .int .i64 n, .slice none 0 0, .int .i64 3, .string S, .int .i64 0, .slice none 0 0, .int .i64 4, .string ⟨#[]⟩, .int .i64 0, .slice none 0 0, .int .i64 5, .string ⟨#[]⟩, .int .i64 0, .slice none 0 0]

theorem six_at {W : World} {g : Nat} {s : List UInt8} {n : Int} (hb : W.heap[g]? = some (.cells (sixCells (bs s) n) 26 (0, 0))) : FlatAt W (six s n) (some ⟨g, 0, none⟩) := by
  intro j hj
  refine ⟨g, 0, none, 0, rfl, ?_⟩
  match j, hj with
  | 0, _ => refine ⟨?_, ?_, ?_, ?_⟩ <;> (rw [Lib.cell_of_heap hb]; rfl)
  | 1, _ => refine ⟨?_, ?_, ?_, ?_⟩ <;> (rw [Lib.cell_of_heap hb]; rfl)
  | 2, _ => refine ⟨?_, ?_, ?_, ?_⟩ <;> (rw [Lib.cell_of_heap hb]; rfl)
  | 3, _ => refine ⟨?_, ?_, ?_, ?_⟩ <;> (rw [Lib.cell_of_heap hb]; rfl)
  | 4, _ => refine ⟨?_, ?_, ?_, ?_⟩ <;> (rw [Lib.cell_of_heap hb]; rfl)
  | 5, _ => refine ⟨?_, ?_, ?_, ?_⟩ <;> (rw [Lib.cell_of_heap hb]; rfl)

theorem leaf_in (W : World) (k : Int) (s : List UInt8) (n : Int) (hk : Fits k) (hn : Fits n) (hs : s.length ≤ maxLen) : RepIn W (.mk k s n []) none 0 := by
  rw [RepIn]
  exact ⟨hk, hn, hs, Nat.le_refl _, by simp [maxLen], .inl rfl⟩

theorem six_in {W : World} {g : Nat} {s : List UInt8} {n : Int} (hb : W.heap[g]? = some (.cells (sixCells (bs s) n) 26 (0, 0))) (hs : s.length ≤ maxLen) (hn : Fits n) : RepIn W (.mk 5 [] 0 (six s n)) (some ⟨g, 0, none⟩) 6 := by
  rw [RepIn]
  refine ⟨fitK 5 (by omega) (by omega), fitK 0 (by omega) (by omega), by simp [maxLen], Nat.le_refl 6, by simp [maxLen], .inr ⟨g, 0, rfl, row_mk fun j hj => ?_⟩⟩
  refine ⟨none, 0, ?_, ?_⟩
  · match j, hj with
    | 0, _ => refine ⟨?_, ?_, ?_, ?_⟩ <;> (rw [Lib.cell_of_heap hb]; rfl)
    | 1, _ => refine ⟨?_, ?_, ?_, ?_⟩ <;> (rw [Lib.cell_of_heap hb]; rfl)
    | 2, _ => refine ⟨?_, ?_, ?_, ?_⟩ <;> (rw [Lib.cell_of_heap hb]; rfl)
    | 3, _ => refine ⟨?_, ?_, ?_, ?_⟩ <;> (rw [Lib.cell_of_heap hb]; rfl)
    | 4, _ => refine ⟨?_, ?_, ?_, ?_⟩ <;> (rw [Lib.cell_of_heap hb]; rfl)
    | 5, _ => refine ⟨?_, ?_, ?_, ?_⟩ <;> (rw [Lib.cell_of_heap hb]; rfl)
  · match j, hj with
    | 0, _ => exact leaf_in W 0 s 0 (fitK _ (by omega) (by omega)) (fitK _ (by omega) (by omega)) hs
    | 1, _ => exact leaf_in W 1 s 0 (fitK _ (by omega) (by omega)) (fitK _ (by omega) (by omega)) hs
    | 2, _ => exact leaf_in W 2 [] n (fitK _ (by omega) (by omega)) hn (by simp [maxLen])
    | 3, _ => exact leaf_in W 3 s 0 (fitK _ (by omega) (by omega)) (fitK _ (by omega) (by omega)) hs
    | 4, _ => exact leaf_in W 4 [] 0 (fitK _ (by omega) (by omega)) (fitK _ (by omega) (by omega)) (by simp [maxLen])
    | 5, _ => exact leaf_in W 5 [] 0 (fitK _ (by omega) (by omega)) (fitK _ (by omega) (by omega)) (by simp [maxLen])
end Go.Proofs.YtkcapbjmhimceaaDoor
