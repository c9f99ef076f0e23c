/-
  What RespWrites answers of long arguments: true.
-/
import Derived.Test.YtdeacankicciaaaDoorRespHeld
namespace Go.Proofs.YtdeacankicciaaaDoor
open Go.RowKit Rp

theorem slice_two {w : World} {g : Nat} {r x : Rep} {q q' : Option Addr} {c c' : Nat} (hN : w.heap[g]? = some (.cells #[.int .i64 r.kind, .string (bs r.str), .int .i64 r.num, .slice q r.kids.length c, .int .i64 x.kind, .string (bs x.str), .int .i64 x.num, .slice q' x.kids.length c'] 26 (0, 0))) (h : RepIn w r q c) (h' : RepIn w x q' c') : SliceIn w [r, x] (some ⟨g, 0, none⟩) := by
  refine .inr ⟨g, 0, rfl, row_mk fun j hj => ?_⟩
  match j, hj with
  | 0, _ =>
    refine ⟨q, c, ⟨?_, ?_, ?_, ?_⟩, h⟩
    all_goals (rw [Lib.cell_of_heap hN]; rfl)
  | 1, _ =>
    refine ⟨q', c', ⟨?_, ?_, ?_, ?_⟩, h'⟩
    all_goals (rw [Lib.cell_of_heap hN]; rfl)

set_option maxRecDepth 20000 in
set_option maxHeartbeats 1000000 in
theorem writes_sa (a b : Rep) (p q : Option Addr) (c d : Nat) (pt : Option Addr) (nt ct : Nat) (w : World) (ha : RepIn w a p c) (hT : Tens w) (h1 : 300 < size 9 a) :
    Calls Tryd.prog 4 #[.agg (repCs a p c), .agg (repCs b q d), .slice pt nt ct] w fun e w' => e = .returned (.bool true) ∧ Below w.heap.size w w' := by
  have KA := Lib.hid (show ∀ W, Below w.heap.size w W → _ from fun W h => awake_true W (hT.on h))
  have KSa := Lib.hid (show ∀ W, Below w.heap.size w W → _ from fun W hw => refsize_any 9 (by omega) a p c W (RepIn.below hw _ ha))
  unfold repCs at KSa
  unfold repCs
  have sa : decide ((300 : Int) < ((size 9 a : Nat) : Int)) = true := decide_eq_true (by omega)
  generalize size 9 a = na at *
  clear ha hT
  go_enter Tryd.func4, Tryd.ntmps4
  go_wp2_with fail
  refine (KA.out _ (below2 (Below.refl _ _))).mono ?_
  rintro e w1 ⟨rfl, hb1⟩
  have hB1 := hb1
  obtain ⟨c01, c11, c21, c31⟩ := cells4 (boxA hB1)
  go_wp2_with fail
  refine (KSa.out _ (below2 (hB1))).mono ?_
  rintro e w2 ⟨rfl, hb2⟩
  have hB2 := bT (hB1) hb2
  obtain ⟨c02, c12, c22, c32⟩ := cells4 (boxB hB2)
  clear c01 c11 c21 c31
  go_wp2_with fail
  refine (KA.out _ (below2 hB2)).mono ?_
  rintro e w9 ⟨rfl, hb9⟩
  go_wp2
  go_ret
  exact ⟨rfl, bT (below2 hB2) hb9⟩

set_option maxRecDepth 20000 in
set_option maxHeartbeats 1000000 in
theorem writes_sb (a b : Rep) (p q : Option Addr) (c d : Nat) (pt : Option Addr) (nt ct : Nat) (w : World) (ha : RepIn w a p c) (hb : RepIn w b q d) (hT : Tens w) (h1 : size 9 a ≤ 300) (h2 : 300 < size 9 b) :
    Calls Tryd.prog 4 #[.agg (repCs a p c), .agg (repCs b q d), .slice pt nt ct] w fun e w' => e = .returned (.bool true) ∧ Below w.heap.size w w' := by
  have KA := Lib.hid (show ∀ W, Below w.heap.size w W → _ from fun W h => awake_true W (hT.on h))
  have KSa := Lib.hid (show ∀ W, Below w.heap.size w W → _ from fun W hw => refsize_any 9 (by omega) a p c W (RepIn.below hw _ ha))
  have KSb := Lib.hid (show ∀ W, Below w.heap.size w W → _ from fun W hw => refsize_any 9 (by omega) b q d W (RepIn.below hw _ hb))
  unfold repCs at KSa
  unfold repCs at KSb
  unfold repCs
  have sa : decide ((300 : Int) < ((size 9 a : Nat) : Int)) = false := decide_eq_false (by omega)
  generalize size 9 a = na at *
  have sb : decide ((300 : Int) < ((size 9 b : Nat) : Int)) = true := decide_eq_true (by omega)
  generalize size 9 b = nb at *
  clear ha hb hT
  go_enter Tryd.func4, Tryd.ntmps4
  go_wp2_with fail
  refine (KA.out _ (below2 (Below.refl _ _))).mono ?_
  rintro e w1 ⟨rfl, hb1⟩
  have hB1 := hb1
  obtain ⟨c01, c11, c21, c31⟩ := cells4 (boxA hB1)
  go_wp2_with fail
  refine (KSa.out _ (below2 (hB1))).mono ?_
  rintro e w2 ⟨rfl, hb2⟩
  have hB2 := bT (hB1) hb2
  obtain ⟨c02, c12, c22, c32⟩ := cells4 (boxB hB2)
  clear c01 c11 c21 c31
  go_wp2_with fail
  refine (KSb.out _ (below2 (hB2))).mono ?_
  rintro e w3 ⟨rfl, hb3⟩
  have hB3 := bT (hB2) hb3
  obtain ⟨c03, c13, c23, c33⟩ := cells4 (boxA hB3)
  clear c02 c12 c22 c32
  go_wp2_with fail
  refine (KA.out _ (below2 hB3)).mono ?_
  rintro e w9 ⟨rfl, hb9⟩
  go_wp2
  go_ret
  exact ⟨rfl, bT (below2 hB3) hb9⟩

set_option maxRecDepth 20000 in
set_option maxHeartbeats 1000000 in
theorem writes_t (a b : Rep) (p q : Option Addr) (c d : Nat) (pt : Option Addr) (nt ct : Nat) (w : World) (ha : RepIn w a p c) (hb : RepIn w b q d) (hT : Tens w) (h1 : size 9 a ≤ 300) (h2 : size 9 b ≤ 300) (h3 : 300 < nt) :
    Calls Tryd.prog 4 #[.agg (repCs a p c), .agg (repCs b q d), .slice pt nt ct] w fun e w' => e = .returned (.bool true) ∧ Below w.heap.size w w' := by
  have KA := Lib.hid (show ∀ W, Below w.heap.size w W → _ from fun W h => awake_true W (hT.on h))
  have KSa := Lib.hid (show ∀ W, Below w.heap.size w W → _ from fun W hw => refsize_any 9 (by omega) a p c W (RepIn.below hw _ ha))
  have KSb := Lib.hid (show ∀ W, Below w.heap.size w W → _ from fun W hw => refsize_any 9 (by omega) b q d W (RepIn.below hw _ hb))
  unfold repCs at KSa
  unfold repCs at KSb
  unfold repCs
  have sa : decide ((300 : Int) < ((size 9 a : Nat) : Int)) = false := decide_eq_false (by omega)
  generalize size 9 a = na at *
  have st : decide ((300 : Int) < (nt : Int)) = true := decide_eq_true (by omega)
  have sb : decide ((300 : Int) < ((size 9 b : Nat) : Int)) = false := decide_eq_false (by omega)
  generalize size 9 b = nb at *
  clear ha hb hT
  go_enter Tryd.func4, Tryd.ntmps4
  go_wp2_with fail
  refine (KA.out _ (below2 (Below.refl _ _))).mono ?_
  rintro e w1 ⟨rfl, hb1⟩
  have hB1 := hb1
  obtain ⟨c01, c11, c21, c31⟩ := cells4 (boxA hB1)
  go_wp2_with fail
  refine (KSa.out _ (below2 (hB1))).mono ?_
  rintro e w2 ⟨rfl, hb2⟩
  have hB2 := bT (hB1) hb2
  obtain ⟨c02, c12, c22, c32⟩ := cells4 (boxB hB2)
  clear c01 c11 c21 c31
  go_wp2_with fail
  refine (KSb.out _ (below2 (hB2))).mono ?_
  rintro e w3 ⟨rfl, hb3⟩
  have hB3 := bT (hB2) hb3
  obtain ⟨c03, c13, c23, c33⟩ := cells4 (boxA hB3)
  clear c02 c12 c22 c32
  go_wp2_with fail
  refine (KA.out _ (below2 hB3)).mono ?_
  rintro e w9 ⟨rfl, hb9⟩
  go_wp2
  go_ret
  exact ⟨rfl, bT (below2 hB3) hb9⟩

end Go.Proofs.YtdeacankicciaaaDoor
