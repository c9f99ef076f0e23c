/-
  What RespApart answers: true.
-/
import Derived.Test.YtkcapbjmhimceaaDoorRespAwake
import Derived.Test.YtkcapbjmhimceaaDoorRespSize
namespace Go.Proofs.YtkcapbjmhimceaaDoor
open Go.RowKit Rp

theorem boxA {a b : Rep} {p q : Option Addr} {c d : Nat} {w W : World} (h : Below ((w.alloc (.cells #[.int .i64 a.kind, .string (bs a.str), .int .i64 a.num, .slice p a.kids.length c] 26)).alloc (.cells #[.int .i64 b.kind, .string (bs b.str), .int .i64 b.num, .slice q b.kids.length d] 26)).heap.size ((w.alloc (.cells #[.int .i64 a.kind, .string (bs a.str), .int .i64 a.num, .slice p a.kids.length c] 26)).alloc (.cells #[.int .i64 b.kind, .string (bs b.str), .int .i64 b.num, .slice q b.kids.length d] 26)) W) : W.heap[w.heap.size]? = some (.cells #[.int .i64 a.kind, .string (bs a.str), .int .i64 a.num, .slice p a.kids.length c] 26 (0, 0)) :=
  (h.block _ (by simp; omega)).trans ((Below.heap_alloc _ _ _ (by simp)).trans (heap_alloc_new w _))
theorem boxB {a b : Rep} {p q : Option Addr} {c d : Nat} {w W : World} (h : Below ((w.alloc (.cells #[.int .i64 a.kind, .string (bs a.str), .int .i64 a.num, .slice p a.kids.length c] 26)).alloc (.cells #[.int .i64 b.kind, .string (bs b.str), .int .i64 b.num, .slice q b.kids.length d] 26)).heap.size ((w.alloc (.cells #[.int .i64 a.kind, .string (bs a.str), .int .i64 a.num, .slice p a.kids.length c] 26)).alloc (.cells #[.int .i64 b.kind, .string (bs b.str), .int .i64 b.num, .slice q b.kids.length d] 26)) W) : W.heap[w.heap.size + 1]? = some (.cells #[.int .i64 b.kind, .string (bs b.str), .int .i64 b.num, .slice q b.kids.length d] 26 (0, 0)) :=
  (h.block _ (by simp)).trans (two_heap w _ _ _ rfl)
theorem below2 {w w1 : World} {o o2 : Obj} (h : Below ((w.alloc o).alloc o2).heap.size ((w.alloc o).alloc o2) w1) : Below w.heap.size w w1 := bT (bA (bA (Below.refl _ _) _) _) h

set_option maxRecDepth 20000 in
set_option maxHeartbeats 1000000 in
theorem apart_sa (a b : Rep) (p q : Option Addr) (c d : Nat) (w : World) (ha : RepIn w a p c) (hT : Tens w) (h1 : 300 < size 9 a) :
    Calls Tryd.prog 5 #[.agg (repCs a p c), .agg (repCs b q d)] w fun e w' => e = .returned (.bool true) ∧ Below w.heap.size w w' := by
  have KA := Lib.hid (show ∀ W, Below w.heap.size w W → _ from fun W h => awake_true W (hT.on h))
  have KSa := Lib.hid (show ∀ W, Below w.heap.size w W → _ from fun W hw => refsize_any 9 (by omega) a p c W (RepIn.below hw _ ha))
  unfold repCs at KSa
  unfold repCs
  have sa : decide ((300 : Int) < ((size 9 a : Nat) : Int)) = true := decide_eq_true (by omega)
  generalize size 9 a = na at *
  clear ha hT
  go_enter Tryd.func5, Tryd.ntmps5
  go_wp2_with fail
  refine (KA.out _ (below2 (Below.refl _ _))).mono ?_
  rintro e w1 ⟨rfl, hb1⟩
  have hB1 := hb1
  obtain ⟨c01, c11, c21, c31⟩ := cells4 (boxA hB1)
  go_wp2_with fail
  refine (KSa.out _ (below2 (hB1))).mono ?_
  rintro e w2 ⟨rfl, hb2⟩
  have hB2 := bT (hB1) hb2
  obtain ⟨c02, c12, c22, c32⟩ := cells4 (boxB hB2)
  clear c01 c11 c21 c31
  go_wp2_with fail
  refine (KA.out _ (below2 hB2)).mono ?_
  rintro e w9 ⟨rfl, hb9⟩
  go_wp2
  go_ret
  exact ⟨rfl, bT (below2 hB2) hb9⟩

set_option maxRecDepth 20000 in
set_option maxHeartbeats 1000000 in
theorem apart_sb (a b : Rep) (p q : Option Addr) (c d : Nat) (w : World) (ha : RepIn w a p c) (hb : RepIn w b q d) (hT : Tens w) (h1 : size 9 a ≤ 300) (h2 : 300 < size 9 b) :
    Calls Tryd.prog 5 #[.agg (repCs a p c), .agg (repCs b q d)] w fun e w' => e = .returned (.bool true) ∧ Below w.heap.size w w' := by
  have KA := Lib.hid (show ∀ W, Below w.heap.size w W → _ from fun W h => awake_true W (hT.on h))
  have KSa := Lib.hid (show ∀ W, Below w.heap.size w W → _ from fun W hw => refsize_any 9 (by omega) a p c W (RepIn.below hw _ ha))
  have KSb := Lib.hid (show ∀ W, Below w.heap.size w W → _ from fun W hw => refsize_any 9 (by omega) b q d W (RepIn.below hw _ hb))
  unfold repCs at KSa
  unfold repCs at KSb
  unfold repCs
  have sa : decide ((300 : Int) < ((size 9 a : Nat) : Int)) = false := decide_eq_false (by omega)
  generalize size 9 a = na at *
  have sb : decide ((300 : Int) < ((size 9 b : Nat) : Int)) = true := decide_eq_true (by omega)
  generalize size 9 b = nb at *
  clear ha hb hT
  go_enter Tryd.func5, Tryd.ntmps5
  go_wp2_with fail
  refine (KA.out _ (below2 (Below.refl _ _))).mono ?_
  rintro e w1 ⟨rfl, hb1⟩
  have hB1 := hb1
  obtain ⟨c01, c11, c21, c31⟩ := cells4 (boxA hB1)
  go_wp2_with fail
  refine (KSa.out _ (below2 (hB1))).mono ?_
  rintro e w2 ⟨rfl, hb2⟩
  have hB2 := bT (hB1) hb2
  obtain ⟨c02, c12, c22, c32⟩ := cells4 (boxB hB2)
  clear c01 c11 c21 c31
  go_wp2_with fail
  refine (KSb.out _ (below2 (hB2))).mono ?_
  rintro e w3 ⟨rfl, hb3⟩
  have hB3 := bT (hB2) hb3
  obtain ⟨c03, c13, c23, c33⟩ := cells4 (boxA hB3)
  clear c02 c12 c22 c32
  go_wp2_with fail
  refine (KA.out _ (below2 hB3)).mono ?_
  rintro e w9 ⟨rfl, hb9⟩
  go_wp2
  go_ret
  exact ⟨rfl, bT (below2 hB3) hb9⟩

set_option maxRecDepth 20000 in
set_option maxHeartbeats 1000000 in
theorem apart_ra (a b : Rep) (p q : Option Addr) (c d : Nat) (w : World) (ha : RepIn w a p c) (hb : RepIn w b q d) (hT : Tens w) (h1 : size 9 a ≤ 300) (h2 : size 9 b ≤ 300) (h3 : right 4 a = false) :
    Calls Tryd.prog 5 #[.agg (repCs a p c), .agg (repCs b q d)] w fun e w' => e = .returned (.bool true) ∧ Below w.heap.size w w' := by
  have KA := Lib.hid (show ∀ W, Below w.heap.size w W → _ from fun W h => awake_true W (hT.on h))
  have KSa := Lib.hid (show ∀ W, Below w.heap.size w W → _ from fun W hw => refsize_any 9 (by omega) a p c W (RepIn.below hw _ ha))
  have KSb := Lib.hid (show ∀ W, Below w.heap.size w W → _ from fun W hw => refsize_any 9 (by omega) b q d W (RepIn.below hw _ hb))
  have KRa := Lib.hid (show ∀ W, Below w.heap.size w W → _ from fun W hw => refright_any 4 (by omega) a p c W (RepIn.below hw _ ha))
  unfold repCs at KSa
  unfold repCs at KSb
  unfold repCs at KRa
  unfold repCs
  rw [h3] at KRa
  have sa : decide ((300 : Int) < ((size 9 a : Nat) : Int)) = false := decide_eq_false (by omega)
  generalize size 9 a = na at *
  have sb : decide ((300 : Int) < ((size 9 b : Nat) : Int)) = false := decide_eq_false (by omega)
  generalize size 9 b = nb at *
  clear h3
  clear ha hb hT
  go_enter Tryd.func5, Tryd.ntmps5
  go_wp2_with fail
  refine (KA.out _ (below2 (Below.refl _ _))).mono ?_
  rintro e w1 ⟨rfl, hb1⟩
  have hB1 := hb1
  obtain ⟨c01, c11, c21, c31⟩ := cells4 (boxA hB1)
  go_wp2_with fail
  refine (KSa.out _ (below2 (hB1))).mono ?_
  rintro e w2 ⟨rfl, hb2⟩
  have hB2 := bT (hB1) hb2
  obtain ⟨c02, c12, c22, c32⟩ := cells4 (boxB hB2)
  clear c01 c11 c21 c31
  go_wp2_with fail
  refine (KSb.out _ (below2 (hB2))).mono ?_
  rintro e w3 ⟨rfl, hb3⟩
  have hB3 := bT (hB2) hb3
  obtain ⟨c03, c13, c23, c33⟩ := cells4 (boxA hB3)
  clear c02 c12 c22 c32
  go_wp2_with fail
  refine (KRa.out _ (below2 (hB3))).mono ?_
  rintro e w4 ⟨rfl, hb4⟩
  have hB4 := bT (hB3) hb4
  obtain ⟨c04, c14, c24, c34⟩ := cells4 (boxB hB4)
  clear c03 c13 c23 c33
  go_wp2_with fail
  refine (KA.out _ (below2 hB4)).mono ?_
  rintro e w9 ⟨rfl, hb9⟩
  go_wp2
  go_ret
  exact ⟨rfl, bT (below2 hB4) hb9⟩

set_option maxRecDepth 20000 in
set_option maxHeartbeats 1000000 in
theorem apart_rb (a b : Rep) (p q : Option Addr) (c d : Nat) (w : World) (ha : RepIn w a p c) (hb : RepIn w b q d) (hT : Tens w) (h1 : size 9 a ≤ 300) (h2 : size 9 b ≤ 300) (h3 : right 4 a = true) (h4 : right 4 b = false) :
    Calls Tryd.prog 5 #[.agg (repCs a p c), .agg (repCs b q d)] w fun e w' => e = .returned (.bool true) ∧ Below w.heap.size w w' := by
  have KA := Lib.hid (show ∀ W, Below w.heap.size w W → _ from fun W h => awake_true W (hT.on h))
  have KSa := Lib.hid (show ∀ W, Below w.heap.size w W → _ from fun W hw => refsize_any 9 (by omega) a p c W (RepIn.below hw _ ha))
  have KSb := Lib.hid (show ∀ W, Below w.heap.size w W → _ from fun W hw => refsize_any 9 (by omega) b q d W (RepIn.below hw _ hb))
  have KRa := Lib.hid (show ∀ W, Below w.heap.size w W → _ from fun W hw => refright_any 4 (by omega) a p c W (RepIn.below hw _ ha))
  have KRb := Lib.hid (show ∀ W, Below w.heap.size w W → _ from fun W hw => refright_any 4 (by omega) b q d W (RepIn.below hw _ hb))
  unfold repCs at KSa
  unfold repCs at KSb
  unfold repCs at KRa
  unfold repCs at KRb
  unfold repCs
  rw [h3] at KRa
  rw [h4] at KRb
  have sa : decide ((300 : Int) < ((size 9 a : Nat) : Int)) = false := decide_eq_false (by omega)
  generalize size 9 a = na at *
  have sb : decide ((300 : Int) < ((size 9 b : Nat) : Int)) = false := decide_eq_false (by omega)
  generalize size 9 b = nb at *
  clear h3 h4
  clear ha hb hT
  go_enter Tryd.func5, Tryd.ntmps5
  go_wp2_with fail
  refine (KA.out _ (below2 (Below.refl _ _))).mono ?_
  rintro e w1 ⟨rfl, hb1⟩
  have hB1 := hb1
  obtain ⟨c01, c11, c21, c31⟩ := cells4 (boxA hB1)
  go_wp2_with fail
  refine (KSa.out _ (below2 (hB1))).mono ?_
  rintro e w2 ⟨rfl, hb2⟩
  have hB2 := bT (hB1) hb2
  obtain ⟨c02, c12, c22, c32⟩ := cells4 (boxB hB2)
  clear c01 c11 c21 c31
  go_wp2_with fail
  refine (KSb.out _ (below2 (hB2))).mono ?_
  rintro e w3 ⟨rfl, hb3⟩
  have hB3 := bT (hB2) hb3
  obtain ⟨c03, c13, c23, c33⟩ := cells4 (boxA hB3)
  clear c02 c12 c22 c32
  go_wp2_with fail
  refine (KRa.out _ (below2 (hB3))).mono ?_
  rintro e w4 ⟨rfl, hb4⟩
  have hB4 := bT (hB3) hb4
  obtain ⟨c04, c14, c24, c34⟩ := cells4 (boxB hB4)
  clear c03 c13 c23 c33
  go_wp2_with fail
  refine (KRb.out _ (below2 (hB4))).mono ?_
  rintro e w5 ⟨rfl, hb5⟩
  have hB5 := bT (hB4) hb5
  clear c04 c14 c24 c34
  go_wp2_with fail
  refine (KA.out _ (below2 hB5)).mono ?_
  rintro e w9 ⟨rfl, hb9⟩
  go_wp2
  go_ret
  exact ⟨rfl, bT (below2 hB5) hb9⟩
end Go.Proofs.YtkcapbjmhimceaaDoor
