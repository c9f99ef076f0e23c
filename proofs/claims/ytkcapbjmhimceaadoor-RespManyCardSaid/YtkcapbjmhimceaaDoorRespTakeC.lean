/-
  resp.take, of any bytes.
-/
import Derived.Test.YtkcapbjmhimceaaDoorRespTakeB
namespace Go.Proofs.YtkcapbjmhimceaaDoor
open Go.RowKit Rp

/-- What takeArray answers, deep of D. -/
def ArrayAt (D : Nat) (ar : List UInt8 → List UInt8 → Option (Rep × List UInt8)) : Prop := ∀ (t l : List UInt8), l.length ≤ 1000000000 → t.length ≤ 281474976710656 → ∀ (p : Option Addr) (c : Nat) (w : World), Errs w → Runes w → Rest w p c l →
  Calls Tryd.prog 36 #[.string (bs t), .slice p l.length c, .int .i64 (D : Int)] w fun e w' => TookR w.heap.size w' p c l e (ar t l) ∧ Below w.heap.size w w'

/-- What take answers, given that. -/
def takeOf (ar : List UInt8 → List UInt8 → Option (Rep × List UInt8)) (l : List UInt8) : Option (Rep × List UInt8) :=
  match cut l with | none => none | some ([], _) => none | some (x :: t, rest) => kindOf ar x t rest

set_option maxHeartbeats 2000000 in
theorem take_none (ar : List UInt8 → List UInt8 → Option (Rep × List UInt8)) (l : List UInt8) (hc : cut l = none) (D : Int) (p : Option Addr) (c : Nat) (w : World) (hR : Runes w) (h : Rest w p c l) :
    Calls Tryd.prog 25 #[.slice p l.length c, .int .i64 D] w fun e w' => TookR w.heap.size w' p c l e (takeOf ar l) ∧ Below w.heap.size w w' := by
  have HO := Lib.hid (show takeOf ar l = none by rw [takeOf, hc])
  have HC := Lib.hid hc
  have HL1 := Lib.hid (fun (W : World) (hW : Below w.heap.size w W) => line_take l p c W (hR.on hW) (h.below hW))
  clear hc hR h
  go_enter Tryd.func25, Tryd.ntmps25
  go_wp2_with fail
  refine (HL1.out _ (bA (Below.refl _ _) _)).mono ?_
  rintro e w1 ⟨hv, hb1⟩
  rw [HC.out] at hv
  obtain ⟨S, q, n, d, rfl⟩ := hv
  have hbx : w1.heap[w.heap.size]? = some (.cells #[.int .i64 0, .string ⟨#[]⟩, .int .i64 0, .slice none 0 0] 26 (0, 0)) := (hb1.block _ (by simp)).trans (heap_alloc_new w _)
  obtain ⟨z0, z1, z2, z3⟩ := cells4 hbx
  have fz := frozen4 hbx
  go_wp2_with fail
  have hE := heap_set4 hbx (.int .i64 0) (.string ⟨#[]⟩) (.int .i64 0) (.slice none 0 0)
  have HE : Below w.heap.size w (set4 w1 w.heap.size (.int .i64 0) (.string ⟨#[]⟩) (.int .i64 0) (.slice none 0 0)) := set4_below (bT (bA (Below.refl _ _) _) hb1) (Nat.le_refl _) _ _ _ _
  show bodyPost _ _ _ _ _ (set4 w1 w.heap.size (.int .i64 0) (.string ⟨#[]⟩) (.int .i64 0) (.slice none 0 0))
  generalize set4 w1 w.heap.size (.int .i64 0) (.string ⟨#[]⟩) (.int .i64 0) (.slice none 0 0) = W at *
  obtain ⟨e0, e1, e2, e3⟩ := cells4 hE
  refine bodyPost_ret (v := .tuple #[.agg #[.int .i64 0, .string ⟨#[]⟩, .int .i64 0, .slice none 0 0], .slice none 0 0, .bool false]) (by simp [results, Tryd.results25, go_sem, e0, e1, e2, e3]) rfl ?_
  rw [HO.out]
  exact ⟨⟨_, _, _, _, _, _, _, _, _, rfl⟩, HE⟩

set_option maxHeartbeats 2000000 in
theorem take_empty (ar : List UInt8 → List UInt8 → Option (Rep × List UInt8)) (l r : List UInt8) (hc : cut l = some ([], r)) (D : Int) (p : Option Addr) (c : Nat) (w : World) (hR : Runes w) (h : Rest w p c l) :
    Calls Tryd.prog 25 #[.slice p l.length c, .int .i64 D] w fun e w' => TookR w.heap.size w' p c l e (takeOf ar l) ∧ Below w.heap.size w w' := by
  have HO := Lib.hid (show takeOf ar l = none by rw [takeOf, hc])
  have HC := Lib.hid hc
  have HL1 := Lib.hid (fun (W : World) (hW : Below w.heap.size w W) => line_take l p c W (hR.on hW) (h.below hW))
  clear hc hR h
  go_enter Tryd.func25, Tryd.ntmps25
  go_wp2_with fail
  refine (HL1.out _ (bA (Below.refl _ _) _)).mono ?_
  rintro e w1 ⟨hv, hb1⟩
  rw [HC.out] at hv
  obtain ⟨q, d, he, hs⟩ := hv
  rw [show bs [] = (⟨#[]⟩ : ByteArray) from rfl] at he
  subst he
  have hbx : w1.heap[w.heap.size]? = some (.cells #[.int .i64 0, .string ⟨#[]⟩, .int .i64 0, .slice none 0 0] 26 (0, 0)) := (hb1.block _ (by simp)).trans (heap_alloc_new w _)
  obtain ⟨z0, z1, z2, z3⟩ := cells4 hbx
  have fz := frozen4 hbx
  go_wp2_with fail
  have hE := heap_set4 hbx (.int .i64 0) (.string ⟨#[]⟩) (.int .i64 0) (.slice none 0 0)
  have HE : Below w.heap.size w (set4 w1 w.heap.size (.int .i64 0) (.string ⟨#[]⟩) (.int .i64 0) (.slice none 0 0)) := set4_below (bT (bA (Below.refl _ _) _) hb1) (Nat.le_refl _) _ _ _ _
  show bodyPost _ _ _ _ _ (set4 w1 w.heap.size (.int .i64 0) (.string ⟨#[]⟩) (.int .i64 0) (.slice none 0 0))
  generalize set4 w1 w.heap.size (.int .i64 0) (.string ⟨#[]⟩) (.int .i64 0) (.slice none 0 0) = W at *
  obtain ⟨e0, e1, e2, e3⟩ := cells4 hE
  refine bodyPost_ret (v := .tuple #[.agg #[.int .i64 0, .string ⟨#[]⟩, .int .i64 0, .slice none 0 0], .slice none 0 0, .bool false]) (by simp [results, Tryd.results25, go_sem, e0, e1, e2, e3]) rfl ?_
  rw [HO.out]
  exact ⟨⟨_, _, _, _, _, _, _, _, _, rfl⟩, HE⟩

theorem bs_tail (x : UInt8) (t : List UInt8) : (bs (x :: t)).extract 1 (bs (x :: t)).size = bs t := by
  apply ByteArray.ext
  rw [ByteArray.data_extract, bs_size]
  show (List.toArray (x :: t)).extract 1 (t.length + 1) = t.toArray
  simp
theorem bs_head (x y : UInt8) (t : List UInt8) : (((bs (x :: t)).extract 0 1).toList == [y]) = decide (x = y) := by
  have e : (bs (x :: t)).extract 0 1 = bs [x] := by
    apply ByteArray.ext
    rw [ByteArray.data_extract]
    show (List.toArray (x :: t)).extract 0 1 = [x].toArray
    simp
  rw [e, Lib.toList_data, list_bs]
  by_cases h : x = y
  · subst h; simp
  · simp [h]

theorem RepFrom.on {lo lo1 : Nat} {w w' : World} {x : Rep} {q : Option Addr} {d : Nat} (h : RepFrom lo1 w x q d) (hl : lo ≤ lo1) (hs : w.heap.size ≤ w'.heap.size) (hk : ∀ k, lo1 ≤ k → k < w.heap.size → w'.heap[k]? = w.heap[k]?) : RepFrom lo w' x q d := fun W hW => h W fun k k1 k2 => by
  rw [hW k (by omega) (by omega), hk k k1 k2]

set_option maxHeartbeats 4000000 in
theorem take_simple (ar : List UInt8 → List UInt8 → Option (Rep × List UInt8)) (l t r : List UInt8) (hc : cut l = some ((43 : UInt8) :: t, r)) (hl : l.length ≤ 1000000000) (D : Int) (p : Option Addr) (c : Nat) (w : World) (hL : Errs w) (hR : Runes w) (h : Rest w p c l) :
    Calls Tryd.prog 25 #[.slice p l.length c, .int .i64 D] w fun e w' => TookR w.heap.size w' p c l e (takeOf ar l) ∧ Below w.heap.size w w' := by
  have HO := Lib.hid (show takeOf ar l = kindOf ar (43 : UInt8) t r by rw [takeOf, hc])
  have HC := Lib.hid hc
  have hcl := cut_len hc
  rw [List.length_cons] at hcl
  have htl : t.length ≤ 281474976710656 := by omega
  have hrl : r.length ≤ 1000000000 := by omega
  have htm := Lib.hid (show t.length ≤ maxLen by unfold maxLen; omega)
  have hx1 := bs_tail (43 : UInt8) t
  have hemp : (bs ((43 : UInt8) :: t)).toList.isEmpty = false := by rw [Lib.toList_data, list_bs]; rfl
  have hge : 1 ≤ (bs ((43 : UInt8) :: t)).size := by rw [bs_size]; simp
  have k43 := bs_head 43 43 t
  rw [show decide ((43 : UInt8) = 43) = true from rfl] at k43
  have k45 := bs_head 43 45 t
  rw [show decide ((43 : UInt8) = 45) = false from rfl] at k45
  have k58 := bs_head 43 58 t
  rw [show decide ((43 : UInt8) = 58) = false from rfl] at k58
  have k36 := bs_head 43 36 t
  rw [show decide ((43 : UInt8) = 36) = false from rfl] at k36
  have k42 := bs_head 43 42 t
  rw [show decide ((43 : UInt8) = 42) = false from rfl] at k42
  have HL1 := Lib.hid (fun (W : World) (hW : Below w.heap.size w W) => line_take l p c W (hR.on hW) (h.below hW))
  have HL := Lib.hid hL
  have HR := Lib.hid hR
  have HH := Lib.hid h
  clear hc hL hR h hcl
  go_enter Tryd.func25, Tryd.ntmps25
  go_wp2_with fail
  refine (HL1.out _ (bA (Below.refl _ _) _)).mono ?_
  rintro e w1 ⟨hv, hb1⟩
  rw [HC.out] at hv
  obtain ⟨q, d, rfl, hs⟩ := hv
  have hB1 : Below w.heap.size w w1 := bT (bA (Below.refl _ _) _) hb1
  have hlt1 : w.heap.size < w1.heap.size := by have := hb1.size; simp at this; omega
  have HBX := Lib.hid (show w1.heap[w.heap.size]? = some (.cells #[.int .i64 0, .string ⟨#[]⟩, .int .i64 0, .slice none 0 0] 26 (0, 0)) from (hb1.block _ (by simp)).trans (heap_alloc_new w _))
  go_wp2_with fail
  refine (text_any _ _).mono ?_
  rintro e w2 ⟨rfl, hb2⟩
  have hbx2 := (hb2.block _ (Array.getElem?_eq_some_iff.1 HBX.out).1).trans HBX.out
  obtain ⟨z0, z1, z2, z3⟩ := cells4 hbx2
  have fz := frozen4 hbx2
  go_wp2_with fail
  have hE := heap_set4 hbx2 (.int .i64 0) (.string (bs t)) (.int .i64 0) (.slice none 0 0)
  have HE : Below w.heap.size w (set4 w2 w.heap.size (.int .i64 0) (.string (bs t)) (.int .i64 0) (.slice none 0 0)) := set4_below (bT hB1 hb2) (Nat.le_refl _) _ _ _ _
  show bodyPost _ _ _ _ _ (set4 w2 w.heap.size (.int .i64 0) (.string (bs t)) (.int .i64 0) (.slice none 0 0))
  generalize set4 w2 w.heap.size (.int .i64 0) (.string (bs t)) (.int .i64 0) (.slice none 0 0) = W at *
  obtain ⟨e0, e1, e2, e3⟩ := cells4 hE
  refine bodyPost_ret (v := .tuple #[.agg #[.int .i64 0, .string (bs t), .int .i64 0, .slice none 0 0], .slice q r.length d, .bool true]) (by simp [results, Tryd.results25, go_sem, e0, e1, e2, e3]) rfl ?_
  rw [HO.out, show kindOf ar (43 : UInt8) t r = some (.mk 0 t 0 [], r) from rfl]
  exact ⟨⟨none, 0, q, d, rfl, leaf_rep _ _ _ _ _ ⟨by decide, by decide⟩ ⟨by decide, by decide⟩ htm.out, hs⟩, HE⟩

set_option maxHeartbeats 4000000 in
theorem take_fault (ar : List UInt8 → List UInt8 → Option (Rep × List UInt8)) (l t r : List UInt8) (hc : cut l = some ((45 : UInt8) :: t, r)) (hl : l.length ≤ 1000000000) (D : Int) (p : Option Addr) (c : Nat) (w : World) (hL : Errs w) (hR : Runes w) (h : Rest w p c l) :
    Calls Tryd.prog 25 #[.slice p l.length c, .int .i64 D] w fun e w' => TookR w.heap.size w' p c l e (takeOf ar l) ∧ Below w.heap.size w w' := by
  have HO := Lib.hid (show takeOf ar l = kindOf ar (45 : UInt8) t r by rw [takeOf, hc])
  have HC := Lib.hid hc
  have hcl := cut_len hc
  rw [List.length_cons] at hcl
  have htl : t.length ≤ 281474976710656 := by omega
  have hrl : r.length ≤ 1000000000 := by omega
  have htm := Lib.hid (show t.length ≤ maxLen by unfold maxLen; omega)
  have hx1 := bs_tail (45 : UInt8) t
  have hemp : (bs ((45 : UInt8) :: t)).toList.isEmpty = false := by rw [Lib.toList_data, list_bs]; rfl
  have hge : 1 ≤ (bs ((45 : UInt8) :: t)).size := by rw [bs_size]; simp
  have k43 := bs_head 45 43 t
  rw [show decide ((45 : UInt8) = 43) = false from rfl] at k43
  have k45 := bs_head 45 45 t
  rw [show decide ((45 : UInt8) = 45) = true from rfl] at k45
  have k58 := bs_head 45 58 t
  rw [show decide ((45 : UInt8) = 58) = false from rfl] at k58
  have k36 := bs_head 45 36 t
  rw [show decide ((45 : UInt8) = 36) = false from rfl] at k36
  have k42 := bs_head 45 42 t
  rw [show decide ((45 : UInt8) = 42) = false from rfl] at k42
  have HL1 := Lib.hid (fun (W : World) (hW : Below w.heap.size w W) => line_take l p c W (hR.on hW) (h.below hW))
  have HL := Lib.hid hL
  have HR := Lib.hid hR
  have HH := Lib.hid h
  clear hc hL hR h hcl
  go_enter Tryd.func25, Tryd.ntmps25
  go_wp2_with fail
  refine (HL1.out _ (bA (Below.refl _ _) _)).mono ?_
  rintro e w1 ⟨hv, hb1⟩
  rw [HC.out] at hv
  obtain ⟨q, d, rfl, hs⟩ := hv
  have hB1 : Below w.heap.size w w1 := bT (bA (Below.refl _ _) _) hb1
  have hlt1 : w.heap.size < w1.heap.size := by have := hb1.size; simp at this; omega
  have HBX := Lib.hid (show w1.heap[w.heap.size]? = some (.cells #[.int .i64 0, .string ⟨#[]⟩, .int .i64 0, .slice none 0 0] 26 (0, 0)) from (hb1.block _ (by simp)).trans (heap_alloc_new w _))
  go_wp2_with fail
  refine (wrong_any _ _).mono ?_
  rintro e w2 ⟨rfl, hb2⟩
  have hbx2 := (hb2.block _ (Array.getElem?_eq_some_iff.1 HBX.out).1).trans HBX.out
  obtain ⟨z0, z1, z2, z3⟩ := cells4 hbx2
  have fz := frozen4 hbx2
  go_wp2_with fail
  have hE := heap_set4 hbx2 (.int .i64 1) (.string (bs t)) (.int .i64 0) (.slice none 0 0)
  have HE : Below w.heap.size w (set4 w2 w.heap.size (.int .i64 1) (.string (bs t)) (.int .i64 0) (.slice none 0 0)) := set4_below (bT hB1 hb2) (Nat.le_refl _) _ _ _ _
  show bodyPost _ _ _ _ _ (set4 w2 w.heap.size (.int .i64 1) (.string (bs t)) (.int .i64 0) (.slice none 0 0))
  generalize set4 w2 w.heap.size (.int .i64 1) (.string (bs t)) (.int .i64 0) (.slice none 0 0) = W at *
  obtain ⟨e0, e1, e2, e3⟩ := cells4 hE
  refine bodyPost_ret (v := .tuple #[.agg #[.int .i64 1, .string (bs t), .int .i64 0, .slice none 0 0], .slice q r.length d, .bool true]) (by simp [results, Tryd.results25, go_sem, e0, e1, e2, e3]) rfl ?_
  rw [HO.out, show kindOf ar (45 : UInt8) t r = some (.mk 1 t 0 [], r) from rfl]
  exact ⟨⟨none, 0, q, d, rfl, leaf_rep _ _ _ _ _ ⟨by decide, by decide⟩ ⟨by decide, by decide⟩ htm.out, hs⟩, HE⟩

set_option maxHeartbeats 4000000 in
theorem take_other (ar : List UInt8 → List UInt8 → Option (Rep × List UInt8)) (l t r : List UInt8) (x : UInt8) (hc : cut l = some (x :: t, r)) (hl : l.length ≤ 1000000000) (n43 : ¬ x = 43) (n45 : ¬ x = 45) (n58 : ¬ x = 58) (n36 : ¬ x = 36) (n42 : ¬ x = 42) (D : Int) (p : Option Addr) (c : Nat) (w : World) (hL : Errs w) (hR : Runes w) (h : Rest w p c l) :
    Calls Tryd.prog 25 #[.slice p l.length c, .int .i64 D] w fun e w' => TookR w.heap.size w' p c l e (takeOf ar l) ∧ Below w.heap.size w w' := by
  have HO := Lib.hid (show takeOf ar l = kindOf ar x t r by rw [takeOf, hc])
  have HC := Lib.hid hc
  have hcl := cut_len hc
  rw [List.length_cons] at hcl
  have htl : t.length ≤ 281474976710656 := by omega
  have hrl : r.length ≤ 1000000000 := by omega
  have htm := Lib.hid (show t.length ≤ maxLen by unfold maxLen; omega)
  have hx1 := bs_tail x t
  have hemp : (bs (x :: t)).toList.isEmpty = false := by rw [Lib.toList_data, list_bs]; rfl
  have hge : 1 ≤ (bs (x :: t)).size := by rw [bs_size]; simp
  have k43 := bs_head x 43 t
  rw [decide_eq_false n43] at k43
  have k45 := bs_head x 45 t
  rw [decide_eq_false n45] at k45
  have k58 := bs_head x 58 t
  rw [decide_eq_false n58] at k58
  have k36 := bs_head x 36 t
  rw [decide_eq_false n36] at k36
  have k42 := bs_head x 42 t
  rw [decide_eq_false n42] at k42
  have HL1 := Lib.hid (fun (W : World) (hW : Below w.heap.size w W) => line_take l p c W (hR.on hW) (h.below hW))
  have HL := Lib.hid hL
  have HR := Lib.hid hR
  have HH := Lib.hid h
  clear hc hL hR h hcl
  go_enter Tryd.func25, Tryd.ntmps25
  go_wp2_with fail
  refine (HL1.out _ (bA (Below.refl _ _) _)).mono ?_
  rintro e w1 ⟨hv, hb1⟩
  rw [HC.out] at hv
  obtain ⟨q, d, rfl, hs⟩ := hv
  have hB1 : Below w.heap.size w w1 := bT (bA (Below.refl _ _) _) hb1
  have hlt1 : w.heap.size < w1.heap.size := by have := hb1.size; simp at this; omega
  have HBX := Lib.hid (show w1.heap[w.heap.size]? = some (.cells #[.int .i64 0, .string ⟨#[]⟩, .int .i64 0, .slice none 0 0] 26 (0, 0)) from (hb1.block _ (by simp)).trans (heap_alloc_new w _))
  have hbx2 := ((Below.refl w1.heap.size w1).block _ (Array.getElem?_eq_some_iff.1 HBX.out).1).trans HBX.out
  obtain ⟨z0, z1, z2, z3⟩ := cells4 hbx2
  have fz := frozen4 hbx2
  go_wp2_with fail
  have hE := heap_set4 hbx2 (.int .i64 0) (.string ⟨#[]⟩) (.int .i64 0) (.slice none 0 0)
  have HE : Below w.heap.size w (set4 w1 w.heap.size (.int .i64 0) (.string ⟨#[]⟩) (.int .i64 0) (.slice none 0 0)) := set4_below hB1 (Nat.le_refl _) _ _ _ _
  show bodyPost _ _ _ _ _ (set4 w1 w.heap.size (.int .i64 0) (.string ⟨#[]⟩) (.int .i64 0) (.slice none 0 0))
  generalize set4 w1 w.heap.size (.int .i64 0) (.string ⟨#[]⟩) (.int .i64 0) (.slice none 0 0) = W at *
  obtain ⟨e0, e1, e2, e3⟩ := cells4 hE
  refine bodyPost_ret (v := .tuple #[.agg #[.int .i64 0, .string ⟨#[]⟩, .int .i64 0, .slice none 0 0], .slice none 0 0, .bool false]) (by simp [results, Tryd.results25, go_sem, e0, e1, e2, e3]) rfl ?_
  rw [HO.out, kindOf, if_neg n43, if_neg n45, if_neg n58, if_neg n36, if_neg n42]
  exact ⟨⟨_, _, _, _, _, _, _, _, _, rfl⟩, HE⟩

set_option maxHeartbeats 4000000 in
theorem take_whole (ar : List UInt8 → List UInt8 → Option (Rep × List UInt8)) (l t r : List UInt8) (hc : cut l = some ((58 : UInt8) :: t, r)) (hl : l.length ≤ 1000000000) (D : Int) (n : Int) (hp : parseL t = some n) (p : Option Addr) (c : Nat) (w : World) (hL : Errs w) (hR : Runes w) (h : Rest w p c l) :
    Calls Tryd.prog 25 #[.slice p l.length c, .int .i64 D] w fun e w' => TookR w.heap.size w' p c l e (takeOf ar l) ∧ Below w.heap.size w w' := by
  have HO := Lib.hid (show takeOf ar l = kindOf ar (58 : UInt8) t r by rw [takeOf, hc])
  have HC := Lib.hid hc
  have hcl := cut_len hc
  rw [List.length_cons] at hcl
  have htl : t.length ≤ 281474976710656 := by omega
  have hrl : r.length ≤ 1000000000 := by omega
  have htm := Lib.hid (show t.length ≤ maxLen by unfold maxLen; omega)
  have hx1 := bs_tail (58 : UInt8) t
  have hemp : (bs ((58 : UInt8) :: t)).toList.isEmpty = false := by rw [Lib.toList_data, list_bs]; rfl
  have hge : 1 ≤ (bs ((58 : UInt8) :: t)).size := by rw [bs_size]; simp
  have k43 := bs_head 58 43 t
  rw [show decide ((58 : UInt8) = 43) = false from rfl] at k43
  have k45 := bs_head 58 45 t
  rw [show decide ((58 : UInt8) = 45) = false from rfl] at k45
  have k58 := bs_head 58 58 t
  rw [show decide ((58 : UInt8) = 58) = true from rfl] at k58
  have k36 := bs_head 58 36 t
  rw [show decide ((58 : UInt8) = 36) = false from rfl] at k36
  have k42 := bs_head 58 42 t
  rw [show decide ((58 : UInt8) = 42) = false from rfl] at k42
  have HL1 := Lib.hid (fun (W : World) (hW : Below w.heap.size w W) => line_take l p c W (hR.on hW) (h.below hW))
  have HL := Lib.hid hL
  have HR := Lib.hid hR
  have HH := Lib.hid h
  clear hc hL hR h hcl
  go_enter Tryd.func25, Tryd.ntmps25
  go_wp2_with fail
  refine (HL1.out _ (bA (Below.refl _ _) _)).mono ?_
  rintro e w1 ⟨hv, hb1⟩
  rw [HC.out] at hv
  obtain ⟨q, d, rfl, hs⟩ := hv
  have hB1 : Below w.heap.size w w1 := bT (bA (Below.refl _ _) _) hb1
  have hlt1 : w.heap.size < w1.heap.size := by have := hb1.size; simp at this; omega
  have HBX := Lib.hid (show w1.heap[w.heap.size]? = some (.cells #[.int .i64 0, .string ⟨#[]⟩, .int .i64 0, .slice none 0 0] 26 (0, 0)) from (hb1.block _ (by simp)).trans (heap_alloc_new w _))
  have HPP := Lib.hid (parse_any t htl w1 (HL.out.on hB1))
  rw [hp] at HPP
  go_wp2_with fail
  refine HPP.out.mono ?_
  rintro e w2 ⟨rfl, hb2⟩
  go_wp2_with fail
  refine (int_any _ _).mono ?_
  rintro e w3 ⟨rfl, hb3⟩
  have hbx2 := ((bT hb2 hb3).block _ (Array.getElem?_eq_some_iff.1 HBX.out).1).trans HBX.out
  obtain ⟨z0, z1, z2, z3⟩ := cells4 hbx2
  have fz := frozen4 hbx2
  go_wp2_with fail
  have hE := heap_set4 hbx2 (.int .i64 2) (.string ⟨#[]⟩) (.int .i64 n) (.slice none 0 0)
  have HE : Below w.heap.size w (set4 w3 w.heap.size (.int .i64 2) (.string ⟨#[]⟩) (.int .i64 n) (.slice none 0 0)) := set4_below (bT (bT hB1 hb2) hb3) (Nat.le_refl _) _ _ _ _
  show bodyPost _ _ _ _ _ (set4 w3 w.heap.size (.int .i64 2) (.string ⟨#[]⟩) (.int .i64 n) (.slice none 0 0))
  generalize set4 w3 w.heap.size (.int .i64 2) (.string ⟨#[]⟩) (.int .i64 n) (.slice none 0 0) = W at *
  obtain ⟨e0, e1, e2, e3⟩ := cells4 hE
  refine bodyPost_ret (v := .tuple #[.agg #[.int .i64 2, .string ⟨#[]⟩, .int .i64 n, .slice none 0 0], .slice q r.length d, .bool true]) (by simp [results, Tryd.results25, go_sem, e0, e1, e2, e3]) rfl ?_
  rw [HO.out, show kindOf ar (58 : UInt8) t r = some (.mk 2 [] n [], r) by
    show (match parseL t with | none => none | some n => some (Rep.mk 2 [] n [], r)) = _
    rw [hp]]
  exact ⟨⟨none, 0, q, d, rfl, leaf_rep _ _ _ _ _ ⟨by decide, by decide⟩ (parseL_some hp).1 (Nat.zero_le _), hs⟩, HE⟩

set_option maxHeartbeats 4000000 in
theorem take_unwhole (ar : List UInt8 → List UInt8 → Option (Rep × List UInt8)) (l t r : List UInt8) (hc : cut l = some ((58 : UInt8) :: t, r)) (hl : l.length ≤ 1000000000) (D : Int) (hp : parseL t = none) (p : Option Addr) (c : Nat) (w : World) (hL : Errs w) (hR : Runes w) (h : Rest w p c l) :
    Calls Tryd.prog 25 #[.slice p l.length c, .int .i64 D] w fun e w' => TookR w.heap.size w' p c l e (takeOf ar l) ∧ Below w.heap.size w w' := by
  have HO := Lib.hid (show takeOf ar l = kindOf ar (58 : UInt8) t r by rw [takeOf, hc])
  have HC := Lib.hid hc
  have hcl := cut_len hc
  rw [List.length_cons] at hcl
  have htl : t.length ≤ 281474976710656 := by omega
  have hrl : r.length ≤ 1000000000 := by omega
  have htm := Lib.hid (show t.length ≤ maxLen by unfold maxLen; omega)
  have hx1 := bs_tail (58 : UInt8) t
  have hemp : (bs ((58 : UInt8) :: t)).toList.isEmpty = false := by rw [Lib.toList_data, list_bs]; rfl
  have hge : 1 ≤ (bs ((58 : UInt8) :: t)).size := by rw [bs_size]; simp
  have k43 := bs_head 58 43 t
  rw [show decide ((58 : UInt8) = 43) = false from rfl] at k43
  have k45 := bs_head 58 45 t
  rw [show decide ((58 : UInt8) = 45) = false from rfl] at k45
  have k58 := bs_head 58 58 t
  rw [show decide ((58 : UInt8) = 58) = true from rfl] at k58
  have k36 := bs_head 58 36 t
  rw [show decide ((58 : UInt8) = 36) = false from rfl] at k36
  have k42 := bs_head 58 42 t
  rw [show decide ((58 : UInt8) = 42) = false from rfl] at k42
  have HL1 := Lib.hid (fun (W : World) (hW : Below w.heap.size w W) => line_take l p c W (hR.on hW) (h.below hW))
  have HL := Lib.hid hL
  have HR := Lib.hid hR
  have HH := Lib.hid h
  clear hc hL hR h hcl
  go_enter Tryd.func25, Tryd.ntmps25
  go_wp2_with fail
  refine (HL1.out _ (bA (Below.refl _ _) _)).mono ?_
  rintro e w1 ⟨hv, hb1⟩
  rw [HC.out] at hv
  obtain ⟨q, d, rfl, hs⟩ := hv
  have hB1 : Below w.heap.size w w1 := bT (bA (Below.refl _ _) _) hb1
  have hlt1 : w.heap.size < w1.heap.size := by have := hb1.size; simp at this; omega
  have HBX := Lib.hid (show w1.heap[w.heap.size]? = some (.cells #[.int .i64 0, .string ⟨#[]⟩, .int .i64 0, .slice none 0 0] 26 (0, 0)) from (hb1.block _ (by simp)).trans (heap_alloc_new w _))
  have HPP := Lib.hid (parse_any t htl w1 (HL.out.on hB1))
  rw [hp] at HPP
  go_wp2_with fail
  refine HPP.out.mono ?_
  rintro e w2 ⟨rfl, hb2⟩
  go_wp2_with fail
  refine (int_any _ _).mono ?_
  rintro e w3 ⟨rfl, hb3⟩
  have hbx2 := ((bT hb2 hb3).block _ (Array.getElem?_eq_some_iff.1 HBX.out).1).trans HBX.out
  obtain ⟨z0, z1, z2, z3⟩ := cells4 hbx2
  have fz := frozen4 hbx2
  go_wp2_with fail
  have hE := heap_set4 hbx2 (.int .i64 2) (.string ⟨#[]⟩) (.int .i64 0) (.slice none 0 0)
  have HE : Below w.heap.size w (set4 w3 w.heap.size (.int .i64 2) (.string ⟨#[]⟩) (.int .i64 0) (.slice none 0 0)) := set4_below (bT (bT hB1 hb2) hb3) (Nat.le_refl _) _ _ _ _
  show bodyPost _ _ _ _ _ (set4 w3 w.heap.size (.int .i64 2) (.string ⟨#[]⟩) (.int .i64 0) (.slice none 0 0))
  generalize set4 w3 w.heap.size (.int .i64 2) (.string ⟨#[]⟩) (.int .i64 0) (.slice none 0 0) = W at *
  obtain ⟨e0, e1, e2, e3⟩ := cells4 hE
  refine bodyPost_ret (v := .tuple #[.agg #[.int .i64 2, .string ⟨#[]⟩, .int .i64 0, .slice none 0 0], .slice q r.length d, .bool false]) (by simp [results, Tryd.results25, go_sem, e0, e1, e2, e3]) rfl ?_
  rw [HO.out, show kindOf ar (58 : UInt8) t r = none by
    show (match parseL t with | none => none | some n => some (Rep.mk 2 [] n [], r)) = _
    rw [hp]]
  exact ⟨⟨_, _, _, _, _, _, _, _, _, rfl⟩, HE⟩

set_option maxHeartbeats 4000000 in
theorem take_bulk (ar : List UInt8 → List UInt8 → Option (Rep × List UInt8)) (l t r : List UInt8) (hc : cut l = some ((36 : UInt8) :: t, r)) (hl : l.length ≤ 1000000000) (D : Int) (p : Option Addr) (c : Nat) (w : World) (hL : Errs w) (hR : Runes w) (h : Rest w p c l) :
    Calls Tryd.prog 25 #[.slice p l.length c, .int .i64 D] w fun e w' => TookR w.heap.size w' p c l e (takeOf ar l) ∧ Below w.heap.size w w' := by
  have HO := Lib.hid (show takeOf ar l = kindOf ar (36 : UInt8) t r by rw [takeOf, hc])
  have HC := Lib.hid hc
  have hcl := cut_len hc
  rw [List.length_cons] at hcl
  have htl : t.length ≤ 281474976710656 := by omega
  have hrl : r.length ≤ 1000000000 := by omega
  have htm := Lib.hid (show t.length ≤ maxLen by unfold maxLen; omega)
  have hx1 := bs_tail (36 : UInt8) t
  have hemp : (bs ((36 : UInt8) :: t)).toList.isEmpty = false := by rw [Lib.toList_data, list_bs]; rfl
  have hge : 1 ≤ (bs ((36 : UInt8) :: t)).size := by rw [bs_size]; simp
  have k43 := bs_head 36 43 t
  rw [show decide ((36 : UInt8) = 43) = false from rfl] at k43
  have k45 := bs_head 36 45 t
  rw [show decide ((36 : UInt8) = 45) = false from rfl] at k45
  have k58 := bs_head 36 58 t
  rw [show decide ((36 : UInt8) = 58) = false from rfl] at k58
  have k36 := bs_head 36 36 t
  rw [show decide ((36 : UInt8) = 36) = true from rfl] at k36
  have k42 := bs_head 36 42 t
  rw [show decide ((36 : UInt8) = 42) = false from rfl] at k42
  have HL1 := Lib.hid (fun (W : World) (hW : Below w.heap.size w W) => line_take l p c W (hR.on hW) (h.below hW))
  have HL := Lib.hid hL
  have HR := Lib.hid hR
  have HH := Lib.hid h
  clear hc hL hR h hcl
  go_enter Tryd.func25, Tryd.ntmps25
  go_wp2_with fail
  refine (HL1.out _ (bA (Below.refl _ _) _)).mono ?_
  rintro e w1 ⟨hv, hb1⟩
  rw [HC.out] at hv
  obtain ⟨q, d, rfl, hs⟩ := hv
  have hB1 : Below w.heap.size w w1 := bT (bA (Below.refl _ _) _) hb1
  have hlt1 : w.heap.size < w1.heap.size := by have := hb1.size; simp at this; omega
  have HBX := Lib.hid (show w1.heap[w.heap.size]? = some (.cells #[.int .i64 0, .string ⟨#[]⟩, .int .i64 0, .slice none 0 0] 26 (0, 0)) from (hb1.block _ (by simp)).trans (heap_alloc_new w _))
  have HCT := Lib.hid (bulk_any t r htl q d w1 (HL.out.on hB1) (hs w1 (HH.out.below hB1)))
  go_wp2_with fail
  refine HCT.out.mono ?_
  rintro e w2 ⟨hv, hb2⟩
  have hbx2 := (hb2.block _ (Array.getElem?_eq_some_iff.1 HBX.out).1).trans HBX.out
  obtain ⟨z0, z1, z2, z3⟩ := cells4 hbx2
  have fz := frozen4 hbx2
  have hko : kindOf ar (36 : UInt8) t r = bulkOf t r := rfl
  cases hb : bulkOf t r with
  | none =>
    rw [hb] at hv
    obtain ⟨k', S', n', q', m', d', p', x', c', rfl⟩ := hv
    go_wp2_with fail
    have hE := heap_set4 hbx2 ((.int .i64 k')) ((.string S')) ((.int .i64 n')) ((.slice q' m' d'))
    have HE : Below w.heap.size w (set4 w2 w.heap.size ((.int .i64 k')) ((.string S')) ((.int .i64 n')) ((.slice q' m' d'))) := set4_below (bT hB1 hb2) (Nat.le_refl _) _ _ _ _
    show bodyPost _ _ _ _ _ (set4 w2 w.heap.size ((.int .i64 k')) ((.string S')) ((.int .i64 n')) ((.slice q' m' d')))
    generalize set4 w2 w.heap.size ((.int .i64 k')) ((.string S')) ((.int .i64 n')) ((.slice q' m' d')) = W at *
    obtain ⟨e0, e1, e2, e3⟩ := cells4 hE
    refine bodyPost_ret (v := .tuple #[.agg #[(.int .i64 k'), (.string S'), (.int .i64 n'), (.slice q' m' d')], .slice p' x' c', .bool false]) (by simp [results, Tryd.results25, go_sem, e0, e1, e2, e3]) rfl ?_
    rw [HO.out, hko, hb]
    exact ⟨⟨_, _, _, _, _, _, _, _, _, rfl⟩, HE⟩
  | some y =>
    obtain ⟨x, l2⟩ := y
    rw [hb] at hv
    obtain ⟨q', d', p', c', rfl, hfrom, hsub⟩ := hv
    simp only [repCs]
    go_wp2_with fail
    have hE := heap_set4 hbx2 ((.int .i64 x.kind)) ((.string (bs x.str))) ((.int .i64 x.num)) ((.slice q' x.kids.length d'))
    have HE : Below w.heap.size w (set4 w2 w.heap.size ((.int .i64 x.kind)) ((.string (bs x.str))) ((.int .i64 x.num)) ((.slice q' x.kids.length d'))) := set4_below (bT hB1 hb2) (Nat.le_refl _) _ _ _ _
    have hF := hfrom.on (lo := w.heap.size) (w' := set4 w2 w.heap.size (.int .i64 x.kind) (.string (bs x.str)) (.int .i64 x.num) (.slice q' x.kids.length d')) (by omega) (by rw [set4_size]; exact Nat.le_refl _) (fun k k1 _ => set4_other _ _ _ _ _ _ _ (by omega))
    show bodyPost _ _ _ _ _ (set4 w2 w.heap.size ((.int .i64 x.kind)) ((.string (bs x.str))) ((.int .i64 x.num)) ((.slice q' x.kids.length d')))
    generalize set4 w2 w.heap.size ((.int .i64 x.kind)) ((.string (bs x.str))) ((.int .i64 x.num)) ((.slice q' x.kids.length d')) = W at *
    obtain ⟨e0, e1, e2, e3⟩ := cells4 hE
    refine bodyPost_ret (v := .tuple #[.agg #[(.int .i64 x.kind), (.string (bs x.str)), (.int .i64 x.num), (.slice q' x.kids.length d')], .slice p' l2.length c', .bool true]) (by simp [results, Tryd.results25, go_sem, e0, e1, e2, e3]) rfl ?_
    rw [HO.out, hko, hb]
    exact ⟨⟨q', d', p', c', rfl, hF, hs.trans hsub⟩, HE⟩

set_option maxHeartbeats 4000000 in
theorem take_array (ar : List UInt8 → List UInt8 → Option (Rep × List UInt8)) (l t r : List UInt8) (hc : cut l = some ((42 : UInt8) :: t, r)) (hl : l.length ≤ 1000000000) (D : Nat) (hA : ArrayAt D ar) (p : Option Addr) (c : Nat) (w : World) (hL : Errs w) (hR : Runes w) (h : Rest w p c l) :
    Calls Tryd.prog 25 #[.slice p l.length c, .int .i64 (D : Int)] w fun e w' => TookR w.heap.size w' p c l e (takeOf ar l) ∧ Below w.heap.size w w' := by
  have HO := Lib.hid (show takeOf ar l = kindOf ar (42 : UInt8) t r by rw [takeOf, hc])
  have HC := Lib.hid hc
  have hcl := cut_len hc
  rw [List.length_cons] at hcl
  have htl : t.length ≤ 281474976710656 := by omega
  have hrl : r.length ≤ 1000000000 := by omega
  have htm := Lib.hid (show t.length ≤ maxLen by unfold maxLen; omega)
  have hx1 := bs_tail (42 : UInt8) t
  have hemp : (bs ((42 : UInt8) :: t)).toList.isEmpty = false := by rw [Lib.toList_data, list_bs]; rfl
  have hge : 1 ≤ (bs ((42 : UInt8) :: t)).size := by rw [bs_size]; simp
  have k43 := bs_head 42 43 t
  rw [show decide ((42 : UInt8) = 43) = false from rfl] at k43
  have k45 := bs_head 42 45 t
  rw [show decide ((42 : UInt8) = 45) = false from rfl] at k45
  have k58 := bs_head 42 58 t
  rw [show decide ((42 : UInt8) = 58) = false from rfl] at k58
  have k36 := bs_head 42 36 t
  rw [show decide ((42 : UInt8) = 36) = false from rfl] at k36
  have k42 := bs_head 42 42 t
  rw [show decide ((42 : UInt8) = 42) = true from rfl] at k42
  have HL1 := Lib.hid (fun (W : World) (hW : Below w.heap.size w W) => line_take l p c W (hR.on hW) (h.below hW))
  have HL := Lib.hid hL
  have HR := Lib.hid hR
  have HH := Lib.hid h
  clear hc hL hR h hcl
  go_enter Tryd.func25, Tryd.ntmps25
  go_wp2_with fail
  refine (HL1.out _ (bA (Below.refl _ _) _)).mono ?_
  rintro e w1 ⟨hv, hb1⟩
  rw [HC.out] at hv
  obtain ⟨q, d, rfl, hs⟩ := hv
  have hB1 : Below w.heap.size w w1 := bT (bA (Below.refl _ _) _) hb1
  have hlt1 : w.heap.size < w1.heap.size := by have := hb1.size; simp at this; omega
  have HBX := Lib.hid (show w1.heap[w.heap.size]? = some (.cells #[.int .i64 0, .string ⟨#[]⟩, .int .i64 0, .slice none 0 0] 26 (0, 0)) from (hb1.block _ (by simp)).trans (heap_alloc_new w _))
  have HCT := Lib.hid (hA t r hrl htl q d w1 (HL.out.on hB1) (HR.out.on hB1) (hs w1 (HH.out.below hB1)))
  go_wp2_with fail
  refine HCT.out.mono ?_
  rintro e w2 ⟨hv, hb2⟩
  have hbx2 := (hb2.block _ (Array.getElem?_eq_some_iff.1 HBX.out).1).trans HBX.out
  obtain ⟨z0, z1, z2, z3⟩ := cells4 hbx2
  have fz := frozen4 hbx2
  have hko : kindOf ar (42 : UInt8) t r = ar t r := rfl
  cases hb : ar t r with
  | none =>
    rw [hb] at hv
    obtain ⟨k', S', n', q', m', d', p', x', c', rfl⟩ := hv
    go_wp2_with fail
    have hE := heap_set4 hbx2 ((.int .i64 k')) ((.string S')) ((.int .i64 n')) ((.slice q' m' d'))
    have HE : Below w.heap.size w (set4 w2 w.heap.size ((.int .i64 k')) ((.string S')) ((.int .i64 n')) ((.slice q' m' d'))) := set4_below (bT hB1 hb2) (Nat.le_refl _) _ _ _ _
    show bodyPost _ _ _ _ _ (set4 w2 w.heap.size ((.int .i64 k')) ((.string S')) ((.int .i64 n')) ((.slice q' m' d')))
    generalize set4 w2 w.heap.size ((.int .i64 k')) ((.string S')) ((.int .i64 n')) ((.slice q' m' d')) = W at *
    obtain ⟨e0, e1, e2, e3⟩ := cells4 hE
    refine bodyPost_ret (v := .tuple #[.agg #[(.int .i64 k'), (.string S'), (.int .i64 n'), (.slice q' m' d')], .slice p' x' c', .bool false]) (by simp [results, Tryd.results25, go_sem, e0, e1, e2, e3]) rfl ?_
    rw [HO.out, hko, hb]
    exact ⟨⟨_, _, _, _, _, _, _, _, _, rfl⟩, HE⟩
  | some y =>
    obtain ⟨x, l2⟩ := y
    rw [hb] at hv
    obtain ⟨q', d', p', c', rfl, hfrom, hsub⟩ := hv
    simp only [repCs]
    go_wp2_with fail
    have hE := heap_set4 hbx2 ((.int .i64 x.kind)) ((.string (bs x.str))) ((.int .i64 x.num)) ((.slice q' x.kids.length d'))
    have HE : Below w.heap.size w (set4 w2 w.heap.size ((.int .i64 x.kind)) ((.string (bs x.str))) ((.int .i64 x.num)) ((.slice q' x.kids.length d'))) := set4_below (bT hB1 hb2) (Nat.le_refl _) _ _ _ _
    have hF := hfrom.on (lo := w.heap.size) (w' := set4 w2 w.heap.size (.int .i64 x.kind) (.string (bs x.str)) (.int .i64 x.num) (.slice q' x.kids.length d')) (by omega) (by rw [set4_size]; exact Nat.le_refl _) (fun k k1 _ => set4_other _ _ _ _ _ _ _ (by omega))
    show bodyPost _ _ _ _ _ (set4 w2 w.heap.size ((.int .i64 x.kind)) ((.string (bs x.str))) ((.int .i64 x.num)) ((.slice q' x.kids.length d')))
    generalize set4 w2 w.heap.size ((.int .i64 x.kind)) ((.string (bs x.str))) ((.int .i64 x.num)) ((.slice q' x.kids.length d')) = W at *
    obtain ⟨e0, e1, e2, e3⟩ := cells4 hE
    refine bodyPost_ret (v := .tuple #[.agg #[(.int .i64 x.kind), (.string (bs x.str)), (.int .i64 x.num), (.slice q' x.kids.length d')], .slice p' l2.length c', .bool true]) (by simp [results, Tryd.results25, go_sem, e0, e1, e2, e3]) rfl ?_
    rw [HO.out, hko, hb]
    exact ⟨⟨q', d', p', c', rfl, hF, hs.trans hsub⟩, HE⟩

/-- resp.take, given takeArray. -/
theorem take_of (D : Nat) (ar : List UInt8 → List UInt8 → Option (Rep × List UInt8)) (hA : ArrayAt D ar) (l : List UInt8) (hl : l.length ≤ 1000000000) (p : Option Addr) (c : Nat) (w : World) (hL : Errs w) (hR : Runes w) (h : Rest w p c l) :
    Calls Tryd.prog 25 #[.slice p l.length c, .int .i64 (D : Int)] w fun e w' => TookR w.heap.size w' p c l e (takeOf ar l) ∧ Below w.heap.size w w' := by
  cases hc : cut l with
  | none => exact take_none ar l hc D p c w hR h
  | some y =>
    obtain ⟨t, r⟩ := y
    cases t with
    | nil => exact take_empty ar l r hc D p c w hR h
    | cons x t =>
      by_cases n43 : x = 43
      · subst n43; exact take_simple ar l t r hc hl D p c w hL hR h
      by_cases n45 : x = 45
      · subst n45; exact take_fault ar l t r hc hl D p c w hL hR h
      by_cases n58 : x = 58
      · subst n58
        cases hp : parseL t with
        | none => exact take_unwhole ar l t r hc hl D hp p c w hL hR h
        | some n => exact take_whole ar l t r hc hl D n hp p c w hL hR h
      by_cases n36 : x = 36
      · subst n36; exact take_bulk ar l t r hc hl D p c w hL hR h
      by_cases n42 : x = 42
      · subst n42; exact take_array ar l t r hc hl D hA p c w hL hR h
      exact take_other ar l t r x hc hl n43 n45 n58 n36 n42 D p c w hL hR h

theorem rd_zero (l : List UInt8) : rd 0 l = takeOf (fun _ _ => none) l := by
  rw [rd, takeOf]
  rcases cut l with _ | ⟨_ | ⟨x, t⟩, r⟩ <;> rfl
theorem rd_succ (d : Nat) (l : List UInt8) : rd (d + 1) l = takeOf (arrayOf (rd d)) l := by
  rw [rd, takeOf]
  rcases cut l with _ | ⟨_ | ⟨x, t⟩, r⟩ <;> rfl

/-- resp.take, of any bytes. -/
theorem take_any : ∀ d, d ≤ 100 → TakeAt d
  | 0, _ => fun l hl p c w hL hR h => by
    rw [rd_zero]
    exact take_of 0 _ (fun t l _ htl p c w hL _ _ => array_zero t l htl p c w hL) l hl p c w hL hR h
  | d + 1, hd => fun l hl p c w hL hR h => by
    rw [rd_succ]
    refine take_of (d + 1) _ (fun t l hl htl p c w hL hR h => ?_) l hl p c w hL hR h
    cases hp : parseL t with
    | none => exact array_unparsed (rd d) (d + 1) t l htl hp p c w hL
    | some n =>
      by_cases hn : n < 0
      · exact array_neg (rd d) (d + 1) t l htl n hp hn p c w hL
      · obtain ⟨N, rfl⟩ : ∃ N : Nat, n = (N : Int) := ⟨n.toNat, by omega⟩
        exact array_step d (by omega) (take_any d (by omega)) t l hl htl N hp p c w hL hR h
end Go.Proofs.YtkcapbjmhimceaaDoor
