/-
  A disk in memory; New, Size, has, call.
-/
import Derived.Test.YtgcifhhbhoafcaaDiskRound
namespace Go.Proofs.Ytgcifhhbhoafcaa
open Go.RowKit Go.Shelf

/-! ### Plain -/
def bs (l : List UInt8) : ByteArray := ⟨l.toArray⟩
theorem bs_size (l : List UInt8) : (bs l).size = l.length := by show l.toArray.size = _; simp
/-- A sector's bytes; a pending write. -/
abbrev Sec := List UInt8
abbrev Wq := Nat × Sec
def bCells (l : List UInt8) : List Value := l.map fun x => .int .u8 ((x.toNat : Nat) : Int)
theorem bCells_len (l : List UInt8) : (bCells l).length = l.length := by simp [bCells]
theorem bCells_one (l : List UInt8) : ∀ v ∈ bCells l, v.oneCell' = true := fun v hv => by
  obtain ⟨x, _, rfl⟩ := List.mem_map.1 hv
  rfl
theorem bCells_app (a b : List UInt8) : bCells (a ++ b) = bCells a ++ bCells b := by simp [bCells]
def dCells (S : List Sec) : List Value := (S.map bCells).flatten
def wCell (x : Wq) : List Value := .int .i64 (x.1 : Int) :: bCells x.2
def wCells (ws : List Wq) : List Value := (ws.map wCell).flatten
theorem wCell_len {x : Wq} (h : x.2.length = 64) : (wCell x).length = 65 := by simp [wCell, bCells_len, h]
theorem wCell_one (x : Wq) : ∀ v ∈ wCell x, v.oneCell' = true := fun v hv => by
  rcases List.mem_cons.1 hv with rfl | hv
  · rfl
  · exact bCells_one _ v hv
theorem flat_len {α : Type} (f : α → List Value) (n : Nat) : ∀ l : List α, (∀ x ∈ l, (f x).length = n) → ((l.map f).flatten).length = l.length * n
  | [], _ => by simp
  | x :: l, h => by
    rw [List.map_cons, List.flatten_cons, List.length_append, h x List.mem_cons_self, flat_len f n l (fun y hy => h y (List.mem_cons_of_mem _ hy)), List.length_cons, Nat.add_mul]
    omega
/-- The cells of element i. -/
theorem flat_at {α : Type} (f : α → List Value) (n : Nat) : ∀ (l : List α) (i : Nat) (hi : i < l.length), (∀ x ∈ l, (f x).length = n) → ∀ j, j < n → ((l.map f).flatten)[i * n + j]? = (f l[i])[j]?
  | x :: l, 0, _, h, j, hj => by
    rw [List.map_cons, List.flatten_cons, Nat.zero_mul, Nat.zero_add, List.getElem?_append_left (by rw [h x List.mem_cons_self]; exact hj)]
    rfl
  | x :: l, i + 1, hi, h, j, hj => by
    rw [List.map_cons, List.flatten_cons, List.getElem?_append_right (by rw [h x List.mem_cons_self, Nat.add_mul]; omega), h x List.mem_cons_self, show (i + 1) * n + j - n = i * n + j by rw [Nat.add_mul]; omega]
    exact flat_at f n l i (by simpa using hi) (fun y hy => h y (List.mem_cons_of_mem _ hy)) j hj
/-- The cells of a list of which element i is another. -/
theorem flat_set {α : Type} (f : α → List Value) (n : Nat) : ∀ (l : List α) (i : Nat) (_ : i < l.length) (y : α), (∀ x ∈ l, (f x).length = n) → (f y).length = n → ((l.set i y).map f).flatten = ((l.map f).flatten).take (i * n) ++ f y ++ ((l.map f).flatten).drop (i * n + n)
  | x :: l, 0, _, y, h, hy => by
    have hx := h x List.mem_cons_self
    rw [List.set_cons_zero, List.map_cons, List.flatten_cons, List.map_cons, List.flatten_cons, Nat.zero_mul, List.take_zero, List.nil_append, Nat.zero_add, List.drop_append_of_le_length (by omega), List.drop_eq_nil_of_le (by omega), List.nil_append]
  | x :: l, i + 1, hi, y, h, hy => by
    have hx := h x List.mem_cons_self
    rw [List.set_cons_succ, List.map_cons, List.flatten_cons, flat_set f n l i (by simpa using hi) y (fun z hz => h z (List.mem_cons_of_mem _ hz)) hy, List.map_cons, List.flatten_cons]
    rw [show (i + 1) * n = (f x).length + i * n by rw [hx, Nat.add_mul]; omega, List.take_length_add_append, show (f x).length + i * n + n = (f x).length + (i * n + n) by omega, List.drop_length_add_append]
    simp only [List.append_assoc]

/-! ### What has changed -/
structure Chg (ex : Nat → Prop) (w w' : World) : Prop where
  os : w'.os = w.os
  tape : w'.tape = w.tape
  output : w'.output = w.output
  size : w.heap.size ≤ w'.heap.size
  block : ∀ k, k < w.heap.size → ¬ ex k → w'.heap[k]? = w.heap[k]?
theorem Chg.refl (ex : Nat → Prop) (w : World) : Chg ex w w := ⟨rfl, rfl, rfl, Nat.le_refl _, fun _ _ _ => rfl⟩
theorem Chg.trans {ex : Nat → Prop} {a b c : World} (h : Chg ex a b) (h' : Chg ex b c) : Chg ex a c :=
  ⟨h'.os.trans h.os, h'.tape.trans h.tape, h'.output.trans h.output, Nat.le_trans h.size h'.size, fun k hk hn => (h'.block k (Nat.lt_of_lt_of_le hk h.size) hn).trans (h.block k hk hn)⟩
theorem Chg.weaken {ex ex' : Nat → Prop} {a b : World} (h : Chg ex a b) (he : ∀ k, k < a.heap.size → ex k → ex' k) : Chg ex' a b := ⟨h.os, h.tape, h.output, h.size, fun k hk hn => h.block k hk (fun e => hn (he k hk e))⟩
theorem Chg.grown {w w' : World} {row : Option Nat} (h : w.grownBy w' row) : Chg (fun k => some k = row) w w' := ⟨h.os, h.tape, h.output, h.size, fun k hk hn => h.block k hk hn⟩
theorem Chg.below {w w' : World} (h : Below w.heap.size w w') (ex : Nat → Prop) : Chg ex w w' := ⟨h.os, h.tape, h.output, h.size, fun k hk _ => h.block k hk⟩
theorem Chg.alloc (ex : Nat → Prop) (w : World) (o : Obj) : Chg ex w (w.alloc o) := Chg.below ((Below.refl w.heap.size w).alloc (Nat.le_refl _) o) ex
theorem Chg.drew (ex : Nat → Prop) (w : World) : Chg ex w w.drew := ⟨rfl, rfl, rfl, Nat.le_refl _, fun _ _ _ => rfl⟩
theorem Chg.setCell (w : World) (a : Addr) (v : Value) : Chg (fun k => k = a.block) w (w.setCell a v) := ⟨rfl, rfl, rfl, by simp [World.setCell], fun _ _ hn => Below.heap_setCell _ _ _ _ hn⟩
theorem Chg.on {ex : Nat → Prop} {B : Nat} {a w w' : World} (h : Chg ex w w') (hb : Below B a w) (hB : B ≤ w.heap.size) (he : ∀ k, ex k → B ≤ k) : Below B a w' :=
  hb.trans ⟨h.os, h.tape, h.output, h.size, fun k hk => h.block k (by omega) (fun e => by have := he k e; omega)⟩
theorem Chg.box {ex : Nat → Prop} {w w' : World} (h : Chg ex w w') {k : Nat} {o : Obj} (hk : w.heap[k]? = some o) (hn : ¬ ex k) : w'.heap[k]? = some o :=
  (h.block k (Array.getElem?_eq_some_iff.1 hk).1 hn).trans hk
theorem Chg.own {ex : Nat → Prop} {w w' : World} (h : Chg ex w w') {lo : Nat} {e : TypeId} {sz : Nat} {v : Value} {n : Nat} {xs : List Value} (ho : w.ownsRow lo e sz v n xs) (hn : ∀ k, v.ownBlock = some k → ¬ ex k) : w'.ownsRow lo e sz v n xs := by
  refine ⟨ho.1, ?_⟩
  rcases ho.2 with h0 | ⟨g, cap, cur, rfl, hb, hg, rest⟩
  · exact .inl h0
  · exact .inr ⟨g, cap, cur, rfl, hb, h.box hg (hn g rfl), rest⟩
theorem bT {a b c : World} (h : Below a.heap.size a b) (k : Below b.heap.size b c) : Below a.heap.size a c := h.trans (k.mono h.size)
theorem bA {a w : World} (h : Below a.heap.size a w) (o : Obj) : Below a.heap.size a (w.alloc o) := h.alloc h.size o
theorem bD {a w : World} (h : Below a.heap.size a w) : Below a.heap.size a w.drew := (Chg.drew (fun _ => False) w).on h h.size (fun _ e => e.elim)
theorem heap_new (w : World) (o : Obj) : (w.alloc o).heap[w.heap.size]? = some o := World.alloc_heap_new w o
theorem cell_in {w : World} {b j : Nat} {c : Array Value} {t : TypeId} {fr : Nat × Nat} (h : w.heap[b]? = some (.cells c t fr)) : w.cell? ⟨b, j, none⟩ = c[j]? := cell_of_row _ _ _ _ _ _ h
theorem frozen_in {W : World} {b : Nat} {cs : Array Value} {T : TypeId} (h : W.heap[b]? = some (.cells cs T (0, 0))) : ∀ j, W.frozen? ⟨b, j, none⟩ = false := fun j => by simp [World.frozen?, h]

/-! ### A disk -/
/-- The disk's record: the sectors' block, the pending writes' row. -/
def Rec (w : World) (D g n : Nat) (v : Value) (c : Int) : Prop := w.heap[D]? = some (.cells #[.slice (some ⟨g, 0, none⟩) n n, v, .int .i64 c] 74 (0, 0))
structure DiskAt (w : World) (D g : Nat) (S : List Sec) (v : Value) (ws : List Wq) (c : Int) : Prop where
  box : Rec w D g S.length v c
  dur : w.heap[g]? = some (.cells (dCells S).toArray 82 (0, 0))
  row : w.ownsRow (D + 1) 84 65 v ws.length (wCells ws)
  s64 : ∀ s ∈ S, s.length = 64
  a64 : ∀ x ∈ ws, x.1 < S.length ∧ x.2.length = 64
  few : S.length ≤ 65536
theorem Rec.cells {w : World} {D g n : Nat} {v : Value} {c : Int} (h : Rec w D g n v c) : w.cell? ⟨D, 0, none⟩ = some (.slice (some ⟨g, 0, none⟩) n n) ∧ w.cell? ⟨D, 1, none⟩ = some v ∧ w.cell? ⟨D, 2, none⟩ = some (.int .i64 c) := by
  refine ⟨?_, ?_, ?_⟩ <;> (rw [cell_in h]; rfl)
theorem DiskAt.chg {w w' : World} {D g : Nat} {S : List Sec} {v : Value} {ws : List Wq} {c : Int} (H : DiskAt w D g S v ws c) {ex : Nat → Prop} (hc : Chg ex w w') (h1 : ¬ ex D) (h2 : ¬ ex g) (h3 : ∀ k, v.ownBlock = some k → ¬ ex k) : DiskAt w' D g S v ws c :=
  ⟨hc.box H.box h1, hc.box H.dur h2, hc.own H.row h3, H.s64, H.a64, H.few⟩
theorem DiskAt.on {w w' : World} {D g : Nat} {S : List Sec} {v : Value} {ws : List Wq} {c : Int} (H : DiskAt w D g S v ws c) (hb : Below w.heap.size w w') : DiskAt w' D g S v ws c :=
  H.chg (Chg.below hb (fun _ => False)) (fun e => e) (fun e => e) (fun _ _ e => e)

theorem info_sec : (Try.prog.info? 82).map (fun i => (i.zero, i.size, i.bytes)) = some (some (.agg (Array.replicate 64 (.int .u8 0))), 64, 64) := by kernel_rfl
theorem info_wr : (Try.prog.info? 84).map (fun i => (i.zero, i.size, i.bytes)) = some (some (.agg (#[.int .i64 0] ++ Array.replicate 64 (.int .u8 0))), 65, 72) := by kernel_rfl

def zeroS (n : Nat) : List Sec := List.replicate n (List.replicate 64 0)
theorem zero_cellsN (N : Nat) : List.replicate (N * 64) (Value.int .u8 0) = dCells (zeroS N) := by
  unfold dCells zeroS
  rw [List.map_replicate, show bCells (List.replicate 64 (0 : UInt8)) = List.replicate 64 (Value.int .u8 0) by simp [bCells], List.flatten_replicate_replicate]
theorem madeN (n : Nat) : madeCells (Value.agg (Array.replicate 64 (.int .u8 0))).cells (n * 64) = (dCells (zeroS n)).toArray := by
  rw [← zero_cellsN]
  apply Array.ext
  · simp [madeCells]
  · intro i h1 h2
    simp only [madeCells, Value.cells, Array.size_replicate, Array.getElem_map, Array.getElem_range]
    have h : i % 64 < 64 := Nat.mod_lt _ (by decide)
    rw [getElem!_pos _ _ (by simpa using h)]
    simp

theorem make_secs (w : World) (n : Nat) (hn : n ≤ 65536) : (Instr.makeSlice 71 (.int .i64 (n : Int)) (.int .i64 (n : Int))).run Try.prog w = .ok (.slice (some ⟨w.heap.size, 0, none⟩) n n) (w.alloc (.cells (dCells (zeroS n)).toArray 82)) := by
  obtain ⟨i0, hi, hz0, hz1, hz2⟩ := info_parts info_sec
  have h := run_make (P := Try.prog) w 71 82 i0 _ Try.underlying71 hi hz0 .i64 .i64 (n : Int) (n : Int) (by omega) (by omega) (by rw [hz2]; omega) (by omega)
  rw [h]
  have e1 : ((n : Int)).toNat = n := by omega
  rw [e1, hz1, madeN]

theorem zero_cells {n : Nat} : (zeroS n).length = n := by simp [zeroS]
set_option maxRecDepth 20000 in
theorem new_any (n : Nat) (h0 : 1 ≤ n) (h1 : n ≤ 65536) (w : World) :
    Calls Try.prog 9 #[.int .i64 n] w fun e w' => e = .returned (.tuple #[.pointer (some ⟨w.heap.size + 1, 0, none⟩), .int .i64 0]) ∧ DiskAt w' (w.heap.size + 1) w.heap.size (zeroS n) (.slice none 0 0) [] (-1) ∧ Below w.heap.size w w' := by
  have d1 : decide ((n : Int) < 1) = false := decide_eq_false (by omega)
  have d2 : decide ((65536 : Int) < (n : Int)) = false := decide_eq_false (by omega)
  have hmk := make_secs w n h1
  generalize hc : (dCells (zeroS n)).toArray = C at hmk
  go_enter Try.func9, Try.ntmps9
  go_wp2
  go_ret2
  refine ⟨rfl, ⟨?_, ?_, World.ownsRow_nil _ _ _ _, fun s hs => ?_, fun x hx => by simp at hx, ?_⟩, bA (bA (Below.refl _ _) _) _⟩
  · unfold Rec
    rw [zero_cells]
    simpa using heap_new (w.alloc (.cells C 82)) (.cells #[.slice (some ⟨w.heap.size, 0, none⟩) n n, .slice none 0 0, .int .i64 (-1)] 74)
  · rw [hc]
    exact (Below.heap_alloc _ _ _ (by simp)).trans (heap_new w _)
  · rw [List.eq_of_mem_replicate hs, List.length_replicate]
  · rw [zero_cells]
    exact h1

theorem size_any (D g n : Nat) (v : Value) (c : Int) (w : World) (H : Rec w D g n v c) :
    Calls Try.prog 47 #[.pointer (some ⟨D, 0, none⟩)] w fun e w' => e = .returned (.int .i64 n) ∧ w = w' := by
  obtain ⟨k0, k1, k2⟩ := H.cells
  clear H
  go_enter Try.func47, Try.ntmps47
  go_wp2
  go_ret
  exact ⟨rfl, rfl⟩
/-- A call counted. -/
def tick (w : World) (D : Nat) (c : Int) : World := if 0 < c then w.setCell ⟨D, 2, none⟩ (.int .i64 (c - 1)) else w
def less (c : Int) : Int := if 0 < c then c - 1 else c
theorem less_low {c : Int} (h : -9223372036854775808 ≤ c ∧ c ≤ 9223372036854775807) : -9223372036854775808 ≤ less c ∧ less c ≤ 9223372036854775807 := by
  unfold less
  split <;> omega
theorem tick_size (w : World) (D : Nat) (c : Int) : (tick w D c).heap.size = w.heap.size := by
  unfold tick
  split
  · simp [World.setCell]
  · rfl
theorem tick_chg (w : World) (D : Nat) (c : Int) : Chg (fun k => k = D) w (tick w D c) := by
  unfold tick
  split
  · exact Chg.setCell w ⟨D, 2, none⟩ _
  · exact Chg.refl _ w
theorem tick_rec {w : World} {D g n : Nat} {v : Value} {c : Int} (h : Rec w D g n v c) : Rec (tick w D c) D g n v (less c) := by
  unfold tick less
  split
  · unfold Rec at h ⊢
    rw [setCell_eq_setRow w D 2 _ _ _ _ h, setRow_heap w D _ _ _ _ h]
    rfl
  · exact h
theorem tick_disk {w : World} {D g : Nat} {S : List Sec} {v : Value} {ws : List Wq} {c : Int} (H : DiskAt w D g S v ws c) (hDg : D ≠ g) : DiskAt (tick w D c) D g S v ws (less c) :=
  ⟨tick_rec H.box, (tick_chg w D c).box H.dur (fun e => hDg e.symm), (tick_chg w D c).own H.row (fun k hk e => by
    have := H.row.lt k hk
    omega), H.s64, H.a64, H.few⟩
theorem tick_alloc (w : World) (D : Nat) (c : Int) (o : Obj) (h : D < w.heap.size) : tick (w.alloc o) D c = (tick w D c).alloc o := by
  unfold tick
  split
  · unfold World.alloc World.setCell
    simp only
    congr 1
    apply Array.ext_getElem?
    intro i
    rw [Array.getElem?_modify, Array.getElem?_push, Array.getElem?_push, Array.getElem?_modify, Array.size_modify]
    by_cases e : D = i
    · subst e
      rw [if_pos rfl, if_neg (by omega), if_neg (by omega), if_pos rfl]
    · rw [if_neg e]
      split <;> simp
  · rfl
theorem call_any (D g n : Nat) (v : Value) (c : Int) (hl : -9223372036854775808 ≤ c ∧ c ≤ 9223372036854775807) (hc : c ≠ 0) (w : World) (H : Rec w D g n v c) :
    Calls Try.prog 32 #[.pointer (some ⟨D, 0, none⟩)] w fun e w' => e = .returned (.bool true) ∧ w' = tick w D c := by
  obtain ⟨k0, k1, k2⟩ := H.cells
  have fz := frozen_in H 2
  have d0' : decide (c = 0) = false := decide_eq_false hc
  clear H
  unfold tick
  split
  · rename_i h
    have d1 : decide ((0 : Int) < c) = true := decide_eq_true h
    have w1 : IntKind.i64.wrap (c - 1) = c - 1 := by rw [IntKind.wrap_i64]; omega
    go_enter Try.func32, Try.ntmps32
    go_wp2
    go_ret
    exact ⟨rfl, rfl⟩
  · rename_i h
    have d1 : decide ((0 : Int) < c) = false := decide_eq_false h
    go_enter Try.func32, Try.ntmps32
    go_wp2
    go_ret
    exact ⟨rfl, rfl⟩
theorem call_off (D g n : Nat) (v : Value) (w : World) (H : Rec w D g n v 0) :
    Calls Try.prog 32 #[.pointer (some ⟨D, 0, none⟩)] w fun e w' => e = .returned (.bool false) ∧ w = w' := by
  obtain ⟨k0, k1, k2⟩ := H.cells
  clear H
  go_enter Try.func32, Try.ntmps32
  go_wp2
  go_ret
  exact ⟨rfl, rfl⟩
theorem limit_any (D g n : Nat) (v : Value) (c m : Int) (w : World) (H : Rec w D g n v c) :
    Calls Try.prog 26 #[.pointer (some ⟨D, 0, none⟩), .int .i64 m] w fun e w' => e = .returned (.tuple #[]) ∧ w' = if c = 0 then w else w.setCell ⟨D, 2, none⟩ (.int .i64 m) := by
  obtain ⟨k0, k1, k2⟩ := H.cells
  have fz := frozen_in H 2
  clear H
  by_cases hc : c = 0
  · have d0 : decide (c = 0) = true := decide_eq_true hc
    rw [if_pos hc]
    subst hc
    go_enter Try.func26, Try.ntmps26
    go_wp2
    go_end0
    exact ⟨rfl, rfl⟩
  · have d0 : decide (c = 0) = false := decide_eq_false hc
    rw [if_neg hc]
    go_enter Try.func26, Try.ntmps26
    go_wp2
    go_end0
    exact ⟨rfl, rfl⟩
theorem has_any (D g n : Nat) (v : Value) (c : Int) (at_ m : Nat) (h1 : 1 ≤ m) (h2 : at_ + m ≤ n) (hn : n ≤ 65536) (w : World) (H : Rec w D g n v c) :
    Calls Try.prog 31 #[.pointer (some ⟨D, 0, none⟩), .int .i64 at_, .int .i64 m] w fun e w' => e = .returned (.bool true) ∧ w = w' := by
  have d1 : decide ((0 : Int) ≤ (at_ : Int)) = true := decide_eq_true (by omega)
  have d2 : decide ((1 : Int) ≤ (m : Int)) = true := decide_eq_true (by omega)
  have d3 : decide ((m : Int) ≤ (n : Int) - (at_ : Int)) = true := decide_eq_true (by omega)
  have d4 : IntKind.i64.wrap ((n : Int) - (at_ : Int)) = (n : Int) - (at_ : Int) := by rw [IntKind.wrap_i64]; omega
  go_enter Try.func31, Try.ntmps31
  go_wp2_with fail
  refine (size_any D g n v c w H).mono ?_
  rintro e w1 ⟨rfl, rfl⟩
  go_wp2
  go_ret
  exact ⟨rfl, rfl⟩
end Go.Proofs.Ytgcifhhbhoafcaa
