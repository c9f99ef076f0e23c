/-
  A sector stored whole; all pending writes performed: plain, in memory.
-/
import Derived.Test.YtgcifhhbhoafcaaDiskPend
namespace Go.Proofs.Ytgcifhhbhoafcaa
open Go.RowKit Go.Shelf

theorem heap_setCells (b : Nat) : ∀ (vs : List Value) (o : Nat) (w : World) (cur : Array Value) (t : TypeId) (fr : Nat × Nat), w.heap[b]? = some (.cells cur t fr) → o + vs.length ≤ cur.size → (w.setCells b o vs).heap[b]? = some (.cells (cur.toList.take o ++ vs ++ cur.toList.drop (o + vs.length)).toArray t fr)
  | [], o, w, cur, t, fr, hb, _ => by simpa [World.setCells] using hb
  | v :: r, o, w, cur, t, fr, hb, hl => by
    have h1 : (w.setCell ⟨b, o, none⟩ v).heap[b]? = some (.cells (cur.setIfInBounds o v) t fr) := by rw [setCell_eq_setRow w b o cur t fr v hb, setRow_heap w b cur _ t fr hb]
    rw [World.setCells, heap_setCells b r (o + 1) _ _ t fr h1 (by simp at hl ⊢; omega)]
    congr 3
    have e := list_seg_step cur.toList o v r (by simp at hl ⊢; omega)
    simpa [Array.toList_setIfInBounds, Nat.add_assoc, Nat.add_comm 1] using e
theorem chg_setCells (b : Nat) : ∀ (vs : List Value) (o : Nat) (w : World), Chg (fun k => k = b) w (w.setCells b o vs)
  | [], _, w => Chg.refl _ w
  | v :: r, o, w => (Chg.setCell w ⟨b, o, none⟩ v).trans (chg_setCells b r (o + 1) _)
theorem keeps_setCells (b : Nat) : ∀ (vs : List Value) (o : Nat) (w : World), KeepsOthers w (w.setCells b o vs)
  | [], _, w => KeepsOthers.refl w
  | v :: r, o, w => (KeepsOthers.setCell w ⟨b, o, none⟩ v).trans (keeps_setCells b r (o + 1) _)

/-- All these writes performed, in order. -/
def doneS (S : List Sec) (ws : List Wq) : List Sec := ws.foldl (fun S x => S.set x.1 x.2) S
theorem doneS_len (S : List Sec) (ws : List Wq) : (doneS S ws).length = S.length := by
  unfold doneS
  induction ws generalizing S with
  | nil => rfl
  | cons x ws ih => rw [List.foldl_cons, ih, List.length_set]
theorem doneS_snoc (S : List Sec) (ws : List Wq) (x : Wq) : doneS S (ws ++ [x]) = (doneS S ws).set x.1 x.2 := by simp [doneS]
theorem set_64 {S : List Sec} {i : Nat} {y : Sec} (hS : ∀ s ∈ S, s.length = 64) (hy : y.length = 64) : ∀ s ∈ S.set i y, s.length = 64 := fun s hs => by
  rcases List.mem_or_eq_of_mem_set hs with h | h
  · exact hS s h
  · rw [h]; exact hy
theorem doneS_64 {S : List Sec} {ws : List Wq} (hS : ∀ s ∈ S, s.length = 64) (hw : ∀ x ∈ ws, x.2.length = 64) : ∀ s ∈ doneS S ws, s.length = 64 := by
  induction ws generalizing S with
  | nil => exact hS
  | cons x ws ih => exact ih (set_64 hS (hw x List.mem_cons_self)) (fun y hy => hw y (List.mem_cons_of_mem _ hy))

theorem dCells_len {S : List Sec} (h : ∀ s ∈ S, s.length = 64) : (dCells S).length = S.length * 64 := flat_len bCells 64 S (fun s hs => by rw [bCells_len, h s hs])
/-- The sectors' block behind the store of one. -/
theorem dur_set {W : World} {g : Nat} {S : List Sec} {T : TypeId} (hg : W.heap[g]? = some (.cells (dCells S).toArray T (0, 0))) (hS : ∀ s ∈ S, s.length = 64) (i : Nat) (hi : i < S.length) (y : Sec) (hy : y.length = 64) : (W.setCells g (i * 64) (bCells y)).heap[g]? = some (.cells (dCells (S.set i y)).toArray T (0, 0)) := by
  have hl := dCells_len hS
  have h1 : i * 64 + (bCells y).length ≤ (dCells S).toArray.size := by rw [bCells_len, hy, List.size_toArray, hl]; omega
  rw [heap_setCells g (bCells y) (i * 64) W _ _ _ hg h1]
  congr 3
  have := flat_set bCells 64 S i hi y (fun s hs => by rw [bCells_len, hS s hs]) (by rw [bCells_len, hy])
  unfold dCells
  rw [this, bCells_len, hy]
theorem there_in {W : World} {b : Nat} {c : Array Value} {T : TypeId} (h : W.heap[b]? = some (.cells c T (0, 0))) (o n : Nat) (hn : o + n ≤ c.size) : W.there b o n := fun j hj => by
  rw [cell_in h]
  refine ⟨?_, frozen_in h _⟩
  rw [Array.getElem?_eq_getElem (by omega)]
  rfl

theorem Chg.trans2 {ex ex' : Nat → Prop} {a b c : World} (h : Chg ex a b) (h' : Chg ex' b c) (he : ∀ k, k < a.heap.size → ex' k → ex k) : Chg ex a c :=
  ⟨h'.os.trans h.os, h'.tape.trans h.tape, h'.output.trans h.output, Nat.le_trans h.size h'.size, fun k hk hn => (h'.block k (Nat.lt_of_lt_of_le hk h.size) (fun e => hn (he k hk e))).trans (h.block k hk hn)⟩
theorem size_sec : (Try.prog.info? 82).map (·.size) = some 64 := by kernel_rfl
theorem rec_set {W : World} {D g n : Nat} {v : Value} {c : Int} (h : Rec W D g n v c) (u : Value) : Rec (W.setCell ⟨D, 1, none⟩ u) D g n u c := by
  unfold Rec at h ⊢
  rw [setCell_eq_setRow W D 1 _ _ _ u h, setRow_heap W D _ _ _ _ h]
  rfl
theorem rec_set2 {W : World} {D g n : Nat} {v : Value} {c : Int} (h : Rec W D g n v c) (m : Int) : Rec (W.setCell ⟨D, 2, none⟩ (.int .i64 m)) D g n v m := by
  unfold Rec at h ⊢
  rw [setCell_eq_setRow W D 2 _ _ _ _ h, setRow_heap W D _ _ _ _ h]
  rfl
/-- A row's block is none of another type. -/
theorem own_ne {w : World} {lo : Nat} {e : TypeId} {sz : Nat} {v : Value} {n : Nat} {xs : List Value} (ho : w.ownsRow lo e sz v n xs) {k : Nat} {cur : Array Value} {t : TypeId} {fr : Nat × Nat} (hk : w.heap[k]? = some (.cells cur t fr)) (ht : e ≠ t) : v.ownBlock ≠ some k := by
  intro hv
  rcases ho.2 with ⟨rfl, _⟩ | ⟨g, cap, cur', rfl, hb, hg, rest⟩
  · simp [Value.ownBlock] at hv
  · simp [Value.ownBlock] at hv
    subst hv
    rw [hk] at hg
    simp only [Option.some.injEq, Obj.cells.injEq] at hg
    exact ht hg.2.1.symm

/-- 'What has changed' speaks of cells, and of what lay before. -/
theorem ownFrom_chg {β : Type} {ex : Nat → Prop} {w0 : World} {B : Nat} (hB : w0.heap.size ≤ B) : OwnFrom B (fun (_ : β) W => Chg ex w0 W) := fun _ W W' row hs hg hr =>
  ⟨hg.os.trans hs.os, hg.tape.trans hs.tape, hg.output.trans hs.output, Nat.le_trans hs.size hg.size, fun k hk hn => by
    refine (hg.block k (Nat.lt_of_lt_of_le hk hs.size) (fun e => ?_)).trans (hs.block k hk hn)
    have := (hr k e.symm).1
    omega⟩
theorem cells_own {β : Type} (b : Nat) (f : β → Obj) (hf : ∀ s, (f s).isCells = true) : Own (fun (s : β) W => W.heap[b]? = some (f s)) := fun s W W' row hs hg hr => by
  refine (hg.block b (Array.getElem?_eq_some_iff.1 hs).1 (fun e => ?_)).trans hs
  obtain ⟨o, ho, hc⟩ := hr b e.symm
  rw [hs] at ho
  cases ho
  rw [hf s] at hc
  cases hc
end Go.Proofs.Ytgcifhhbhoafcaa
