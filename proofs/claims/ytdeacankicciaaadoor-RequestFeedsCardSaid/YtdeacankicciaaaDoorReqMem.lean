/-
  A reader's memory: rows of words, commands that have been told; what telling one does.
-/
import Derived.Test.YtdeacankicciaaaDoorReqWord
import Derived.Deep.AppendLies
namespace Go.Proofs.YtdeacankicciaaaDoor
open Go.RowKit Rp Rq

theorem info_str : (Tryd.prog.info? 9).map (fun i => (i.zero, i.size, i.bytes)) = some (some (.string ⟨#[]⟩), 1, 16) := by kernel_rfl
theorem info_row : (Tryd.prog.info? 50).map (fun i => (i.zero, i.size, i.bytes)) = some (some (.slice none 0 0), 1, 24) := by kernel_rfl

/-- The cells of words. -/
def wCells (ws : List Wd) : List Value := ws.map fun w => .string (bs w)
theorem wCells_snoc (ws : List Wd) (w : Wd) : wCells (ws ++ [w]) = wCells ws ++ [.string (bs w)] := by simp [wCells]
theorem wCells_len (ws : List Wd) : (wCells ws).length = ws.length := by simp [wCells]

/-- A command that has been told: its words, the block of their row, its capacity. -/
structure Hc where
  ws : List Wd
  g : Nat
  cap : Nat
def Hc.val (x : Hc) : Value := .slice (some ⟨x.g, 0, none⟩) x.ws.length x.cap
def hCells (xs : List Hc) : List Value := xs.map Hc.val
theorem hCells_snoc (xs : List Hc) (x : Hc) : hCells (xs ++ [x]) = hCells xs ++ [x.val] := by simp [hCells]
theorem hCells_len (xs : List Hc) : (hCells xs).length = xs.length := by simp [hCells]
/-- Its words stand in memory, from block lo on. -/
def Own (w : World) (lo : Nat) (x : Hc) : Prop := w.ownsRow lo 9 1 x.val x.ws.length (wCells x.ws)

/-! ### What has changed -/
/-- But for some blocks the world is as it was, and there may be more. -/
structure Chg (ex : Nat → Prop) (w w' : World) : Prop where
  os : w'.os = w.os
  tape : w'.tape = w.tape
  output : w'.output = w.output
  size : w.heap.size ≤ w'.heap.size
  block : ∀ k, k < w.heap.size → ¬ ex k → w'.heap[k]? = w.heap[k]?

theorem Chg.refl (ex : Nat → Prop) (w : World) : Chg ex w w := ⟨rfl, rfl, rfl, Nat.le_refl _, fun _ _ _ => rfl⟩
theorem Chg.trans {ex ex' : Nat → Prop} {a b c : World} (h : Chg ex a b) (h' : Chg ex' b c) (he : ∀ k, k < a.heap.size → ex' k → ex k) : Chg ex a c :=
  ⟨h'.os.trans h.os, h'.tape.trans h.tape, h'.output.trans h.output, Nat.le_trans h.size h'.size, fun k hk hn => (h'.block k (Nat.lt_of_lt_of_le hk h.size) (fun e => hn (he k hk e))).trans (h.block k hk hn)⟩
theorem Chg.weaken {ex ex' : Nat → Prop} {a b : World} (h : Chg ex a b) (he : ∀ k, k < a.heap.size → ex k → ex' k) : Chg ex' a b := ⟨h.os, h.tape, h.output, h.size, fun k hk hn => h.block k hk (fun e => hn (he k hk e))⟩
theorem Chg.grown {w w' : World} {row : Option Nat} (h : w.grownBy w' row) : Chg (fun k => some k = row) w w' := ⟨h.os, h.tape, h.output, h.size, fun k hk hn => h.block k hk hn⟩
theorem Chg.below {w w' : World} (h : Below w.heap.size w w') (ex : Nat → Prop) : Chg ex w w' := ⟨h.os, h.tape, h.output, h.size, fun k hk _ => h.block k hk⟩
theorem Chg.setCell (w : World) (a : Addr) (v : Value) : Chg (fun k => k = a.block) w (w.setCell a v) := ⟨rfl, rfl, rfl, by simp [World.setCell], fun _ _ hn => Below.heap_setCell _ _ _ _ hn⟩
/-- What is below B where all that may change is from B on. -/
theorem Chg.on {ex : Nat → Prop} {B : Nat} {a w w' : World} (h : Chg ex w w') (hb : Below B a w) (hB : B ≤ w.heap.size) (he : ∀ k, ex k → B ≤ k) : Below B a w' :=
  hb.trans ⟨h.os, h.tape, h.output, h.size, fun k hk => h.block k (by omega) (fun e => by have := he k e; omega)⟩
theorem Chg.box {ex : Nat → Prop} {w w' : World} (h : Chg ex w w') {k : Nat} {o : Obj} (hk : w.heap[k]? = some o) (hn : ¬ ex k) : w'.heap[k]? = some o :=
  (h.block k (Array.getElem?_eq_some_iff.1 hk).1 hn).trans hk
theorem Chg.own {ex : Nat → Prop} {w w' : World} (h : Chg ex w w') {lo : Nat} {e : TypeId} {sz : Nat} {v : Value} {n : Nat} {xs : List Value} (ho : w.ownsRow lo e sz v n xs) (hn : ∀ k, v.ownBlock = some k → ¬ ex k) : w'.ownsRow lo e sz v n xs := by
  refine ⟨ho.1, ?_⟩
  rcases ho.2 with h0 | ⟨g, cap, cur, rfl, hb, hg, rest⟩
  · exact .inl h0
  · exact .inr ⟨g, cap, cur, rfl, hb, h.box hg (hn g rfl), rest⟩

theorem own_type {w : World} {lo : Nat} {e : TypeId} {sz : Nat} {v : Value} {n : Nat} {xs : List Value} (ho : w.ownsRow lo e sz v n xs) {k : Nat} (hk : v.ownBlock = some k) : ∃ cur, w.heap[k]? = some (.cells cur e (0, 0)) := by
  rcases ho.2 with ⟨rfl, _⟩ | ⟨g, cap, cur, rfl, hb, hg, rest⟩
  · simp [Value.ownBlock] at hk
  · simp [Value.ownBlock] at hk
    subst hk
    exact ⟨cur, hg⟩
/-- A row's block is none of another type. -/
theorem own_ne {w : World} {lo : Nat} {e : TypeId} {sz : Nat} {v : Value} {n : Nat} {xs : List Value} (ho : w.ownsRow lo e sz v n xs) {k : Nat} {cur : Array Value} {t : TypeId} {fr : Nat × Nat} (hk : w.heap[k]? = some (.cells cur t fr)) (ht : e ≠ t) : v.ownBlock ≠ some k := by
  intro hv
  obtain ⟨c, hc⟩ := own_type ho hv
  rw [hk] at hc
  simp only [Option.some.injEq, Obj.cells.injEq] at hc
  exact ht hc.2.1.symm
theorem own_apart {w : World} {lo lo' : Nat} {e e' : TypeId} {sz sz' : Nat} {v v' : Value} {n n' : Nat} {xs xs' : List Value} (ho : w.ownsRow lo e sz v n xs) (ho' : w.ownsRow lo' e' sz' v' n' xs') (ht : e ≠ e') : ∀ k, v.ownBlock = some k → v'.ownBlock ≠ some k := fun k hk hk' => by
  obtain ⟨c, hc⟩ := own_type ho hk
  exact own_ne ho' hc ht.symm hk'
theorem box_ne {w : World} {k k' : Nat} {c c' : Array Value} {t t' : TypeId} {fr fr' : Nat × Nat} (h : w.heap[k]? = some (.cells c t fr)) (h' : w.heap[k']? = some (.cells c' t' fr')) (ht : t ≠ t') : k ≠ k' := by
  rintro rfl
  rw [h] at h'
  simp only [Option.some.injEq, Obj.cells.injEq] at h'
  exact ht h'.2.1

theorem cell1 {W : World} {b : Nat} {v : Value} {T : TypeId} (h : W.heap[b]? = some (.cells #[v] T (0, 0))) : W.cell? ⟨b, 0, none⟩ = some v := by rw [Lib.cell_of_heap h]; rfl
theorem heap_set1 {w : World} {b : Nat} {z : Value} {T : TypeId} (hb : w.heap[b]? = some (.cells #[z] T (0, 0))) (v : Value) : (w.setCell ⟨b, 0, none⟩ v).heap[b]? = some (.cells #[v] T (0, 0)) := heap_set hb v

/-- What telling a command does. -/
def Tells (C : Nat) (lo : Nat) (xs : List Hc) (v : Value) (w : World) (e : Ending) (w' : World) : Prop :=
  ∃ g cap, e = .returned (.tuple #[]) ∧ w'.heap[C]? = some (.cells #[.slice (some ⟨g, 0, none⟩) xs.length cap] 41 (0, 0)) ∧ w'.ownsRow lo 50 1 (.slice (some ⟨g, 0, none⟩) xs.length cap) xs.length (hCells xs) ∧
    Chg (fun k => k = C ∨ v.ownBlock = some k) w w' ∧ (v.ownBlock = some g ∨ w.heap.size ≤ g)

set_option maxRecDepth 20000 in
set_option maxHeartbeats 2000000 in
theorem tell_any (C lo : Nat) (xs : List Hc) (x : Hc) (v : Value) (w : World) (hC : w.heap[C]? = some (.cells #[v] 41 (0, 0))) (hown : w.ownsRow lo 50 1 v xs.length (hCells xs)) (hlo : lo ≤ w.heap.size) (hlen : xs.length ≤ 1000000000) :
    Calls Tryd.prog 39 #[x.val, .pointer (some ⟨C, 0, none⟩)] w (Tells C lo (xs ++ [x]) v w) := by
  obtain ⟨i0, hi, hz0, hz1, hz2⟩ := info_parts info_row
  have hClt : C < w.heap.size := (Array.getElem?_eq_some_iff.1 hC).1
  have c0 := cell1 hC
  have HC := Lib.hid hC
  have HO := Lib.hid hown
  have HOA := Lib.hid (fun o => hown.alloc o)
  obtain ⟨gx, nx, cx, hxv⟩ : ∃ gx nx cx, x.val = .slice (some ⟨gx, 0, none⟩) nx cx := ⟨_, _, _, rfl⟩
  have HXV := Lib.hid hxv
  rw [hxv]
  clear hC hown hxv
  go_enter Tryd.func39, Tryd.ntmps39
  go_wp2_with (at_builtin; refine wpList_append_lies _ rfl (.tmp 3) (.tmp 5) 41 rfl lo 50 i0 (.slice none 0 0) 1 24 Tryd.underlying41 hi hz0 hz1 hz2 rfl (by decide) v xs.length (hCells xs) rfl (HOA.out _) ⟨w.heap.size, 0, none⟩ 1 1 [.slice (some ⟨gx, 0, none⟩) nx cx] rfl rfl ?c1 (by intro y hy; simp at hy; rw [hy]; rfl) (by decide) (by unfold maxLen; omega) (by omega) (by simp; omega) (w.heap.size + 1) (by simp) ?_)
  case c1 =>
    intro k u hk
    rw [Lib.add_plain, Nat.zero_add, Lib.cell_of_heap (heap_alloc_new w _), ← hk]
    match k with
    | 0 => rfl
    | k + 1 => rfl
  intro g cap w' hown' hgr hg hgl
  have hvC : v.ownBlock ≠ some C := own_ne HO.out HC.out (by decide)
  have hCw : w'.heap[C]? = some (.cells #[v] 41 (0, 0)) := (hgr.block C (by simp; omega) (fun e => hvC e.symm)).trans ((Below.heap_alloc _ _ _ hClt).trans HC.out)
  have u0 := cell1 hCw
  have f0 := frozen_at hCw
  have HCW := Lib.hid hCw
  have HOW := Lib.hid hown'
  have HGR := Lib.hid hgr
  have HG := Lib.hid hg
  have HVC := Lib.hid hvC
  clear hown' hgr hg hCw hvC c0
  go_wp2
  go_end0
  refine ⟨g, cap, rfl, ?_, ?_, ?_, ?_⟩
  · rw [List.length_append]
    exact heap_set1 HCW.out _
  · have hgC : g ≠ C := by
      rcases HG.out with h | h
      · exact fun e => HVC.out (by rw [h, e])
      · omega
    rw [List.length_append, hCells_snoc, HXV.out]
    exact (Chg.setCell w' ⟨C, 0, none⟩ _).own HOW.out (fun k hk e => by
      simp [Value.ownBlock] at hk
      exact hgC (hk.trans e))
  · refine Chg.trans (ex' := fun k => k = C) ?_ (Chg.setCell w' ⟨C, 0, none⟩ _) (fun k _ e => .inl e)
    have h1 := Chg.below (bA (Below.refl w.heap.size w) (.cells #[.slice (some ⟨gx, 0, none⟩) nx cx] 50)) (fun k => k = C ∨ v.ownBlock = some k)
    exact h1.trans (Chg.grown HGR.out) (fun k _ e => .inr e.symm)
  · rcases HG.out with h | h
    · exact .inl h
    · exact .inr (by omega)
end Go.Proofs.YtdeacankicciaaaDoor
