/-
  What is written: a slice of bytes in a variable of the call's own, appended to.
-/
import Derived.Test.YtkcapbjmhimceaaDoorRespFitsW
import Derived.Test.YtkcapbjmhimceaaDoorRespPrint
import Derived.Lib.AppendStr
import Derived.OwnWalk
import Derived.Laws.OwnMore
namespace Go.Proofs.YtkcapbjmhimceaaDoor
open Go.RowKit Rp

/-- The cells of bytes. -/
def sCells (l : List UInt8) : List Value := l.map fun b => Value.int .u8 b.toNat
theorem sCells_len (l : List UInt8) : (sCells l).length = l.length := by simp [sCells]
theorem sCells_append (a b : List UInt8) : sCells (a ++ b) = sCells a ++ sCells b := by simp [sCells]
theorem sCells_bs (l : List UInt8) : Lib.strCells (bs l) = sCells l := by simp [Lib.strCells, sCells, bs]

theorem info_u8 : (Tryd.prog.info? 5).map (fun i => (i.zero, i.size, i.bytes)) = some (some (.int .u8 0), 1, 1) := by kernel_rfl

/-- The variable at block B holds the slice v, whose bytes are xs, in a row of its own behind B. -/
structure Out (B : Nat) (v : Value) (xs : List UInt8) (w : World) : Prop where
  var : w.heap[B]? = some (.cells #[v] 22 (0, 0))
  row : w.ownsRow (B + 1) 5 1 v xs.length (sCells xs)

/-- A block that is no row of bytes. -/
def NoBytes (w : World) (k : Nat) : Prop := ∀ cs fr, w.heap[k]? ≠ some (.cells cs 5 fr)

/-- From w to w': what was written, in the variable at B and in rows of bytes behind it alone. -/
structure Wrote (B : Nat) (w w' : World) : Prop where
  os : w'.os = w.os
  tape : w'.tape = w.tape
  output : w'.output = w.output
  size : w.heap.size ≤ w'.heap.size
  block : ∀ k, k < w.heap.size → k ≠ B → (k < B ∨ NoBytes w k) → w'.heap[k]? = w.heap[k]?

theorem NoBytes.on {w w' : World} {k : Nat} (h : NoBytes w k) (e : w'.heap[k]? = w.heap[k]?) : NoBytes w' k := fun cs fr => by rw [e]; exact h cs fr
theorem Wrote.refl (B : Nat) (w : World) : Wrote B w w := ⟨rfl, rfl, rfl, Nat.le_refl _, fun _ _ _ _ => rfl⟩
theorem Wrote.trans {B : Nat} {w w1 w2 : World} (h : Wrote B w w1) (g : Wrote B w1 w2) : Wrote B w w2 where
  os := g.os.trans h.os
  tape := g.tape.trans h.tape
  output := g.output.trans h.output
  size := Nat.le_trans h.size g.size
  block := fun k hk hB hv => (g.block k (Nat.lt_of_lt_of_le hk h.size) hB (hv.imp id (fun e => e.on (h.block k hk hB hv)))).trans (h.block k hk hB hv)
theorem Wrote.of_below {B : Nat} {w w1 : World} (h : Below w.heap.size w w1) : Wrote B w w1 := ⟨h.os, h.tape, h.output, h.size, fun k hk _ _ => h.block k hk⟩
theorem Wrote.below {B : Nat} {w w1 w2 : World} (h : Wrote B w w1) (hb : Below w1.heap.size w1 w2) : Wrote B w w2 := h.trans (.of_below hb)
/-- All that lay ahead of B is as it was. -/
theorem Wrote.ahead {B : Nat} {w w1 : World} (h : Wrote B w w1) (hB : B < w.heap.size) : Below B w w1 := ⟨h.os, h.tape, h.output, h.size, fun k hk => h.block k (by omega) (by omega) (.inl hk)⟩

theorem below_grown {w w1 : World} (h : Below w.heap.size w w1) (r : Option Nat) : w.grownBy w1 r := ⟨h.os, h.tape, h.output, h.size, fun k hk _ => h.block k hk⟩

theorem Out.lt {B : Nat} {v : Value} {xs : List UInt8} {w : World} (h : Out B v xs w) : B < w.heap.size := (Array.getElem?_eq_some_iff.1 h.var).1
theorem Out.far {B : Nat} {v : Value} {xs : List UInt8} {w : World} (h : Out B v xs w) : ∀ k, v.ownBlock = some k → B < k ∧ k < w.heap.size := fun k hk => by
  have := h.row.lt k hk; omega
theorem Out.below {B : Nat} {v : Value} {xs : List UInt8} {w w1 : World} (h : Out B v xs w) (hb : Below w.heap.size w w1) : Out B v xs w1 :=
  ⟨(hb.block B h.lt).trans h.var, h.row.kept (below_grown hb none) (by cases v.ownBlock <;> simp)⟩

/-- The new slice stored behind an append. -/
theorem Out.put {B : Nat} {v v' : Value} {xs ys : List UInt8} {w w1 : World} (h : Out B v xs w) (hg : w.grownBy w1 v.ownBlock) (hr : w1.ownsRow (B + 1) 5 1 v' ys.length (sCells ys)) :
    Out B v' ys (w1.setCell ⟨B, 0, none⟩ v') ∧ Wrote B w (w1.setCell ⟨B, 0, none⟩ v') := by
  have hB := h.lt
  have hv1 : w1.heap[B]? = some (.cells #[v] 22 (0, 0)) := (hg.block B hB (fun e => by have := (h.far B e.symm).1; omega)).trans h.var
  have hset : (w1.setCell ⟨B, 0, none⟩ v').heap[B]? = some (.cells #[v'] 22 (0, 0)) := by simp [World.setCell, Array.getElem?_modify, hv1]
  have hother : ∀ k, k ≠ B → (w1.setCell ⟨B, 0, none⟩ v').heap[k]? = w1.heap[k]? := fun k hk => Below.heap_setCell _ _ _ _ hk
  have hsz : (w1.setCell ⟨B, 0, none⟩ v').heap.size = w1.heap.size := by simp [World.setCell]
  refine ⟨⟨hset, ownsRow_setCell_below hr (by show B < B + 1; omega) _⟩, ⟨hg.os, hg.tape, hg.output, by rw [hsz]; exact hg.size, fun k hk hkB hkv => (hother k hkB).trans (hg.block k hk (fun e => ?_))⟩⟩
  rcases hkv with hkv | hkv
  · have := (h.far k e.symm).1; omega
  · rcases h.row.2 with ⟨rfl, _⟩ | ⟨g, cap, cur, rfl, _, hgc, _⟩
    · simp [Value.ownBlock] at e
    · simp only [Value.ownBlock, Option.some.injEq] at e
      subst e
      exact hkv _ _ hgc
end Go.Proofs.YtkcapbjmhimceaaDoor
