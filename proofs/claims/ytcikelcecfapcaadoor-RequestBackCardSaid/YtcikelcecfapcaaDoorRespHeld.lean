/-
  Two boxed replies in whatever world that comes behind. What the walks of regions that hold calls want of slices of replies, of conversions and of boxes.
-/
import Derived.Test.YtcikelcecfapcaaDoorRespAwake
import Derived.Test.YtcikelcecfapcaaDoorRespSize
import Derived.Deep.RegionHeld3
import Derived.Deep.CutRange
import Derived.Deep.DeepCutAuto
namespace Go.Proofs.YtcikelcecfapcaaDoor
open Go.RowKit Rp

theorem boxA {a b : Rep} {p q : Option Addr} {c d : Nat} {w W : World} (h : Below ((w.alloc (.cells #[.int .i64 a.kind, .string (bs a.str), .int .i64 a.num, .slice p a.kids.length c] 26)).alloc (.cells #[.int .i64 b.kind, .string (bs b.str), .int .i64 b.num, .slice q b.kids.length d] 26)).heap.size ((w.alloc (.cells #[.int .i64 a.kind, .string (bs a.str), .int .i64 a.num, .slice p a.kids.length c] 26)).alloc (.cells #[.int .i64 b.kind, .string (bs b.str), .int .i64 b.num, .slice q b.kids.length d] 26)) W) : W.heap[w.heap.size]? = some (.cells #[.int .i64 a.kind, .string (bs a.str), .int .i64 a.num, .slice p a.kids.length c] 26 (0, 0)) :=
  (h.block _ (by simp; omega)).trans ((Below.heap_alloc _ _ _ (by simp)).trans (heap_alloc_new w _))
theorem boxB {a b : Rep} {p q : Option Addr} {c d : Nat} {w W : World} (h : Below ((w.alloc (.cells #[.int .i64 a.kind, .string (bs a.str), .int .i64 a.num, .slice p a.kids.length c] 26)).alloc (.cells #[.int .i64 b.kind, .string (bs b.str), .int .i64 b.num, .slice q b.kids.length d] 26)).heap.size ((w.alloc (.cells #[.int .i64 a.kind, .string (bs a.str), .int .i64 a.num, .slice p a.kids.length c] 26)).alloc (.cells #[.int .i64 b.kind, .string (bs b.str), .int .i64 b.num, .slice q b.kids.length d] 26)) W) : W.heap[w.heap.size + 1]? = some (.cells #[.int .i64 b.kind, .string (bs b.str), .int .i64 b.num, .slice q b.kids.length d] 26 (0, 0)) :=
  (h.block _ (by simp)).trans (two_heap w _ _ _ rfl)
theorem below2 {w w1 : World} {o o2 : Obj} (h : Below ((w.alloc o).alloc o2).heap.size ((w.alloc o).alloc o2) w1) : Below w.heap.size w w1 := bT (bA (bA (Below.refl _ _) _) _) h
end Go.Proofs.YtcikelcecfapcaaDoor

namespace Go.Proofs.YtcikelcecfapcaaDoor
open Go.RowKit Rp

theorem SliceIn.below {w w' : World} (hb : Below w.heap.size w w') {l : List Rep} {p : Option Addr} (h : SliceIn w l p) : SliceIn w' l p := by
  rcases h with rfl | ⟨b, o, hp, hr⟩
  · exact .inl rfl
  · exact .inr ⟨b, o, hp, RowIn.below hb hr⟩
theorem slice_new {w : World} {g : Nat} {r : Rep} {q : Option Addr} {c : Nat} (hN : w.heap[g]? = some (.cells #[.int .i64 r.kind, .string (bs r.str), .int .i64 r.num, .slice q r.kids.length c] 26 (0, 0))) (h : RepIn w r q c) : SliceIn w [r] (some ⟨g, 0, none⟩) := by
  refine .inr ⟨g, 0, rfl, row_mk fun j hj => ?_⟩
  obtain rfl : j = 0 := by simp at hj; omega
  refine ⟨q, c, ⟨?_, ?_, ?_, ?_⟩, h⟩
  all_goals (rw [Lib.cell_of_heap hN]; rfl)
theorem conv_all {w : World} {B : Nat} {v : Value} {ys : List UInt8} (h : w.ownsRow B 5 1 v ys.length (sCells ys)) : ∀ w', Below w.heap.size w w' → (convert 22 9 v).run Tryd.prog w' = .ok (.string (bs ys)) w' :=
  fun w' hb => convert_own (h.kept (below_grown hb none) (by cases v.ownBlock <;> simp))
theorem held_swap {P : Program} {md : Region.Mode} {ops : Array Oper} {Q : Exit → Act → World → Prop} {S S' : World → Prop} (h : ∀ w, S' w → S w) : ∀ (fuel : Nat) (listed : Array Bool) (a : Act) (w : World),
    wpAnyH P md ops Q S' fuel listed a w → wpAnyH P md ops Q S fuel listed a w
  | 0, _, _, _, hh => hh
  | fuel + 1, _, _, _, hh => ⟨hh.1, fun i hi => wpOp_mono (fun _ _ hk => ⟨h _ hk.1, held_swap h fuel _ _ _ hk.2⟩) (hh.2 i hi)⟩
theorem load_box {W : World} {g : Nat} {r : Rep} {q : Option Addr} {c : Nat} (hN : W.heap[g]? = some (.cells #[.int .i64 r.kind, .string (bs r.str), .int .i64 r.num, .slice q r.kids.length c] 26 (0, 0))) :
    ∀ w', Below W.heap.size W w' → w'.cell? ⟨g, 0, none⟩ = some (.int .i64 r.kind) ∧ w'.cell? ⟨g, 1, none⟩ = some (.string (bs r.str)) ∧ w'.cell? ⟨g, 2, none⟩ = some (.int .i64 r.num) ∧ w'.cell? ⟨g, 3, none⟩ = some (.slice q r.kids.length c) := fun _ hb =>
  cells4 ((hb.block g (Array.getElem?_eq_some_iff.1 hN).1).trans hN)
theorem bs_take (l : List UInt8) (k : Nat) : (bs l).extract 0 k = bs (l.take k) := by
  apply ByteArray.ext
  apply Array.ext'
  simp [bs]
theorem write_at (r : Rep) (g : Nat) (W : World) (h : SliceIn W [r] (some ⟨g, 0, none⟩)) (hs : Short r) (hr : right 4 r = true) (hT : Tens W) (hlen : (enc r).length ≤ 1099511627776) :
    Calls Tryd.prog 18 #[.slice (some ⟨g, 0, none⟩) 1 1] W (Fresh W (enc r)) := by
  have e : written [r] = enc r := by simp [written, hr]
  have := write_any [r] _ 1 W h (by simp [ShortL, hs]) hT (by simp) (by rw [e]; exact hlen)
  rw [e] at this
  exact this
end Go.Proofs.YtcikelcecfapcaaDoor
