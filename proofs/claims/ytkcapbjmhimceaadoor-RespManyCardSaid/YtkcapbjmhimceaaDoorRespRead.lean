/-
  resp.Read, of any bytes.
-/
import Derived.Test.YtkcapbjmhimceaaDoorRespTakeC
namespace Go.Proofs.YtkcapbjmhimceaaDoor
open Go.RowKit Rp

/-- What Read answers. -/
def ReadV (lo : Nat) (w' : World) (l : List UInt8) (e : Ending) (a : Option (Rep × List UInt8)) : Prop :=
  match a with
  | some (r, s) => ∃ q d, e = .returned (.tuple #[.agg (repCs r q d), .int .i64 ((l.length - s.length : Nat) : Int), .bool true]) ∧ RepFrom lo w' r q d
  | none => e = .returned (.tuple #[.agg #[.int .i64 0, .string ⟨#[]⟩, .int .i64 0, .slice none 0 0], .int .i64 0, .bool false])

theorem heap_lt_alloc (w : World) (o : Obj) : w.heap.size < (w.alloc o).heap.size := by simp

set_option maxRecDepth 20000 in
set_option maxHeartbeats 4000000 in
theorem read_any (l : List UInt8) (hl : l.length ≤ 1000000000) (p : Option Addr) (c : Nat) (w : World) (hL : Errs w) (hR : Runes w) (h : Rest w p c l) :
    Calls Tryd.prog 9 #[.slice p l.length c] w fun e w' => ReadV w.heap.size w' l e (rd 4 l) ∧ Below w.heap.size w w' := by
  have HT := Lib.hid (fun (W : World) (hW : Below w.heap.size w W) => take_any 4 (by decide) l hl p c W (hL.on hW) (hR.on hW) (h.below hW))
  clear hL hR h
  go_enter Tryd.func9, Tryd.ntmps9
  go_wp2_with fail
  refine (HT.out _ (bA (Below.refl _ _) _)).mono ?_
  rintro e w1 ⟨hv, hb1⟩
  have hB1 : Below w.heap.size w w1 := bT (bA (Below.refl _ _) _) hb1
  have hlt1 : w.heap.size < w1.heap.size := by have := hb1.size; simp at this; omega
  have hbxA : ∀ X, (w1.alloc X).heap[w.heap.size]? = some (.cells #[.int .i64 0, .string ⟨#[]⟩, .int .i64 0, .slice none 0 0] 26 (0, 0)) := fun X => ((bA (Below.refl _ w1) X).block _ hlt1).trans ((hb1.block _ (by simp)).trans (heap_alloc_new w _))
  have z0 := fun X => (cells4 (hbxA X)).1
  have z1 := fun X => (cells4 (hbxA X)).2.1
  have z2 := fun X => (cells4 (hbxA X)).2.2.1
  have z3 := fun X => (cells4 (hbxA X)).2.2.2
  have fz := fun X => frozen4 (hbxA X)
  have HBX := Lib.hid hbxA
  have HLT := Lib.hid hlt1
  clear hbxA hlt1
  cases hrd : rd 4 l with
  | none =>
    rw [hrd] at hv
    obtain ⟨k', S', n', q', m', d', p', x', c', rfl⟩ := hv
    have HRD := Lib.hid hrd
    clear hrd
    go_wp2_with fail
    have hE := heap_set4 (HBX.out (.cells #[.int .i64 k', .string S', .int .i64 n', .slice q' m' d'] 26 (0, 0))) (.int .i64 0) (.string ⟨#[]⟩) (.int .i64 0) (.slice none 0 0)
    have HE : Below w.heap.size w (set4 (w1.alloc (.cells #[.int .i64 k', .string S', .int .i64 n', .slice q' m' d'] 26 (0, 0))) w.heap.size (.int .i64 0) (.string ⟨#[]⟩) (.int .i64 0) (.slice none 0 0)) := set4_below (bA hB1 _) (Nat.le_refl _) _ _ _ _
    show bodyPost _ _ _ _ _ (set4 (w1.alloc (.cells #[.int .i64 k', .string S', .int .i64 n', .slice q' m' d'] 26 (0, 0))) w.heap.size (.int .i64 0) (.string ⟨#[]⟩) (.int .i64 0) (.slice none 0 0))
    generalize set4 (w1.alloc (.cells #[.int .i64 k', .string S', .int .i64 n', .slice q' m' d'] 26 (0, 0))) w.heap.size (.int .i64 0) (.string ⟨#[]⟩) (.int .i64 0) (.slice none 0 0) = W at *
    obtain ⟨e0, e1, e2, e3⟩ := cells4 hE
    exact bodyPost_ret (v := .tuple #[.agg #[.int .i64 0, .string ⟨#[]⟩, .int .i64 0, .slice none 0 0], .int .i64 0, .bool false]) (by simp [results, Tryd.results9, go_sem, e0, e1, e2, e3]) rfl ⟨by rw [HRD.out]; rfl, HE⟩
  | some y =>
    obtain ⟨x, s⟩ := y
    have hlen := rd_len 4 l x s hrd
    rw [hrd] at hv
    obtain ⟨q', d', p', c', rfl, hfrom, -⟩ := hv
    have HF := Lib.hid hfrom
    have HRD := Lib.hid hrd
    clear hrd hfrom
    simp only [repCs]
    have hsub : wrap64 ((l.length : Int) - (s.length : Int)) = ((l.length - s.length : Nat) : Int) := by unfold wrap64; omega
    go_wp2_with fail
    have hE := heap_set4 (HBX.out (.cells #[.int .i64 x.kind, .string (bs x.str), .int .i64 x.num, .slice q' x.kids.length d'] 26 (0, 0))) (.int .i64 x.kind) (.string (bs x.str)) (.int .i64 x.num) (.slice q' x.kids.length d')
    have HE : Below w.heap.size w (set4 (w1.alloc (.cells #[.int .i64 x.kind, .string (bs x.str), .int .i64 x.num, .slice q' x.kids.length d'] 26 (0, 0))) w.heap.size (.int .i64 x.kind) (.string (bs x.str)) (.int .i64 x.num) (.slice q' x.kids.length d')) := set4_below (bA hB1 _) (Nat.le_refl _) _ _ _ _
    have hF := HF.out.on (lo := w.heap.size) (w' := set4 (w1.alloc (.cells #[.int .i64 x.kind, .string (bs x.str), .int .i64 x.num, .slice q' x.kids.length d'] 26 (0, 0))) w.heap.size (.int .i64 x.kind) (.string (bs x.str)) (.int .i64 x.num) (.slice q' x.kids.length d')) (by have := HLT.out; simp) (by rw [set4_size]; simp) (fun k k1 k2 => by
      rw [set4_other _ _ _ _ _ _ _ (by have k1' := Nat.lt_of_lt_of_le (heap_lt_alloc w _) k1; omega)]
      exact (bA (Below.refl _ w1) _).block k k2)
    show bodyPost _ _ _ _ _ (set4 (w1.alloc (.cells #[.int .i64 x.kind, .string (bs x.str), .int .i64 x.num, .slice q' x.kids.length d'] 26 (0, 0))) w.heap.size (.int .i64 x.kind) (.string (bs x.str)) (.int .i64 x.num) (.slice q' x.kids.length d'))
    generalize set4 (w1.alloc (.cells #[.int .i64 x.kind, .string (bs x.str), .int .i64 x.num, .slice q' x.kids.length d'] 26 (0, 0))) w.heap.size (.int .i64 x.kind) (.string (bs x.str)) (.int .i64 x.num) (.slice q' x.kids.length d') = W at *
    obtain ⟨e0, e1, e2, e3⟩ := cells4 hE
    exact bodyPost_ret (v := .tuple #[.agg #[.int .i64 x.kind, .string (bs x.str), .int .i64 x.num, .slice q' x.kids.length d'], .int .i64 ((l.length - s.length : Nat) : Int), .bool true]) (by simp [results, Tryd.results9, go_sem, e0, e1, e2, e3]; omega) rfl ⟨by rw [HRD.out]; exact ⟨q', d', rfl, hF⟩, HE⟩
end Go.Proofs.YtkcapbjmhimceaaDoor
