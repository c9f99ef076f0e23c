/-
  resp.takeArray, of any text and bytes, resp.take one deep less.
-/
import Derived.Test.YtkcapbjmhimceaaDoorRespTakeA
namespace Go.Proofs.YtkcapbjmhimceaaDoor
open Go.RowKit Rp

/-- resp.take, arrays nested at most d deep. -/
def TakeAt (d : Nat) : Prop := ∀ (l : List UInt8), l.length ≤ 1000000000 → ∀ (p : Option Addr) (c : Nat) (w : World), Errs w → Runes w → Rest w p c l →
  Calls Tryd.prog 25 #[.slice p l.length c, .int .i64 d] w fun e w' => TookR w.heap.size w' p c l e (rd d l) ∧ Below w.heap.size w w'

set_option maxHeartbeats 2000000 in
theorem array_unparsed (f : List UInt8 → Option (Rep × List UInt8)) (D : Nat) (t l : List UInt8) (htl : t.length ≤ 281474976710656) (hp : parseL t = none) (p : Option Addr) (c : Nat) (w : World) (hL : Errs w) :
    Calls Tryd.prog 36 #[.string (bs t), .slice p l.length c, .int .i64 D] w fun e w' => TookR w.heap.size w' p c l e (arrayOf f t l) ∧ Below w.heap.size w w' := by
  have HB := Lib.hid (show arrayOf f t l = none by rw [arrayOf, hp])
  have HP := Lib.hid (fun (W : World) (hW : Below w.heap.size w W) => parse_any t htl W (hL.on hW))
  rw [hp] at HP
  clear hp
  go_enter Tryd.func36, Tryd.ntmps36
  go_wp2_with fail
  refine (HP.out _ (bA (Below.refl _ _) _)).mono ?_
  rintro e w1 ⟨rfl, hb1⟩
  have hbx : w1.heap[w.heap.size]? = some (.cells #[.int .i64 0, .string ⟨#[]⟩, .int .i64 0, .slice none 0 0] 26 (0, 0)) := (hb1.block _ (by simp)).trans (heap_alloc_new w _)
  obtain ⟨c0, c1, c2, c3⟩ := cells4 hbx
  have fz := frozen4 hbx
  go_wp2_with fail
  have hE := heap_set4 hbx (.int .i64 0) (.string ⟨#[]⟩) (.int .i64 0) (.slice none 0 0)
  have HE : Below w.heap.size w (set4 w1 w.heap.size (.int .i64 0) (.string ⟨#[]⟩) (.int .i64 0) (.slice none 0 0)) := set4_below (bT (bA (Below.refl _ _) _) hb1) (Nat.le_refl _) _ _ _ _
  show bodyPost _ _ _ _ _ (set4 w1 w.heap.size (.int .i64 0) (.string ⟨#[]⟩) (.int .i64 0) (.slice none 0 0))
  generalize set4 w1 w.heap.size (.int .i64 0) (.string ⟨#[]⟩) (.int .i64 0) (.slice none 0 0) = W at *
  obtain ⟨e0, e1, e2, e3⟩ := cells4 hE
  refine bodyPost_ret (v := .tuple #[.agg #[.int .i64 0, .string ⟨#[]⟩, .int .i64 0, .slice none 0 0], .slice none 0 0, .bool false]) (by simp [results, Tryd.results36, go_sem, e0, e1, e2, e3]) rfl ?_
  rw [HB.out]
  exact ⟨⟨_, _, _, _, _, _, _, _, _, rfl⟩, HE⟩

set_option maxHeartbeats 2000000 in
theorem array_neg (f : List UInt8 → Option (Rep × List UInt8)) (D : Nat) (t l : List UInt8) (htl : t.length ≤ 281474976710656) (n : Int) (hp : parseL t = some n) (hn : n < 0) (p : Option Addr) (c : Nat) (w : World) (hL : Errs w) :
    Calls Tryd.prog 36 #[.string (bs t), .slice p l.length c, .int .i64 D] w fun e w' => TookR w.heap.size w' p c l e (arrayOf f t l) ∧ Below w.heap.size w w' := by
  have HB := Lib.hid (show arrayOf f t l = none by rw [arrayOf, hp]; exact if_neg (by omega))
  have HP := Lib.hid (fun (W : World) (hW : Below w.heap.size w W) => parse_any t htl W (hL.on hW))
  rw [hp] at HP
  have hd0 : decide (n < 0) = true := decide_eq_true hn
  clear hp
  go_enter Tryd.func36, Tryd.ntmps36
  go_wp2_with fail
  refine (HP.out _ (bA (Below.refl _ _) _)).mono ?_
  rintro e w1 ⟨rfl, hb1⟩
  have hbx : w1.heap[w.heap.size]? = some (.cells #[.int .i64 0, .string ⟨#[]⟩, .int .i64 0, .slice none 0 0] 26 (0, 0)) := (hb1.block _ (by simp)).trans (heap_alloc_new w _)
  obtain ⟨c0, c1, c2, c3⟩ := cells4 hbx
  have fz := frozen4 hbx
  go_wp2_with fail
  have hE := heap_set4 hbx (.int .i64 0) (.string ⟨#[]⟩) (.int .i64 0) (.slice none 0 0)
  have HE : Below w.heap.size w (set4 w1 w.heap.size (.int .i64 0) (.string ⟨#[]⟩) (.int .i64 0) (.slice none 0 0)) := set4_below (bT (bA (Below.refl _ _) _) hb1) (Nat.le_refl _) _ _ _ _
  show bodyPost _ _ _ _ _ (set4 w1 w.heap.size (.int .i64 0) (.string ⟨#[]⟩) (.int .i64 0) (.slice none 0 0))
  generalize set4 w1 w.heap.size (.int .i64 0) (.string ⟨#[]⟩) (.int .i64 0) (.slice none 0 0) = W at *
  obtain ⟨e0, e1, e2, e3⟩ := cells4 hE
  refine bodyPost_ret (v := .tuple #[.agg #[.int .i64 0, .string ⟨#[]⟩, .int .i64 0, .slice none 0 0], .slice none 0 0, .bool false]) (by simp [results, Tryd.results36, go_sem, e0, e1, e2, e3]) rfl ?_
  rw [HB.out]
  exact ⟨⟨_, _, _, _, _, _, _, _, _, rfl⟩, HE⟩

set_option maxHeartbeats 2000000 in
theorem array_flat (t l : List UInt8) (htl : t.length ≤ 281474976710656) (n : Int) (hp : parseL t = some n) (hn : ¬ n < 0) (p : Option Addr) (c : Nat) (w : World) (hL : Errs w) :
    Calls Tryd.prog 36 #[.string (bs t), .slice p l.length c, .int .i64 ((0 : Nat) : Int)] w fun e w' => TookR w.heap.size w' p c l e ((none : Option (Rep × List UInt8))) ∧ Below w.heap.size w w' := by
  have HB := Lib.hid (show (none : Option (Rep × List UInt8)) = none by rfl)
  have HP := Lib.hid (fun (W : World) (hW : Below w.heap.size w W) => parse_any t htl W (hL.on hW))
  rw [hp] at HP
  have hd0 : decide (n < 0) = false := decide_eq_false hn
  clear hp
  go_enter Tryd.func36, Tryd.ntmps36
  go_wp2_with fail
  refine (HP.out _ (bA (Below.refl _ _) _)).mono ?_
  rintro e w1 ⟨rfl, hb1⟩
  have hbx : w1.heap[w.heap.size]? = some (.cells #[.int .i64 0, .string ⟨#[]⟩, .int .i64 0, .slice none 0 0] 26 (0, 0)) := (hb1.block _ (by simp)).trans (heap_alloc_new w _)
  obtain ⟨c0, c1, c2, c3⟩ := cells4 hbx
  have fz := frozen4 hbx
  go_wp2_with fail
  have hE := heap_set4 hbx (.int .i64 0) (.string ⟨#[]⟩) (.int .i64 0) (.slice none 0 0)
  have HE : Below w.heap.size w (set4 w1 w.heap.size (.int .i64 0) (.string ⟨#[]⟩) (.int .i64 0) (.slice none 0 0)) := set4_below (bT (bA (Below.refl _ _) _) hb1) (Nat.le_refl _) _ _ _ _
  show bodyPost _ _ _ _ _ (set4 w1 w.heap.size (.int .i64 0) (.string ⟨#[]⟩) (.int .i64 0) (.slice none 0 0))
  generalize set4 w1 w.heap.size (.int .i64 0) (.string ⟨#[]⟩) (.int .i64 0) (.slice none 0 0) = W at *
  obtain ⟨e0, e1, e2, e3⟩ := cells4 hE
  refine bodyPost_ret (v := .tuple #[.agg #[.int .i64 0, .string ⟨#[]⟩, .int .i64 0, .slice none 0 0], .slice none 0 0, .bool false]) (by simp [results, Tryd.results36, go_sem, e0, e1, e2, e3]) rfl ?_
  exact ⟨⟨_, _, _, _, _, _, _, _, _, rfl⟩, HE⟩

theorem array_zero (t l : List UInt8) (htl : t.length ≤ 281474976710656) (p : Option Addr) (c : Nat) (w : World) (hL : Errs w) :
    Calls Tryd.prog 36 #[.string (bs t), .slice p l.length c, .int .i64 ((0 : Nat) : Int)] w fun e w' => TookR w.heap.size w' p c l e (none : Option (Rep × List UInt8)) ∧ Below w.heap.size w w' := by
  cases hp : parseL t with
  | none =>
    have := array_unparsed (fun _ => none) 0 t l htl hp p c w hL
    rw [arrayOf, hp] at this
    exact this
  | some n =>
    by_cases hn : n < 0
    · have := array_neg (fun _ => none) 0 t l htl n hp hn p c w hL
      rw [arrayOf, hp] at this
      simp only [show ¬ (0 ≤ n) from by omega, if_false] at this
      exact this
    · exact array_flat t l htl n hp hn p c w hL

theorem joinR_end (f : List UInt8 → Option (Rep × List UInt8)) (xs : List Rep) (l : List UInt8) : joinR xs (many f 0 l) = some (xs, l) := by rw [many, joinR, List.append_nil]

/-- What stands at the head of a round. -/
structure Grow (d N : Nat) (l : List UInt8) (p : Option Addr) (c : Nat) (w : World) (B j : Nat) (xs : List Held) (l1 : List UInt8) (p1 : Option Addr) (c1 : Nat) (a : Option Addr) (cap : Nat) (wr : World) : Prop where
  len : xs.length = j
  sub : Sub p c l p1 c1 l1
  red : many (rd d) N l = joinR (xs.map (·.1)) (many (rd d) (N - j) l1)
  short : j + l1.length ≤ l.length
  below : Below w.heap.size w wr
  box : wr.heap[w.heap.size]? = some (.cells #[.int .i64 0, .string ⟨#[]⟩, .int .i64 0, .slice none 0 0] 26 (0, 0))
  own : wr.heap[B]? = some (.cells #[.int .i64 5, .string ⟨#[]⟩, .int .i64 0, .slice a j cap] 26 (0, 0))
  row : wr.ownsRow (B + 1) 26 4 (.slice a j cap) j (flatK xs)
  kids : ∀ x ∈ xs, Keeps (w.heap.size + 1) B (Value.ownBlock (.slice a j cap)) wr x

theorem joinR_nil' (o : Option (List Rep × List UInt8)) : o = joinR (([] : List Held).map (·.1)) o := by cases o <;> rfl

theorem Grow.step {d N : Nat} {l : List UInt8} {p : Option Addr} {c : Nat} {w : World} {B j : Nat} {xs : List Held} {l1 : List UInt8} {p1 : Option Addr} {c1 : Nat} {a : Option Addr} {cap : Nat} {wr w2 w3 : World} (G : Grow d N l p c w B j xs l1 p1 c1 a cap wr) (hj : j < N) (hwB : w.heap.size < B)
    (hb2 : Below wr.heap.size wr w2) {x : Rep} {q : Option Addr} {e : Nat} (hf : RepFrom wr.heap.size w2 x q e) {p2 : Option Addr} {c2 : Nat} {l2 : List UInt8} (hs : Sub p1 c1 l1 p2 c2 l2) (hr : rd d l1 = some (x, l2)) (x4 y4 : Obj) {g cap1 : Nat}
    (hown : w3.ownsRow (B + 1) 26 4 (.slice (some ⟨g, 0, none⟩) (j + 1) cap1) (j + 1) (flatK xs ++ [.int .i64 x.kind, .string (bs x.str), .int .i64 x.num, .slice q x.kids.length e]))
    (hgrow : ((w2.alloc x4).alloc y4).grownBy w3 (Value.ownBlock (.slice a j cap))) (hgs : Value.ownBlock (.slice a j cap) = some g ∨ g = w2.heap.size + 2) :
    Grow d N l p c w B (j + 1) (xs ++ [(x, q, e)]) l2 p2 c2 (some ⟨g, 0, none⟩) cap1 (w3.setCell ⟨B, 3, none⟩ (.slice (some ⟨g, 0, none⟩) (j + 1) cap1)) := by
  have hB : B < wr.heap.size := (Array.getElem?_eq_some_iff.1 G.own).1
  have hbB : Below wr.heap.size wr ((w2.alloc x4).alloc y4) := bA (bA hb2 x4) y4
  have hszB : ((w2.alloc x4).alloc y4).heap.size = w2.heap.size + 2 := by simp
  have hs2 := hb2.size
  have hs3 := hgrow.size
  rw [hszB] at hs3
  have hlt := G.row.lt
  have hset : ∀ k v, k ≠ B → (w3.setCell ⟨B, 3, none⟩ v).heap[k]? = w3.heap[k]? := fun k v hk => Below.heap_setCell _ _ _ _ hk
  have hssz : ∀ v, (w3.setCell ⟨B, 3, none⟩ v).heap.size = w3.heap.size := fun v => by simp [World.setCell]
  have h3 : ∀ k, k < w2.heap.size + 2 → some k ≠ Value.ownBlock (.slice a j cap) → w3.heap[k]? = ((w2.alloc x4).alloc y4).heap[k]? := fun k hk hn => hgrow.block k (by rw [hszB]; exact hk) hn
  have h3w : ∀ k, k < wr.heap.size → some k ≠ Value.ownBlock (.slice a j cap) → w3.heap[k]? = wr.heap[k]? := fun k hk hn => (h3 k (by omega) hn).trans (hbB.block k hk)
  refine ⟨by rw [List.length_append, G.len]; rfl, G.sub.trans hs, ?_, ?_, ?_, ?_, ?_, ?_, ?_⟩
  · rw [G.red, show N - j = (N - (j + 1)) + 1 by omega, joined_step _ _ _ _ _ _ hr, List.map_append]
    rfl
  · have := rd_len d l1 x l2 hr
    have := G.short
    omega
  · refine Below.setCell (p := ⟨B, 3, none⟩) ?_ (Nat.le_of_lt hwB) _
    exact (bA (bA (bT G.below hb2) x4) y4).grown hgrow (by have := G.below.size; rw [hszB]; omega) (fun k hk => by have := (hlt k hk).1; omega)
  · rw [hset _ _ (by omega), h3w _ (by omega) (fun e => by have := (hlt _ e.symm).1; omega)]
    exact G.box
  · have := h3w B hB (fun e => by have := (hlt _ e.symm).1; omega)
    exact heap_set (this.trans G.own) _
  · rw [flatK_snoc]
    exact ownsRow_setCell_below hown (a := ⟨B, 3, none⟩) (Nat.lt_succ_self B) _
  · intro y hy
    have hog : ∀ k, Value.ownBlock (.slice (some ⟨g, 0, none⟩) (j + 1) cap1) = some k → k = g := fun k hk => by simp [Value.ownBlock] at hk; exact hk.symm
    rcases List.mem_append.1 hy with hy | hy
    · refine (G.kids y hy).on (by rw [hssz]; omega) (fun k hk => ?_) (fun k k1 k2 k3 => ?_)
      · rw [hog k hk]
        rcases hgs with h | h
        · exact .inl h
        · exact .inr (by omega)
      · rw [hset k _ k2]
        exact h3w k k1 k3
    · obtain rfl : y = (x, q, e) := by simpa using hy
      refine RepFrom.keeps hf (by have := G.below.size; omega) hB (fun k hk => ?_) (by rw [hssz]; omega) (fun k k1 k2 => ?_)
      · rw [hog k hk]
        rcases hgs with h | h
        · exact .inl (hlt g h).2
        · exact .inr (by omega)
      · rw [hset k _ (by omega), h3 k (by omega) (fun e => by have := (hlt _ e.symm).2; omega)]
        exact (bA (bA (Below.refl _ w2) x4) y4).block k k2

set_option maxRecDepth 20000 in
set_option maxHeartbeats 8000000 in
theorem array_step (d : Nat) (hd4 : d < 100) (hT : TakeAt d) (t l : List UInt8) (hl : l.length ≤ 1000000000) (htl : t.length ≤ 281474976710656) (N : Nat) (hp : parseL t = some (N : Int)) (p : Option Addr) (c : Nat) (w : World) (hL : Errs w) (hR : Runes w) (h : Rest w p c l) :
    Calls Tryd.prog 36 #[.string (bs t), .slice p l.length c, .int .i64 ((d + 1 : Nat) : Int)] w fun e w' => TookR w.heap.size w' p c l e (arrayOf (rd d) t l) ∧ Below w.heap.size w w' := by
  obtain ⟨i0, hi, hz0, hz1, hz2⟩ := info_parts info_rep
  have HB := Lib.hid (show arrayOf (rd d) t l = match many (rd d) N l with | none => none | some (l, r) => some (.mk 5 [] 0 l, r) by
    rw [arrayOf, hp]
    show (if (0 : Int) ≤ (N : Int) then _ else _) = _
    rw [if_pos (by omega), Int.toNat_natCast]
    cases many (rd d) N l <;> rfl)
  have HP := Lib.hid (fun (W : World) (hW : Below w.heap.size w W) => parse_any t htl W (hL.on hW))
  rw [hp] at HP
  have hNf : Fits (N : Int) := (parseL_some hp).1
  have hd0 : decide ((N : Int) < 0) = false := decide_eq_false (by omega)
  have hd1 : decide (((d + 1 : Nat) : Int) < 1) = false := decide_eq_false (by omega)
  have hN63 : N ≤ 9223372036854775807 := by have := hNf.2; omega
  have hsub : wrap64 (((d + 1 : Nat) : Int) - 1) = (d : Int) := by unfold wrap64; omega
  have HL := Lib.hid hL
  have HR := Lib.hid hR
  have HH := Lib.hid h
  have HTT := Lib.hid hT
  obtain ⟨D, hD⟩ : ∃ D : Int, ((d + 1 : Nat) : Int) = D := ⟨_, rfl⟩
  rw [hD] at hd1 hsub ⊢
  clear hD
  clear hp hNf hL hR h hT
  go_enter Tryd.func36, Tryd.ntmps36
  go_wp2_with fail
  refine (HP.out _ (bA (Below.refl _ _) _)).mono ?_
  rintro e w1 ⟨rfl, hb1⟩
  have HBX := Lib.hid (show w1.heap[w.heap.size]? = some (.cells #[.int .i64 0, .string ⟨#[]⟩, .int .i64 0, .slice none 0 0] 26 (0, 0)) from (hb1.block _ (by simp)).trans (heap_alloc_new w _))
  have hB1 : Below w.heap.size w w1 := bT (bA (Below.refl _ _) _) hb1
  have hlt1 : w.heap.size < w1.heap.size := by have := hb1.size; simp at this; omega
  clear hb1
  have hlt1' := hlt1
  obtain ⟨B, hBd⟩ : ∃ B : Nat, w1.heap.size = B := ⟨_, rfl⟩
  go_wp2_with fail
  go_loopw [1, 33] (fun s1 s33 wr => ∃ (j : Nat) (xs : List Held) (l1 : List UInt8) (p1 : Option Addr) (c1 : Nat) (a : Option Addr) (cap : Nat), j ≤ N ∧ s33 = .int .i64 j ∧ s1 = .slice p1 l1.length c1 ∧ Hid (Grow d N l p c w B j xs l1 p1 c1 a cap wr)) (fun _ i _ => N - (intOf i).toNat)
  case atStart =>
    refine ⟨0, [], l, p, c, none, 0, Nat.zero_le _, rfl, rfl, Lib.hid ⟨rfl, Sub.refl _ _ _, joinR_nil' _, by omega, hB1.alloc hB1.size _, ?_, ?_, World.ownsRow_nil _ _ _ _, fun x hx => by cases hx⟩⟩
    · exact ((bA (Below.refl _ w1) _).block _ hlt1').trans HBX.out
    · rw [← hBd]; exact heap_alloc_new w1 _
  case round =>
    obtain ⟨j, xs, l1, p1, c1, a, cap, hj, rfl, rfl, HG⟩ := hrel
    by_cases hjl : j < N
    · have hdj : decide ((j : Int) < (N : Int)) = true := decide_eq_true (by omega)
      have HTK := Lib.hid (HTT.out l1 (by have := HG.out.short; omega) p1 c1 wr (HL.out.on HG.out.below) (HR.out.on HG.out.below) (HG.out.sub wr (HH.out.below HG.out.below)))
      go_wp2_with fail
      refine HTK.out.mono ?_
      rintro e w2 ⟨ht, hb2⟩
      cases hrd : rd d l1 with
      | none =>
        rw [hrd] at ht
        obtain ⟨k', S', n', q', m', d', p', x', c', rfl⟩ := ht
        have hbxA : ∀ X, (w2.alloc X).heap[w.heap.size]? = some (.cells #[.int .i64 0, .string ⟨#[]⟩, .int .i64 0, .slice none 0 0] 26 (0, 0)) := fun X => ((bA hb2 X).block _ (Array.getElem?_eq_some_iff.1 HG.out.box).1).trans HG.out.box
        have c0 := fun X => (cells4 (hbxA X)).1
        have c1 := fun X => (cells4 (hbxA X)).2.1
        have c2 := fun X => (cells4 (hbxA X)).2.2.1
        have c3 := fun X => (cells4 (hbxA X)).2.2.2
        have fz := fun X => frozen4 (hbxA X)
        have HBA := Lib.hid hbxA
        clear hbxA
        go_wp2_with fail
        have hE := heap_set4 (HBA.out (.cells #[.int .i64 k', .string S', .int .i64 n', .slice q' m' d'] 26 (0, 0))) (.int .i64 0) (.string ⟨#[]⟩) (.int .i64 0) (.slice none 0 0)
        have HE : Below w.heap.size w (set4 (w2.alloc (.cells #[.int .i64 k', .string S', .int .i64 n', .slice q' m' d'] 26 (0, 0))) w.heap.size (.int .i64 0) (.string ⟨#[]⟩) (.int .i64 0) (.slice none 0 0)) := set4_below (bA (HG.out.below.trans (hb2.mono HG.out.below.size)) _) (Nat.le_refl _) _ _ _ _
        show bodyPost _ _ _ _ _ (set4 (w2.alloc (.cells #[.int .i64 k', .string S', .int .i64 n', .slice q' m' d'] 26 (0, 0))) w.heap.size (.int .i64 0) (.string ⟨#[]⟩) (.int .i64 0) (.slice none 0 0))
        generalize set4 (w2.alloc (.cells #[.int .i64 k', .string S', .int .i64 n', .slice q' m' d'] 26 (0, 0))) w.heap.size (.int .i64 0) (.string ⟨#[]⟩) (.int .i64 0) (.slice none 0 0) = W at *
        obtain ⟨e0, e1, e2, e3⟩ := cells4 hE
        refine bodyPost_ret (v := .tuple #[.agg #[.int .i64 0, .string ⟨#[]⟩, .int .i64 0, .slice none 0 0], .slice none 0 0, .bool false]) (by simp [results, Tryd.results36, go_sem, e0, e1, e2, e3]) rfl ?_
        have hnone : many (rd d) N l = none := by
          rw [HG.out.red, show N - j = (N - j - 1) + 1 by omega]
          exact joined_fail _ _ _ _ hrd
        rw [HB.out, hnone]
        exact ⟨⟨_, _, _, _, _, _, _, _, _, rfl⟩, HE⟩
      | some y =>
        obtain ⟨x, l2⟩ := y
        rw [hrd] at ht
        obtain ⟨q', d', p2, c2, rfl, hfrom, hsub2⟩ := ht
        simp only [repCs]
        have hownA : ∀ X, (w2.alloc X).heap[B]? = some (.cells #[.int .i64 5, .string ⟨#[]⟩, .int .i64 0, .slice a j cap] 26 (0, 0)) := fun X => ((bA hb2 X).block _ (Array.getElem?_eq_some_iff.1 HG.out.own).1).trans HG.out.own
        have o3 := fun X => (cells4 (hownA X)).2.2.2
        clear hownA
        have HF := Lib.hid hfrom
        have HS := Lib.hid hsub2
        have HRD := Lib.hid hrd
        clear hfrom hsub2 hrd
        obtain ⟨x4, hx4⟩ : ∃ x4 : Obj, x4 = .cells #[.int .i64 x.kind, .string (bs x.str), .int .i64 x.num, .slice q' x.kids.length d'] 26 := ⟨_, rfl⟩
        have hsz2 : B < wr.heap.size := (Array.getElem?_eq_some_iff.1 HG.out.own).1
        have hs2 := hb2.size
        have hjb : j + 1 ≤ 1000000000 := by have := HG.out.short; have := rd_len d l1 x l2 HRD.out; omega
        have HROW := Lib.hid (HG.out.row.kept (below_grown (bA (bA hb2 x4) x4) none) (by simp [Value.ownBlock]; cases a <;> simp))
        rw [hx4] at HROW
        go_wp2_with (at_builtin; refine wpList_append_lies _ rfl (.tmp 47) (.tmp 49) 24 rfl (B + 1) 26 i0 (.agg #[.int .i64 0, .string ⟨#[]⟩, .int .i64 0, .slice none 0 0]) 4 56 Tryd.underlying24 hi hz0 hz1 hz2 rfl (by decide) _ j _ rfl HROW.out ⟨w2.heap.size + 1, 0, none⟩ 1 1 [.int .i64 x.kind, .string (bs x.str), .int .i64 x.num, .slice q' x.kids.length d'] rfl rfl ?c1 (by intro y hy; simp at hy; rcases hy with rfl | rfl | rfl | rfl <;> rfl) (by decide) (by unfold maxLen; omega) (by omega) (by simp; omega) (w2.heap.size + 2) (by simp) ?_)
        case c1 =>
          intro k u hk
          have hnew := heap_alloc_new' (w2.alloc (.cells #[.int .i64 x.kind, .string (bs x.str), .int .i64 x.num, .slice q' x.kids.length d'] 26)) (.cells #[.int .i64 x.kind, .string (bs x.str), .int .i64 x.num, .slice q' x.kids.length d'] 26) (w2.heap.size + 1) (by simp)
          rw [Lib.add_plain, Nat.zero_add, Lib.cell_of_heap hnew]
          rw [← hk]
          match k with
          | 0 => rfl
          | 1 => rfl
          | 2 => rfl
          | 3 => rfl
          | k + 4 => rfl
        intro g cap' w3 hown hgrow hgs hgl
        have hG2 := HG.out.step hjl (by omega) hb2 HF.out HS.out HRD.out _ _ hown hgrow hgs
        have HG2 := Lib.hid hG2
        have hown3 : w3.heap[B]? = some (.cells #[.int .i64 5, .string ⟨#[]⟩, .int .i64 0, .slice a j cap] 26 (0, 0)) := by
          have hl := HG.out.row.lt
          rw [hgrow.block B (by simp; omega) (fun e => by have := (hl _ e.symm).1; omega)]
          exact ((bA (bA hb2 _) _).block B hsz2).trans HG.out.own
        have f3 := frozen4 hown3 3
        have u3 := (cells4 hown3).2.2.2
        clear hown hgrow hG2 hown3
        go_wp2
        go_roundw
        case rel => exact ⟨j + 1, _, l2, p2, c2, some ⟨g, 0, none⟩, cap', by omega, by go_num, rfl, HG2⟩
        case measure => simp [intOf]; omega
    · have hdj : decide ((j : Int) < (N : Int)) = false := decide_eq_false (by omega)
      obtain rfl : j = N := by omega
      obtain ⟨o0, o1, o2, o3⟩ := cells4 HG.out.own
      have hbx := HG.out.box
      obtain ⟨z0, z1, z2, z3⟩ := cells4 hbx
      have fz := frozen4 hbx
      clear hbx
      go_wp2_with fail
      have hE := heap_set4 HG.out.box (.int .i64 5) (.string ⟨#[]⟩) (.int .i64 0) (.slice a j cap)
      have HE : Below w.heap.size w (set4 wr w.heap.size (.int .i64 5) (.string ⟨#[]⟩) (.int .i64 0) (.slice a j cap)) := set4_below HG.out.below (Nat.le_refl _) _ _ _ _
      have hFrom := array_from (lo := w.heap.size) (w' := set4 wr w.heap.size (.int .i64 5) (.string ⟨#[]⟩) (.int .i64 0) (.slice a j cap)) HG.out.len HG.out.row HG.out.kids (by omega) (Nat.le_succ _) (by rw [set4_size]; exact Nat.le_refl _) (fun k k1 _ => set4_other _ _ _ _ _ _ _ (by omega))
      show bodyPost _ _ _ _ _ (set4 wr w.heap.size (.int .i64 5) (.string ⟨#[]⟩) (.int .i64 0) (.slice a j cap))
      generalize set4 wr w.heap.size (.int .i64 5) (.string ⟨#[]⟩) (.int .i64 0) (.slice a j cap) = W at *
      obtain ⟨e0, e1, e2, e3⟩ := cells4 hE
      refine bodyPost_ret (v := .tuple #[.agg #[.int .i64 5, .string ⟨#[]⟩, .int .i64 0, .slice a j cap], .slice p1 l1.length c1, .bool true]) (by simp [results, Tryd.results36, go_sem, e0, e1, e2, e3]) rfl ?_
      have hsome : many (rd d) j l = some (xs.map (·.1), l1) := by
        rw [HG.out.red, Nat.sub_self]
        exact joinR_end _ _ _
      rw [HB.out, hsome]
      have hlen := HG.out.len
      refine ⟨⟨a, cap, p1, c1, ?_, hFrom, HG.out.sub⟩, HE⟩
      simp [repCs, Rep.kids, Rep.kind, Rep.str, Rep.num, hlen, bs]
end Go.Proofs.YtkcapbjmhimceaaDoor
