/-
  What the constructors of replies answer: resp.Text, Wrong, Int, Str, None, List (of replies without elements).
-/
import Derived.Test.YtcikelcecfapcaaDoorRespEnc
import Derived.Laws.AppendOwn
namespace Go.Proofs.YtcikelcecfapcaaDoor
open Go.RowKit Rp

theorem info_rep : (Tryd.prog.info? 26).map (fun i => (i.zero, i.size, i.bytes)) = some (some (.agg #[.int .i64 0, .string ⟨#[]⟩, .int .i64 0, .slice none 0 0]), 4, 56) := by kernel_rfl

set_option maxHeartbeats 400000 in
theorem str_any (s : ByteArray) (w : World) :
    Calls Tryd.prog 29 #[.string s] w fun e w' => e = .returned (.agg #[.int .i64 3, .string s, .int .i64 0, .slice none 0 0]) ∧ Below w.heap.size w w' := by
  go_enter Tryd.func29, Tryd.ntmps29
  go_wp2
  exact bodyPost_ret (v := .agg #[.int .i64 3, .string s, .int .i64 0, .slice none 0 0]) (by simp [results, Tryd.results29, go_sem]) rfl ⟨rfl, bA (Below.refl _ _) _⟩

set_option maxHeartbeats 400000 in
theorem text_any (s : ByteArray) (w : World) :
    Calls Tryd.prog 53 #[.string s] w fun e w' => e = .returned (.agg #[.int .i64 0, .string s, .int .i64 0, .slice none 0 0]) ∧ Below w.heap.size w w' := by
  go_enter Tryd.func53, Tryd.ntmps53
  go_wp2
  exact bodyPost_ret (v := .agg #[.int .i64 0, .string s, .int .i64 0, .slice none 0 0]) (by simp [results, Tryd.results53, go_sem]) rfl ⟨rfl, bA (Below.refl _ _) _⟩

set_option maxHeartbeats 400000 in
theorem wrong_any (s : ByteArray) (w : World) :
    Calls Tryd.prog 54 #[.string s] w fun e w' => e = .returned (.agg #[.int .i64 1, .string s, .int .i64 0, .slice none 0 0]) ∧ Below w.heap.size w w' := by
  go_enter Tryd.func54, Tryd.ntmps54
  go_wp2
  exact bodyPost_ret (v := .agg #[.int .i64 1, .string s, .int .i64 0, .slice none 0 0]) (by simp [results, Tryd.results54, go_sem]) rfl ⟨rfl, bA (Below.refl _ _) _⟩

set_option maxHeartbeats 400000 in
theorem int_any (n : Int) (w : World) :
    Calls Tryd.prog 30 #[.int .i64 n] w fun e w' => e = .returned (.agg #[.int .i64 2, .string ⟨#[]⟩, .int .i64 n, .slice none 0 0]) ∧ Below w.heap.size w w' := by
  go_enter Tryd.func30, Tryd.ntmps30
  go_wp2
  exact bodyPost_ret (v := .agg #[.int .i64 2, .string ⟨#[]⟩, .int .i64 n, .slice none 0 0]) (by simp [results, Tryd.results30, go_sem]) rfl ⟨rfl, bA (Below.refl _ _) _⟩

set_option maxHeartbeats 400000 in
theorem none_any (w : World) :
    Calls Tryd.prog 31 #[] w fun e w' => e = .returned (.agg #[.int .i64 4, .string ⟨#[]⟩, .int .i64 0, .slice none 0 0]) ∧ Below w.heap.size w w' := by
  go_enter Tryd.func31, Tryd.ntmps31
  go_wp2
  exact bodyPost_ret (v := .agg #[.int .i64 4, .string ⟨#[]⟩, .int .i64 0, .slice none 0 0]) (by simp [results, Tryd.results31, go_sem]) rfl ⟨rfl, bA (Below.refl _ _) _⟩

theorem heap_alloc_new' (w : World) (o : Obj) (k : Nat) (h : k = w.heap.size) : (w.alloc o).heap[k]? = some o := by subst h; exact heap_alloc_new w o

theorem heap_set {w : World} {b j : Nat} {cs : Array Value} {T : TypeId} (hb : w.heap[b]? = some (.cells cs T (0, 0))) (v : Value) : (w.setCell ⟨b, j, none⟩ v).heap[b]? = some (.cells (cs.set! j v) T (0, 0)) := by
  simp [World.setCell, Array.getElem?_modify, hb]
theorem cells4 {W : World} {b : Nat} {v0 v1 v2 v3 : Value} {T : TypeId} (h : W.heap[b]? = some (.cells #[v0, v1, v2, v3] T (0, 0))) :
    W.cell? ⟨b, 0, none⟩ = some v0 ∧ W.cell? ⟨b, 1, none⟩ = some v1 ∧ W.cell? ⟨b, 2, none⟩ = some v2 ∧ W.cell? ⟨b, 3, none⟩ = some v3 := by
  refine ⟨?_, ?_, ?_, ?_⟩ <;> (rw [Lib.cell_of_heap h]; rfl)
theorem frozen4 {W : World} {b : Nat} {cs : Array Value} {T : TypeId} (h : W.heap[b]? = some (.cells cs T (0, 0))) : ∀ j, W.frozen? ⟨b, j, none⟩ = false := fun j => by rw [Lib.frozen_of_heap h]

/-- A reply stored whole. -/
def set4 (w : World) (b : Nat) (v0 v1 v2 v3 : Value) : World := (((w.setCell ⟨b, 0, none⟩ v0).setCell ⟨b, 1, none⟩ v1).setCell ⟨b, 2, none⟩ v2).setCell ⟨b, 3, none⟩ v3
theorem heap_set4 {w : World} {b : Nat} {z0 z1 z2 z3 : Value} {T : TypeId} (hb : w.heap[b]? = some (.cells #[z0, z1, z2, z3] T (0, 0))) (v0 v1 v2 v3 : Value) :
    (set4 w b v0 v1 v2 v3).heap[b]? = some (.cells #[v0, v1, v2, v3] T (0, 0)) := heap_set (heap_set (heap_set (heap_set hb v0) v1) v2) v3
theorem set4_other (w : World) (b k : Nat) (v0 v1 v2 v3 : Value) (h : k ≠ b) : (set4 w b v0 v1 v2 v3).heap[k]? = w.heap[k]? := by
  unfold set4
  rw [Below.heap_setCell _ _ _ _ h, Below.heap_setCell _ _ _ _ h, Below.heap_setCell _ _ _ _ h, Below.heap_setCell _ _ _ _ h]
theorem set4_size (w : World) (b : Nat) (v0 v1 v2 v3 : Value) : (set4 w b v0 v1 v2 v3).heap.size = w.heap.size := by simp [set4, World.setCell]
theorem set4_below {B : Nat} {w w' : World} {b : Nat} (h : Below B w w') (hb : B ≤ b) (v0 v1 v2 v3 : Value) : Below B w (set4 w' b v0 v1 v2 v3) :=
  (((h.setCell (p := ⟨b, 0, none⟩) hb _).setCell (p := ⟨b, 1, none⟩) hb _).setCell (p := ⟨b, 2, none⟩) hb _).setCell (p := ⟨b, 3, none⟩) hb _

/-- The cells of replies without elements. -/
def flat4 (l : List Rep) : List Value := l.flatMap fun r => [.int .i64 r.kind, .string (bs r.str), .int .i64 r.num, .slice none 0 0]
theorem flat4_snoc (l : List Rep) (r : Rep) : flat4 (l ++ [r]) = flat4 l ++ [.int .i64 r.kind, .string (bs r.str), .int .i64 r.num, .slice none 0 0] := by simp [flat4]
theorem flat4_len (l : List Rep) : (flat4 l).length = l.length * 4 := by
  induction l with
  | nil => rfl
  | cons r rs ih => simp only [flat4, List.flatMap_cons, List.length_append, List.length_cons, List.length_nil] at ih ⊢; omega

set_option maxHeartbeats 400000 in
theorem copies_nil (q : Option Addr) (c : Nat) (w : World) :
    Calls Tryd.prog 51 #[.slice q 0 c] w fun e w' => e = .returned (.slice none 0 0) ∧ Below w.heap.size w w' := by
  go_enter Tryd.func51, Tryd.ntmps51
  go_wp2
  go_loopw [3, 5, 8] (fun a _ i wr => a = .slice none 0 0 ∧ i = .int .i64 0 ∧ wr = w) (fun _ _ _ _ => 0)
  case atStart => exact ⟨rfl, rfl, rfl⟩
  case round =>
    obtain ⟨rfl, rfl, rfl⟩ := hrel
    go_wp2
    go_ret
    exact ⟨rfl, Below.refl _ _⟩

/-- Replies without elements, at a slice's places. -/
def FlatAt (w : World) (l : List Rep) (p : Option Addr) : Prop := ∀ (j : Nat) (h : j < l.length), ∃ b o q d, p = some ⟨b, o, none⟩ ∧ w.cell? ⟨b, o + j * 4, none⟩ = some (.int .i64 l[j].kind) ∧ w.cell? ⟨b, o + j * 4 + 1, none⟩ = some (.string (bs l[j].str)) ∧ w.cell? ⟨b, o + j * 4 + 2, none⟩ = some (.int .i64 l[j].num) ∧ w.cell? ⟨b, o + j * 4 + 3, none⟩ = some (.slice q 0 d)

set_option maxRecDepth 20000 in
set_option maxHeartbeats 2000000 in
theorem copies_flat (l : List Rep) (hl : l.length ≤ 1000000) (p : Option Addr) (c : Nat) (w : World) (h : FlatAt w l p) :
    Calls Tryd.prog 51 #[.slice p l.length c] w fun e w' => ∃ v', e = .returned v' ∧ w'.ownsRow w.heap.size 26 4 v' l.length (flat4 l) ∧ Below w.heap.size w w' := by
  obtain ⟨i0, hi, hz0, hz1, hz2⟩ := info_parts info_rep
  have H := Lib.hid h
  clear h
  obtain ⟨n, hn⟩ : ∃ n : Nat, n = l.length := ⟨_, rfl⟩
  rw [← hn] at hl ⊢
  have HNL := Lib.hid hn
  clear hn
  go_enter Tryd.func51, Tryd.ntmps51
  go_wp2
  go_loopw [3, 5, 8] (fun a _ i wr => ∃ (j : Nat), j ≤ n ∧ i = .int .i64 j ∧ wr.ownsRow w.heap.size 26 4 a j (flat4 (l.take j)) ∧ Below w.heap.size w wr) (fun _ _ i _ => n - (intOf i).toNat)
  case atStart => exact ⟨0, Nat.zero_le _, rfl, World.ownsRow_nil _ _ _ _, Below.refl _ _⟩
  case round =>
    obtain ⟨j, hj, rfl, hrow, hB⟩ := hrel
    by_cases hjl : j < n
    · have hd1 : decide ((j : Int) < (n : Int)) = true := decide_eq_true (by omega)
      have hja : j < l.length := by have := HNL.out; omega
      obtain ⟨b, o, q, d, rfl, e0, e1, e2, e3⟩ := H.out j hja
      have e0 := cK hB e0
      have e1 := cK hB e1
      have e2 := cK hB e2
      have e3 := cK hB e3
      have HN := Lib.hid (show flat4 (l.take (j + 1)) = flat4 (l.take j) ++ [.int .i64 l[j].kind, .string (bs l[j].str), .int .i64 l[j].num, .slice none 0 0] by rw [List.take_succ_eq_append_getElem hja, flat4_snoc])
      generalize l[j] = x at *
      obtain ⟨va, vm, vc, rfl⟩ := row_slice hrow
      clear hja
      go_wp2_with fail
      refine (copies_nil _ _ _).mono ?_
      rintro e w1 ⟨rfl, hb1⟩
      have hbx : w1.heap[wr.heap.size]? = some (.cells #[.int .i64 x.kind, .string (bs x.str), .int .i64 x.num, .slice q 0 d] 26 (0, 0)) := (hb1.block _ (by simp)).trans (heap_alloc_new wr _)
      have b0 : w1.cell? ⟨wr.heap.size, 0, none⟩ = some (.int .i64 x.kind) := by rw [Lib.cell_of_heap hbx]; rfl
      have b1 : w1.cell? ⟨wr.heap.size, 1, none⟩ = some (.string (bs x.str)) := by rw [Lib.cell_of_heap hbx]; rfl
      have b2 : w1.cell? ⟨wr.heap.size, 2, none⟩ = some (.int .i64 x.num) := by rw [Lib.cell_of_heap hbx]; rfl
      have b3 : w1.cell? ⟨wr.heap.size, 3, none⟩ = some (.slice q 0 d) := by rw [Lib.cell_of_heap hbx]; rfl
      have f3 : w1.frozen? ⟨wr.heap.size, 3, none⟩ = false := by rw [Lib.frozen_of_heap hbx]
      have hb2 : Below wr.heap.size wr (w1.setCell ⟨wr.heap.size, 3, none⟩ (.slice none 0 0)) := (bT (bA (Below.refl _ _) _) hb1).setCell (Nat.le_refl _) _
      have hsz := hB.size
      have hs1 := hb2.size
      have hvl := hrow.lt
      clear hbx e0 e1 e2 e3
      go_wp2_with (at_builtin; refine wpList_append_own _ rfl (.tmp 16) (.tmp 18) 24 rfl w.heap.size 26 i0 (.agg #[.int .i64 0, .string ⟨#[]⟩, .int .i64 0, .slice none 0 0]) 4 56 Tryd.underlying24 hi hz0 hz1 hz2 rfl (by decide) _ j _ rfl ((hrow.kept (below_grown (bA hb2 _) none) (by simp [Value.ownBlock]; cases va <;> simp))) ⟨w1.heap.size, 0, none⟩ 1 1 [.int .i64 x.kind, .string (bs x.str), .int .i64 x.num, .slice none 0 0] rfl rfl ?c1 (by intro y hy; simp at hy; rcases hy with rfl | rfl | rfl | rfl <;> rfl) (by unfold maxLen; omega) (by omega) (by simp at hs1 ⊢; omega) ?_)
      case c1 =>
        intro k u hk
        have hnew := heap_alloc_new' (w1.setCell ⟨wr.heap.size, 3, none⟩ (.slice none 0 0)) (.cells #[.int .i64 x.kind, .string (bs x.str), .int .i64 x.num, .slice none 0 0] 26) w1.heap.size (by simp)
        rw [Lib.add_plain, Nat.zero_add, Lib.cell_of_heap hnew]
        rw [← hk]
        match k with
        | 0 => rfl
        | 1 => rfl
        | 2 => rfl
        | 3 => rfl
        | k + 4 => rfl
      intro v' w3 hown hgrow hnil
      clear hnil b0 b1 b2 b3 f3
      have hB3 : Below w.heap.size w w3 := (bA (bT hB hb2) _).grown hgrow (by simp at hs1 ⊢; omega) (fun k hk => (hvl k hk).1)
      rw [← HN.out] at hown
      obtain ⟨ua, um, uc, rfl⟩ := row_slice hown
      go_wp2
      go_roundw
      case rel => exact ⟨j + 1, by omega, by go_num, hown, hB3⟩
      case measure => simp [intOf]; omega
    · have hd1 : decide ((j : Int) < (n : Int)) = false := decide_eq_false (by omega)
      obtain rfl : j = n := by omega
      rw [List.take_of_length_le (by have := HNL.out; omega)] at hrow
      obtain ⟨ua, um, uc, rfl⟩ := row_slice hrow
      go_wp2
      go_ret
      exact ⟨_, rfl, hrow, hB⟩

/-- A reply of replies without elements, as resp.List returns it. -/
def Made (l : List Rep) (B : Nat) (v : Value) (w : World) : Prop := ∃ q c, v = .agg #[.int .i64 5, .string ⟨#[]⟩, .int .i64 0, .slice q l.length c] ∧ w.ownsRow B 26 4 (.slice q l.length c) l.length (flat4 l)

theorem row_len {w : World} {base : Nat} {e : TypeId} {size : Nat} {v : Value} {n : Nat} {xs : List Value} (h : w.ownsRow base e size v n xs) : ∃ a c, v = .slice a n c := by
  rcases h.2 with ⟨rfl, rfl⟩ | ⟨g, cap, cur, rfl, _⟩
  · exact ⟨_, _, rfl⟩
  · exact ⟨_, _, rfl⟩

set_option maxHeartbeats 400000 in
theorem list_flat (l : List Rep) (hl : l.length ≤ 1000000) (p : Option Addr) (c : Nat) (w : World) (h : FlatAt w l p) :
    Calls Tryd.prog 28 #[.slice p l.length c] w fun e w' => ∃ v, e = .returned v ∧ Made l w.heap.size v w' ∧ Below w.heap.size w w' := by
  have hc : ∀ W, Below w.heap.size w W → _ := fun W hb => copies_flat l hl p c W (fun j hj => by
    obtain ⟨b, o, q, d, hp, e0, e1, e2, e3⟩ := h j hj
    exact ⟨b, o, q, d, hp, cK hb e0, cK hb e1, cK hb e2, cK hb e3⟩)
  have HC := Lib.hid hc
  clear hc h
  go_enter Tryd.func28, Tryd.ntmps28
  go_wp2_with fail
  refine (HC.out _ (bA (Below.refl _ _) _)).mono ?_
  rintro e w1 ⟨v1, rfl, hrow, hb⟩
  obtain ⟨q, d, rfl⟩ := row_len hrow
  have hbx : w1.heap[w.heap.size]? = some (.cells #[.int .i64 0, .string ⟨#[]⟩, .int .i64 0, .slice none 0 0] 26 (0, 0)) := (hb.block _ (by simp)).trans (heap_alloc_new w _)
  obtain ⟨c0, c1, c2, c3⟩ := cells4 hbx
  have fz := frozen4 hbx
  have HR := Lib.hid hrow
  clear hrow
  go_wp2_with fail
  have hE := heap_set4 hbx (.int .i64 5) (.string ⟨#[]⟩) (.int .i64 0) (.slice q l.length d)
  have HE : Below w.heap.size w (set4 w1 w.heap.size (.int .i64 5) (.string ⟨#[]⟩) (.int .i64 0) (.slice q l.length d)) := set4_below (bT (bA (Below.refl _ _) _) hb) (Nat.le_refl _) _ _ _ _
  have hR2 : (set4 w1 w.heap.size (.int .i64 5) (.string ⟨#[]⟩) (.int .i64 0) (.slice q l.length d)).ownsRow w.heap.size 26 4 (.slice q l.length d) l.length (flat4 l) := by
    have h1 := HR.out
    have hb1 : w.heap.size < (w.alloc (.cells #[.int .i64 0, .string ⟨#[]⟩, .int .i64 0, .slice none 0 0] 26)).heap.size := by simp
    exact row_mono (ownsRow_setCell_below (ownsRow_setCell_below (ownsRow_setCell_below (ownsRow_setCell_below h1 (a := ⟨w.heap.size, 0, none⟩) hb1 _) (a := ⟨w.heap.size, 1, none⟩) hb1 _) (a := ⟨w.heap.size, 2, none⟩) hb1 _) (a := ⟨w.heap.size, 3, none⟩) hb1 _) (Nat.le_of_lt hb1)
  show bodyPost _ _ _ _ _ (set4 w1 w.heap.size (.int .i64 5) (.string ⟨#[]⟩) (.int .i64 0) (.slice q l.length d))
  generalize set4 w1 w.heap.size (.int .i64 5) (.string ⟨#[]⟩) (.int .i64 0) (.slice q l.length d) = W at *
  obtain ⟨e0, e1, e2, e3⟩ := cells4 hE
  exact bodyPost_ret (v := .agg #[.int .i64 5, .string ⟨#[]⟩, .int .i64 0, .slice q l.length d]) (by simp [results, Tryd.results28, go_sem, e0, e1, e2, e3]) rfl ⟨_, rfl, ⟨q, d, rfl, hR2⟩, HE⟩

/-- What resp.List made, as a reply in memory. -/
theorem Made.rep {l : List Rep} {B : Nat} {v : Value} {w : World} (h : Made l B v w) (hk : ∀ x ∈ l, Fits x.kind ∧ Fits x.num ∧ x.str.length ≤ maxLen ∧ x.kids = []) : ∃ q c, v = .agg (repCs (.mk 5 [] 0 l) q c) ∧ RepIn w (.mk 5 [] 0 l) q c := by
  obtain ⟨q, c, rfl, hrow⟩ := h
  refine ⟨q, c, rfl, ?_⟩
  have hlen := hrow.1
  rw [RepIn]
  rcases hrow.2 with ⟨hv, hn⟩ | ⟨g, cap, cur, hv, hB, hg, hn, hm, hs, ht⟩
  · simp only [Value.slice.injEq] at hv
    obtain ⟨_, _, rfl⟩ := hv
    exact ⟨⟨by decide, by decide⟩, ⟨by decide, by decide⟩, by simp [maxLen], by omega, by simp [maxLen], .inl (List.eq_nil_of_length_eq_zero hn)⟩
  · simp only [Value.slice.injEq, true_and] at hv
    obtain ⟨rfl, rfl⟩ := hv
    refine ⟨⟨by decide, by decide⟩, ⟨by decide, by decide⟩, by simp [maxLen], hn, hm, .inr ⟨g, 0, rfl, row_mk fun j hj => ?_⟩⟩
    have hcell : ∀ i, i < 4 → w.cell? ⟨g, 0 + j * 4 + i, none⟩ = (flat4 l)[j * 4 + i]? := by
      intro i hi
      have := hrow.cellAt (j * 4 + i) (by omega)
      rw [show 0 + j * 4 + i = j * 4 + i by omega]
      exact this
    have hget : ∀ (l : List Rep) (j : Nat) (hj : j < l.length) (i : Nat), i < 4 → (flat4 l)[j * 4 + i]? = [Value.int .i64 l[j].kind, .string (bs l[j].str), .int .i64 l[j].num, .slice none 0 0][i]? := by
      intro l
      induction l with
      | nil => intro j hj; simp at hj
      | cons r rs ih =>
        intro j hj i hi
        cases j with
        | zero =>
          rw [show flat4 (r :: rs) = [Value.int .i64 r.kind, .string (bs r.str), .int .i64 r.num, .slice none 0 0] ++ flat4 rs from rfl, List.getElem?_append_left (by simp; omega)]
          simp
        | succ j =>
          rw [show flat4 (r :: rs) = [Value.int .i64 r.kind, .string (bs r.str), .int .i64 r.num, .slice none 0 0] ++ flat4 rs from rfl, List.getElem?_append_right (by simp; omega)]
          have := ih j (by simpa using hj) i hi
          simp only [List.length_cons, List.length_nil]
          rw [show (j + 1) * 4 + i - (0 + 1 + 1 + 1 + 1) = j * 4 + i by omega]
          exact this
    obtain ⟨k1, k2, k3, k4⟩ := hk l[j] (List.getElem_mem hj)
    have hx : ∀ r : Rep, r.kids = [] → r = .mk r.kind r.str r.num [] := by
      intro r hr
      cases r with
      | mk k s n l => simp only [Rep.kids] at hr; subst hr; rfl
    refine ⟨none, 0, ⟨?_, ?_, ?_, ?_⟩, ?_⟩
    · have h0 := hcell 0 (by omega)
      rw [Nat.add_zero] at h0
      rw [h0, hget l j hj 0 (by omega)]; rfl
    · rw [hcell 1 (by omega), hget l j hj 1 (by omega)]; rfl
    · rw [hcell 2 (by omega), hget l j hj 2 (by omega)]; rfl
    · rw [hcell 3 (by omega), hget l j hj 3 (by omega), k4]; rfl
    · rw [hx _ k4, RepIn]
      exact ⟨k1, k2, k3, Nat.le_refl _, by simp [maxLen], .inl rfl⟩
end Go.Proofs.YtcikelcecfapcaaDoor
