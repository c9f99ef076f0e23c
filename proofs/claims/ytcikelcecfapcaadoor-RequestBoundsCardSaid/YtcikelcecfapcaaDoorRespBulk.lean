/-
  resp.takeBulk, of any text and bytes.
-/
import Derived.Test.YtcikelcecfapcaaDoorRespCut
namespace Go.Proofs.YtcikelcecfapcaaDoor
open Go.RowKit Rp

/-- A reply in memory, in blocks from lo on. -/
def RepFrom (lo : Nat) (w : World) (r : Rep) (q : Option Addr) (d : Nat) : Prop := ∀ W : World, (∀ k, lo ≤ k → k < w.heap.size → W.heap[k]? = w.heap[k]?) → RepIn W r q d

/-- What take answers. -/
def TookR (lo : Nat) (w' : World) (p0 : Option Addr) (c0 : Nat) (l0 : List UInt8) (e : Ending) (a : Option (Rep × List UInt8)) : Prop :=
  match a with
  | some (r, l) => ∃ q d p c, e = .returned (.tuple #[.agg (repCs r q d), .slice p l.length c, .bool true]) ∧ RepFrom lo w' r q d ∧ Sub p0 c0 l0 p c l
  | none => ∃ (k : Int) (S : ByteArray) (n : Int) (q : Option Addr) (m d : Nat) (p : Option Addr) (x c : Nat), e = .returned (.tuple #[.agg #[.int .i64 k, .string S, .int .i64 n, .slice q m d], .slice p x c, .bool false])

theorem leaf_rep (lo : Nat) (w : World) (k : Int) (s : List UInt8) (n : Int) (hk : Fits k) (hn : Fits n) (hs : s.length ≤ maxLen) : RepFrom lo w (.mk k s n []) none 0 := by
  intro W _
  rw [RepIn]
  exact ⟨hk, hn, hs, Nat.le_refl _, Nat.zero_le _, .inl rfl⟩
theorem Rest.len {w : World} {p : Option Addr} {c : Nat} {l : List UInt8} (h : Rest w p c l) : l.length ≤ maxLen := Nat.le_trans h.bin.cap h.bin.max

theorem neg1_toList (t : List UInt8) : ((bs t).toList == ([45, 49] : List UInt8)) = decide (t = [45, 49]) := by
  rw [Lib.toList_data, list_bs]
  by_cases h : t = [45, 49]
  · subst h; rfl
  · rw [decide_eq_false h, beq_eq_false_iff_ne]; exact h

set_option maxHeartbeats 2000000 in
theorem bulk_null (t l : List UInt8) (ht : t = [45, 49]) (p : Option Addr) (c : Nat) (w : World) (_h : Rest w p c l) :
    Calls Tryd.prog 56 #[.string (bs t), .slice p l.length c] w fun e w' => TookR w.heap.size w' p c l e (bulkOf t l) ∧ Below w.heap.size w w' := by
  have HB := Lib.hid (show bulkOf t l = some (.mk 4 [] 0 [], l) by rw [bulkOf, if_pos ht])
  have heq := neg1_toList t
  rw [decide_eq_true ht] at heq
  clear ht
  go_enter Tryd.func56, Tryd.ntmps56
  go_wp2_with fail
  refine (none_any _).mono ?_
  rintro e w1 ⟨rfl, hb1⟩
  have hbx : w1.heap[w.heap.size]? = some (.cells #[.int .i64 0, .string ⟨#[]⟩, .int .i64 0, .slice none 0 0] 26 (0, 0)) := (hb1.block _ (by simp)).trans (heap_alloc_new w _)
  obtain ⟨c0, c1, c2, c3⟩ := cells4 hbx
  have fz := frozen4 hbx
  go_wp2_with fail
  have hE := heap_set4 hbx (.int .i64 4) (.string ⟨#[]⟩) (.int .i64 0) (.slice none 0 0)
  have HE : Below w.heap.size w (set4 w1 w.heap.size (.int .i64 4) (.string ⟨#[]⟩) (.int .i64 0) (.slice none 0 0)) := set4_below (bT (bA (Below.refl _ _) _) hb1) (Nat.le_refl _) _ _ _ _
  show bodyPost _ _ _ _ _ (set4 w1 w.heap.size (.int .i64 4) (.string ⟨#[]⟩) (.int .i64 0) (.slice none 0 0))
  generalize set4 w1 w.heap.size (.int .i64 4) (.string ⟨#[]⟩) (.int .i64 0) (.slice none 0 0) = W at *
  obtain ⟨e0, e1, e2, e3⟩ := cells4 hE
  refine bodyPost_ret (v := .tuple #[.agg #[.int .i64 4, .string ⟨#[]⟩, .int .i64 0, .slice none 0 0], .slice p l.length c, .bool true]) (by simp [results, Tryd.results56, go_sem, e0, e1, e2, e3]) rfl ?_
  rw [HB.out]
  exact ⟨⟨none, 0, p, c, rfl, leaf_rep _ _ _ _ _ ⟨by decide, by decide⟩ ⟨by decide, by decide⟩ (Nat.zero_le _), Sub.refl _ _ _⟩, HE⟩


set_option maxHeartbeats 2000000 in
theorem bulk_unparsed (t l : List UInt8) (htl : t.length ≤ 281474976710656) (ht : ¬ t = [45, 49]) (hp : parseL t = none) (p : Option Addr) (c : Nat) (w : World) (hL : Errs w) (h : Rest w p c l) :
    Calls Tryd.prog 56 #[.string (bs t), .slice p l.length c] w fun e w' => TookR w.heap.size w' p c l e (bulkOf t l) ∧ Below w.heap.size w w' := by
  have HB := Lib.hid (show bulkOf t l = none by rw [bulkOf, if_neg ht, hp])
  have heq := neg1_toList t
  rw [decide_eq_false ht] at heq
  have HP := Lib.hid (fun (W : World) (hW : Below w.heap.size w W) => parse_any t htl W (hL.on hW))
  rw [hp] at HP
  have hmx := h.len
  unfold maxLen at hmx
  clear ht hp
  go_enter Tryd.func56, Tryd.ntmps56
  go_wp2_with fail
  refine (HP.out _ (bA (Below.refl _ _) _)).mono ?_
  rintro e w1 ⟨rfl, hb1⟩
  have hbx : w1.heap[w.heap.size]? = some (.cells #[.int .i64 0, .string ⟨#[]⟩, .int .i64 0, .slice none 0 0] 26 (0, 0)) := (hb1.block _ (by simp)).trans (heap_alloc_new w _)
  obtain ⟨c0, c1, c2, c3⟩ := cells4 hbx
  have fz := frozen4 hbx
  go_wp2_with fail
  have hE := heap_set4 hbx (.int .i64 0) (.string ⟨#[]⟩) (.int .i64 0) (.slice none 0 0)
  have HE : Below w.heap.size w (set4 w1 w.heap.size (.int .i64 0) (.string ⟨#[]⟩) (.int .i64 0) (.slice none 0 0)) := set4_below (bT (bA (Below.refl _ _) _) hb1) (Nat.le_refl _) _ _ _ _
  show bodyPost _ _ _ _ _ (set4 w1 w.heap.size (.int .i64 0) (.string ⟨#[]⟩) (.int .i64 0) (.slice none 0 0))
  generalize set4 w1 w.heap.size (.int .i64 0) (.string ⟨#[]⟩) (.int .i64 0) (.slice none 0 0) = W at *
  obtain ⟨e0, e1, e2, e3⟩ := cells4 hE
  refine bodyPost_ret (v := .tuple #[.agg #[.int .i64 0, .string ⟨#[]⟩, .int .i64 0, .slice none 0 0], .slice none 0 0, .bool false]) (by simp [results, Tryd.results56, go_sem, e0, e1, e2, e3]) rfl ?_
  rw [HB.out]
  exact ⟨⟨_, _, _, _, _, _, _, _, _, rfl⟩, HE⟩

set_option maxHeartbeats 2000000 in
theorem bulk_neg (t l : List UInt8) (htl : t.length ≤ 281474976710656) (ht : ¬ t = [45, 49]) (n : Int) (hp : parseL t = some n) (hn : n < 0) (p : Option Addr) (c : Nat) (w : World) (hL : Errs w) (h : Rest w p c l) :
    Calls Tryd.prog 56 #[.string (bs t), .slice p l.length c] w fun e w' => TookR w.heap.size w' p c l e (bulkOf t l) ∧ Below w.heap.size w w' := by
  have HB := Lib.hid (show bulkOf t l = none by rw [bulkOf, if_neg ht, hp]; exact if_neg (by omega))
  have heq := neg1_toList t
  rw [decide_eq_false ht] at heq
  have HP := Lib.hid (fun (W : World) (hW : Below w.heap.size w W) => parse_any t htl W (hL.on hW))
  rw [hp] at HP
  have hd0 : decide (n < 0) = true := decide_eq_true hn
  have hmx := h.len
  unfold maxLen at hmx
  clear ht hp
  go_enter Tryd.func56, Tryd.ntmps56
  go_wp2_with fail
  refine (HP.out _ (bA (Below.refl _ _) _)).mono ?_
  rintro e w1 ⟨rfl, hb1⟩
  have hbx : w1.heap[w.heap.size]? = some (.cells #[.int .i64 0, .string ⟨#[]⟩, .int .i64 0, .slice none 0 0] 26 (0, 0)) := (hb1.block _ (by simp)).trans (heap_alloc_new w _)
  obtain ⟨c0, c1, c2, c3⟩ := cells4 hbx
  have fz := frozen4 hbx
  go_wp2_with fail
  have hE := heap_set4 hbx (.int .i64 0) (.string ⟨#[]⟩) (.int .i64 0) (.slice none 0 0)
  have HE : Below w.heap.size w (set4 w1 w.heap.size (.int .i64 0) (.string ⟨#[]⟩) (.int .i64 0) (.slice none 0 0)) := set4_below (bT (bA (Below.refl _ _) _) hb1) (Nat.le_refl _) _ _ _ _
  show bodyPost _ _ _ _ _ (set4 w1 w.heap.size (.int .i64 0) (.string ⟨#[]⟩) (.int .i64 0) (.slice none 0 0))
  generalize set4 w1 w.heap.size (.int .i64 0) (.string ⟨#[]⟩) (.int .i64 0) (.slice none 0 0) = W at *
  obtain ⟨e0, e1, e2, e3⟩ := cells4 hE
  refine bodyPost_ret (v := .tuple #[.agg #[.int .i64 0, .string ⟨#[]⟩, .int .i64 0, .slice none 0 0], .slice none 0 0, .bool false]) (by simp [results, Tryd.results56, go_sem, e0, e1, e2, e3]) rfl ?_
  rw [HB.out]
  exact ⟨⟨_, _, _, _, _, _, _, _, _, rfl⟩, HE⟩

set_option maxHeartbeats 2000000 in
theorem bulk_long (t l : List UInt8) (htl : t.length ≤ 281474976710656) (ht : ¬ t = [45, 49]) (n : Int) (hp : parseL t = some n) (hn : (l.length : Int) < n) (p : Option Addr) (c : Nat) (w : World) (hL : Errs w) (h : Rest w p c l) :
    Calls Tryd.prog 56 #[.string (bs t), .slice p l.length c] w fun e w' => TookR w.heap.size w' p c l e (bulkOf t l) ∧ Below w.heap.size w w' := by
  have HB := Lib.hid (show bulkOf t l = none by rw [bulkOf, if_neg ht, hp]; exact if_neg (by omega))
  have heq := neg1_toList t
  rw [decide_eq_false ht] at heq
  have HP := Lib.hid (fun (W : World) (hW : Below w.heap.size w W) => parse_any t htl W (hL.on hW))
  rw [hp] at HP
  have hd0 : decide (n < 0) = false := decide_eq_false (by omega)
  have hd1 : decide ((l.length : Int) < n) = true := decide_eq_true hn
  have hmx := h.len
  unfold maxLen at hmx
  clear ht hp
  go_enter Tryd.func56, Tryd.ntmps56
  go_wp2_with fail
  refine (HP.out _ (bA (Below.refl _ _) _)).mono ?_
  rintro e w1 ⟨rfl, hb1⟩
  have hbx : w1.heap[w.heap.size]? = some (.cells #[.int .i64 0, .string ⟨#[]⟩, .int .i64 0, .slice none 0 0] 26 (0, 0)) := (hb1.block _ (by simp)).trans (heap_alloc_new w _)
  obtain ⟨c0, c1, c2, c3⟩ := cells4 hbx
  have fz := frozen4 hbx
  go_wp2_with fail
  have hE := heap_set4 hbx (.int .i64 0) (.string ⟨#[]⟩) (.int .i64 0) (.slice none 0 0)
  have HE : Below w.heap.size w (set4 w1 w.heap.size (.int .i64 0) (.string ⟨#[]⟩) (.int .i64 0) (.slice none 0 0)) := set4_below (bT (bA (Below.refl _ _) _) hb1) (Nat.le_refl _) _ _ _ _
  show bodyPost _ _ _ _ _ (set4 w1 w.heap.size (.int .i64 0) (.string ⟨#[]⟩) (.int .i64 0) (.slice none 0 0))
  generalize set4 w1 w.heap.size (.int .i64 0) (.string ⟨#[]⟩) (.int .i64 0) (.slice none 0 0) = W at *
  obtain ⟨e0, e1, e2, e3⟩ := cells4 hE
  refine bodyPost_ret (v := .tuple #[.agg #[.int .i64 0, .string ⟨#[]⟩, .int .i64 0, .slice none 0 0], .slice none 0 0, .bool false]) (by simp [results, Tryd.results56, go_sem, e0, e1, e2, e3]) rfl ?_
  rw [HB.out]
  exact ⟨⟨_, _, _, _, _, _, _, _, _, rfl⟩, HE⟩

set_option maxHeartbeats 4000000 in
theorem bulk_text (t l : List UInt8) (htl : t.length ≤ 281474976710656) (ht : ¬ t = [45, 49]) (k : Nat) (hp : parseL t = some (k : Int)) (hk : k ≤ l.length) (b o c : Nat) (hne : ¬ c = k) (w : World) (hL : Errs w) (h : Rest w (some ⟨b, o, none⟩) c l) :
    Calls Tryd.prog 56 #[.string (bs t), .slice (some ⟨b, o, none⟩) l.length c] w fun e w' => TookR w.heap.size w' (some ⟨b, o, none⟩) c l e (bulkOf t l) ∧ Below w.heap.size w w' := by
  have HB := Lib.hid (show bulkOf t l = if crlf (l.drop k) then some (.mk 3 (l.take k) 0 [], l.drop (k + 2)) else none by
    rw [bulkOf, if_neg ht, hp]
    show (if (0 : Int) ≤ (k : Int) ∧ (k : Int) ≤ l.length then _ else _) = _
    rw [if_pos ⟨by omega, by omega⟩, Int.toNat_natCast])
  have heq := neg1_toList t
  rw [decide_eq_false ht] at heq
  have HP := Lib.hid (fun (W : World) (hW : Below w.heap.size w W) => parse_any t htl W (hL.on hW))
  rw [hp] at HP
  have hd0 : decide ((k : Int) < 0) = false := decide_eq_false (by omega)
  have hd1 : decide ((l.length : Int) < (k : Int)) = false := decide_eq_false (by omega)
  have hmx := h.len
  have hlc : l.length ≤ c := h.bin.cap
  have hcm : c ≤ maxLen := h.bin.max
  have hcx := hcm
  have HSL := Lib.hid (show (l.take k).length ≤ maxLen by rw [List.length_take]; omega)
  unfold maxLen at hmx hcx
  have hck : (c = k) = False := eq_false hne
  have H3 : Hid (∀ (j : Nat) (h : j < l.length), w.cell? ⟨b, o + j, none⟩ = some (.int .u8 (l[j].toNat : Nat))) := by
    rcases h with ⟨h, _⟩ | ⟨b', o', h, _, _, h3⟩
    · cases h
    · simp only [Option.some.injEq, Addr.mk.injEq, and_true] at h
      obtain ⟨rfl, rfl⟩ := h
      exact Lib.hid h3
  clear ht hp h
  have kc : ∀ w1 : World, (convert 22 22 (.slice (some ⟨w1.heap.size, 0, none⟩) 2 2)).run Tryd.prog (w1.alloc (.cells #[.int .u8 13, .int .u8 10] 5)) = .ok (.slice (some ⟨w1.heap.size, 0, none⟩) 2 2) (w1.alloc (.cells #[.int .u8 13, .int .u8 10] 5 (2, 3))) := fun w1 => Lib.run_convert_bytes_const (P := Tryd.prog) w1 22 5 #[.int .u8 13, .int .u8 10] 2 2 Tryd.underlying22 Tryd.underlying5
  go_enter Tryd.func56, Tryd.ntmps56
  go_wp2_with fail
  refine (HP.out _ (bA (Below.refl _ _) _)).mono ?_
  rintro e w1 ⟨rfl, hb1⟩
  have hbx : w1.heap[w.heap.size]? = some (.cells #[.int .i64 0, .string ⟨#[]⟩, .int .i64 0, .slice none 0 0] 26 (0, 0)) := (hb1.block _ (by simp)).trans (heap_alloc_new w _)
  have hB1 : Below w.heap.size w w1 := bT (bA (Below.refl _ _) _) hb1
  have HBX1 := Lib.hid hbx
  clear hbx
  go_wp2_with fail
  have hbx := HBX1.out
  have hb2 : Below w1.heap.size w1 (w1.alloc (.cells #[.int .u8 13, .int .u8 10] 5 (2, 3))) := bA (Below.refl _ _) _
  have hc := cutprefix_any (rest_from (w := w) (c := c) k hk hlc hcm H3.out (some ⟨b, o + k, none⟩) (by simp [hne])) (bT hB1 hb2) w1.heap.size 2 (by rw [World.cell?_alloc_mark]; rfl) (by rw [World.cell?_alloc_mark]; rfl)
  rw [List.length_drop] at hc

  have HQ := Lib.hid hc
  clear hc
  have HCV := Lib.hid (convert_rest (w := w1.alloc (.cells #[.int .u8 13, .int .u8 10] 5 (2, 3))) c k hk (fun j hj => ((bT hB1 hb2).cell (p := ⟨b, o + j, none⟩) (World.block_lt_of_cell? w _ (H3.out j hj))).trans (H3.out j hj)))
  have hbx2 := (hb2.block _ (Array.getElem?_eq_some_iff.1 hbx).1).trans hbx
  have HBX := Lib.hid hbx2
  clear hbx hbx2
  refine HQ.out.mono ?_
  rintro e w2 ⟨rfl, hv⟩
  have hB2 := bT hB1 hb2
  generalize w1.alloc (.cells #[.int .u8 13, .int .u8 10] 5 (2, 3)) = w2 at *
  have hcv := HCV.out
  rcases hv with ⟨hx, q, d, rfl, hq⟩ | ⟨hx, rfl⟩
  · rw [List.drop_drop] at hq
    have hlen : (l.drop (k + 2)).length = l.length - k - 2 := by rw [List.length_drop]; omega
    have HX := Lib.hid hx
    clear hx
    rw [List.length_drop]
    go_wp2_with fail
    refine (str_any _ _).mono ?_
    rintro e w3 ⟨rfl, hb3⟩
    have hbx3 := (hb3.block _ (Array.getElem?_eq_some_iff.1 HBX.out).1).trans HBX.out
    obtain ⟨c0, c1, c2, c3⟩ := cells4 hbx3
    have fz := frozen4 hbx3
    go_wp2_with fail
    have hE := heap_set4 hbx3 (.int .i64 3) (.string (bs (l.take k))) (.int .i64 0) (.slice none 0 0)
    have HE : Below w.heap.size w (set4 w3 w.heap.size (.int .i64 3) (.string (bs (l.take k))) (.int .i64 0) (.slice none 0 0)) := set4_below (bT hB2 hb3) (Nat.le_refl _) _ _ _ _
    show bodyPost _ _ _ _ _ (set4 w3 w.heap.size (.int .i64 3) (.string (bs (l.take k))) (.int .i64 0) (.slice none 0 0))
    generalize set4 w3 w.heap.size (.int .i64 3) (.string (bs (l.take k))) (.int .i64 0) (.slice none 0 0) = W at *
    obtain ⟨e0, e1, e2, e3⟩ := cells4 hE
    refine bodyPost_ret (v := .tuple #[.agg #[.int .i64 3, .string (bs (l.take k)), .int .i64 0, .slice none 0 0], .slice q (l.length - k - 2) d, .bool true]) (by simp [results, Tryd.results56, go_sem, e0, e1, e2, e3]) rfl ?_
    rw [HB.out, if_pos HX.out]
    exact ⟨⟨none, 0, q, d, by rw [hlen]; rfl, leaf_rep _ _ _ _ _ ⟨by decide, by decide⟩ ⟨by decide, by decide⟩ HSL.out, (sub_from k hk (some ⟨b, o + k, none⟩) (by simp [hne])).trans hq⟩, HE⟩
  · rw [List.length_drop]
    go_wp2_with fail
    refine (str_any _ _).mono ?_
    rintro e w3 ⟨rfl, hb3⟩
    have hbx3 := (hb3.block _ (Array.getElem?_eq_some_iff.1 HBX.out).1).trans HBX.out
    obtain ⟨c0, c1, c2, c3⟩ := cells4 hbx3
    have fz := frozen4 hbx3
    go_wp2_with fail
    have hE := heap_set4 hbx3 (.int .i64 3) (.string (bs (l.take k))) (.int .i64 0) (.slice none 0 0)
    have HE : Below w.heap.size w (set4 w3 w.heap.size (.int .i64 3) (.string (bs (l.take k))) (.int .i64 0) (.slice none 0 0)) := set4_below (bT hB2 hb3) (Nat.le_refl _) _ _ _ _
    show bodyPost _ _ _ _ _ (set4 w3 w.heap.size (.int .i64 3) (.string (bs (l.take k))) (.int .i64 0) (.slice none 0 0))
    generalize set4 w3 w.heap.size (.int .i64 3) (.string (bs (l.take k))) (.int .i64 0) (.slice none 0 0) = W at *
    obtain ⟨e0, e1, e2, e3⟩ := cells4 hE
    refine bodyPost_ret (v := .tuple #[.agg #[.int .i64 3, .string (bs (l.take k)), .int .i64 0, .slice none 0 0], .slice (some ⟨b, o + k, none⟩) (l.length - k) (c - k), .bool false]) (by simp [results, Tryd.results56, go_sem, e0, e1, e2, e3]) rfl ?_
    rw [HB.out, if_neg (by rw [hx]; decide)]
    exact ⟨⟨_, _, _, _, _, _, _, _, _, rfl⟩, HE⟩

set_option maxHeartbeats 4000000 in
theorem bulk_full (t l : List UInt8) (htl : t.length ≤ 281474976710656) (ht : ¬ t = [45, 49]) (k : Nat) (hp : parseL t = some (k : Int)) (hk : k ≤ l.length) (b o : Nat) (w : World) (hL : Errs w) (h : Rest w (some ⟨b, o, none⟩) k l) :
    Calls Tryd.prog 56 #[.string (bs t), .slice (some ⟨b, o, none⟩) l.length k] w fun e w' => TookR w.heap.size w' (some ⟨b, o, none⟩) k l e (bulkOf t l) ∧ Below w.heap.size w w' := by
  have HB := Lib.hid (show bulkOf t l = if crlf (l.drop k) then some (.mk 3 (l.take k) 0 [], l.drop (k + 2)) else none by
    rw [bulkOf, if_neg ht, hp]
    show (if (0 : Int) ≤ (k : Int) ∧ (k : Int) ≤ l.length then _ else _) = _
    rw [if_pos ⟨by omega, by omega⟩, Int.toNat_natCast])
  have heq := neg1_toList t
  rw [decide_eq_false ht] at heq
  have HP := Lib.hid (fun (W : World) (hW : Below w.heap.size w W) => parse_any t htl W (hL.on hW))
  rw [hp] at HP
  have hd0 : decide ((k : Int) < 0) = false := decide_eq_false (by omega)
  have hd1 : decide ((l.length : Int) < (k : Int)) = false := decide_eq_false (by omega)
  have hmx := h.len
  have hlc : l.length ≤ k := h.bin.cap
  have hcm : k ≤ maxLen := h.bin.max
  have hcx := hcm
  have HSL := Lib.hid (show (l.take k).length ≤ maxLen by rw [List.length_take]; omega)
  unfold maxLen at hmx hcx
  have H3 : Hid (∀ (j : Nat) (h : j < l.length), w.cell? ⟨b, o + j, none⟩ = some (.int .u8 (l[j].toNat : Nat))) := by
    rcases h with ⟨h, _⟩ | ⟨b', o', h, _, _, h3⟩
    · cases h
    · simp only [Option.some.injEq, Addr.mk.injEq, and_true] at h
      obtain ⟨rfl, rfl⟩ := h
      exact Lib.hid h3
  clear ht hp h
  have kc : ∀ w1 : World, (convert 22 22 (.slice (some ⟨w1.heap.size, 0, none⟩) 2 2)).run Tryd.prog (w1.alloc (.cells #[.int .u8 13, .int .u8 10] 5)) = .ok (.slice (some ⟨w1.heap.size, 0, none⟩) 2 2) (w1.alloc (.cells #[.int .u8 13, .int .u8 10] 5 (2, 3))) := fun w1 => Lib.run_convert_bytes_const (P := Tryd.prog) w1 22 5 #[.int .u8 13, .int .u8 10] 2 2 Tryd.underlying22 Tryd.underlying5
  go_enter Tryd.func56, Tryd.ntmps56
  go_wp2_with fail
  refine (HP.out _ (bA (Below.refl _ _) _)).mono ?_
  rintro e w1 ⟨rfl, hb1⟩
  have hbx : w1.heap[w.heap.size]? = some (.cells #[.int .i64 0, .string ⟨#[]⟩, .int .i64 0, .slice none 0 0] 26 (0, 0)) := (hb1.block _ (by simp)).trans (heap_alloc_new w _)
  have hB1 : Below w.heap.size w w1 := bT (bA (Below.refl _ _) _) hb1
  have HBX1 := Lib.hid hbx
  clear hbx
  go_wp2_with fail
  have hbx := HBX1.out
  have hb2 : Below w1.heap.size w1 (w1.alloc (.cells #[.int .u8 13, .int .u8 10] 5 (2, 3))) := bA (Below.refl _ _) _
  have hc := cutprefix_any (rest_from (w := w) (c := k) k hk hlc hcm H3.out (some ⟨b, o, none⟩) (by simp [])) (bT hB1 hb2) w1.heap.size 2 (by rw [World.cell?_alloc_mark]; rfl) (by rw [World.cell?_alloc_mark]; rfl)
  rw [List.length_drop] at hc
  rw [Nat.sub_self, Nat.sub_eq_zero_of_le hlc] at hc
  have HQ := Lib.hid hc
  clear hc
  have HCV := Lib.hid (convert_rest (w := w1.alloc (.cells #[.int .u8 13, .int .u8 10] 5 (2, 3))) k k hk (fun j hj => ((bT hB1 hb2).cell (p := ⟨b, o + j, none⟩) (World.block_lt_of_cell? w _ (H3.out j hj))).trans (H3.out j hj)))
  have hbx2 := (hb2.block _ (Array.getElem?_eq_some_iff.1 hbx).1).trans hbx
  have HBX := Lib.hid hbx2
  clear hbx hbx2
  refine HQ.out.mono ?_
  rintro e w2 ⟨rfl, hv⟩
  have hB2 := bT hB1 hb2
  generalize w1.alloc (.cells #[.int .u8 13, .int .u8 10] 5 (2, 3)) = w2 at *
  have hcv := HCV.out
  rcases hv with ⟨hx, q, d, rfl, hq⟩ | ⟨hx, rfl⟩
  · exfalso
    rw [List.drop_eq_nil_of_le hlc] at hx
    cases hx
  · rw [List.length_drop, Nat.sub_eq_zero_of_le hlc]
    go_wp2_with fail
    refine (str_any _ _).mono ?_
    rintro e w3 ⟨rfl, hb3⟩
    have hbx3 := (hb3.block _ (Array.getElem?_eq_some_iff.1 HBX.out).1).trans HBX.out
    obtain ⟨c0, c1, c2, c3⟩ := cells4 hbx3
    have fz := frozen4 hbx3
    go_wp2_with fail
    have hE := heap_set4 hbx3 (.int .i64 3) (.string (bs (l.take k))) (.int .i64 0) (.slice none 0 0)
    have HE : Below w.heap.size w (set4 w3 w.heap.size (.int .i64 3) (.string (bs (l.take k))) (.int .i64 0) (.slice none 0 0)) := set4_below (bT hB2 hb3) (Nat.le_refl _) _ _ _ _
    show bodyPost _ _ _ _ _ (set4 w3 w.heap.size (.int .i64 3) (.string (bs (l.take k))) (.int .i64 0) (.slice none 0 0))
    generalize set4 w3 w.heap.size (.int .i64 3) (.string (bs (l.take k))) (.int .i64 0) (.slice none 0 0) = W at *
    obtain ⟨e0, e1, e2, e3⟩ := cells4 hE
    refine bodyPost_ret (v := .tuple #[.agg #[.int .i64 3, .string (bs (l.take k)), .int .i64 0, .slice none 0 0], .slice (some ⟨b, o, none⟩) 0 0, .bool false]) (by simp [results, Tryd.results56, go_sem, e0, e1, e2, e3]) rfl ?_
    rw [HB.out, if_neg (by rw [hx]; decide)]
    exact ⟨⟨_, _, _, _, _, _, _, _, _, rfl⟩, HE⟩

set_option maxHeartbeats 4000000 in
theorem bulk_nil (t : List UInt8) (htl : t.length ≤ 281474976710656) (ht : ¬ t = [45, 49]) (hp : parseL t = some ((0 : Nat) : Int)) (w : World) (hL : Errs w) :
    Calls Tryd.prog 56 #[.string (bs t), .slice none 0 0] w fun e w' => TookR w.heap.size w' none 0 [] e (bulkOf t []) ∧ Below w.heap.size w w' := by
  have HB := Lib.hid (show bulkOf t [] = none by
    rw [bulkOf, if_neg ht, hp]; rfl)
  have heq := neg1_toList t
  rw [decide_eq_false ht] at heq
  have HP := Lib.hid (fun (W : World) (hW : Below w.heap.size w W) => parse_any t htl W (hL.on hW))
  rw [hp] at HP
  have kc : ∀ w1 : World, (convert 22 22 (.slice (some ⟨w1.heap.size, 0, none⟩) 2 2)).run Tryd.prog (w1.alloc (.cells #[.int .u8 13, .int .u8 10] 5)) = .ok (.slice (some ⟨w1.heap.size, 0, none⟩) 2 2) (w1.alloc (.cells #[.int .u8 13, .int .u8 10] 5 (2, 3))) := fun w1 => Lib.run_convert_bytes_const (P := Tryd.prog) w1 22 5 #[.int .u8 13, .int .u8 10] 2 2 Tryd.underlying22 Tryd.underlying5
  clear ht hp
  go_enter Tryd.func56, Tryd.ntmps56
  go_wp2_with fail
  refine (HP.out _ (bA (Below.refl _ _) _)).mono ?_
  rintro e w1 ⟨rfl, hb1⟩
  have hbx : w1.heap[w.heap.size]? = some (.cells #[.int .i64 0, .string ⟨#[]⟩, .int .i64 0, .slice none 0 0] 26 (0, 0)) := (hb1.block _ (by simp)).trans (heap_alloc_new w _)
  have hB1 : Below w.heap.size w w1 := bT (bA (Below.refl _ _) _) hb1
  have HBX1 := Lib.hid hbx
  clear hbx
  go_wp2_with fail
  have hb2 : Below w1.heap.size w1 (w1.alloc (.cells #[.int .u8 13, .int .u8 10] 5 (2, 3))) := bA (Below.refl _ _) _
  have HQ := Lib.hid (cutprefix_any (w0 := w) (l := []) (p := none) (c := 0) (.inl ⟨rfl, rfl, rfl⟩) (bT hB1 hb2) w1.heap.size 2 (by rw [World.cell?_alloc_mark]; rfl) (by rw [World.cell?_alloc_mark]; rfl))
  have HBX := Lib.hid ((hb2.block _ (Array.getElem?_eq_some_iff.1 HBX1.out).1).trans HBX1.out)
  have HCV : Hid ((convert 22 9 (.slice none 0 0)).run Tryd.prog (w1.alloc (.cells #[.int .u8 13, .int .u8 10] 5 (2, 3))) = .ok (.string ⟨#[]⟩) (w1.alloc (.cells #[.int .u8 13, .int .u8 10] 5 (2, 3)))) := Lib.hid (run_convert_bytes_zero _ _ _ Tryd.underlying22 Tryd.underlying5 _ _ _ Tryd.underlying9)
  refine HQ.out.mono ?_
  rintro e w2 ⟨rfl, hv⟩
  have hB2 := bT hB1 hb2
  generalize w1.alloc (.cells #[.int .u8 13, .int .u8 10] 5 (2, 3)) = w2 at *
  have hcv := HCV.out
  rcases hv with ⟨hx, _⟩ | ⟨hx, rfl⟩
  · cases hx
  · rw [List.length_nil]
    go_wp2_with fail
    refine (str_any _ _).mono ?_
    rintro e w3 ⟨rfl, hb3⟩
    have hbx3 := (hb3.block _ (Array.getElem?_eq_some_iff.1 HBX.out).1).trans HBX.out
    obtain ⟨c0, c1, c2, c3⟩ := cells4 hbx3
    have fz := frozen4 hbx3
    go_wp2_with fail
    have hE := heap_set4 hbx3 (.int .i64 3) (.string ⟨#[]⟩) (.int .i64 0) (.slice none 0 0)
    have HE : Below w.heap.size w (set4 w3 w.heap.size (.int .i64 3) (.string ⟨#[]⟩) (.int .i64 0) (.slice none 0 0)) := set4_below (bT hB2 hb3) (Nat.le_refl _) _ _ _ _
    show bodyPost _ _ _ _ _ (set4 w3 w.heap.size (.int .i64 3) (.string ⟨#[]⟩) (.int .i64 0) (.slice none 0 0))
    generalize set4 w3 w.heap.size (.int .i64 3) (.string ⟨#[]⟩) (.int .i64 0) (.slice none 0 0) = W at *
    obtain ⟨e0, e1, e2, e3⟩ := cells4 hE
    refine bodyPost_ret (v := .tuple #[.agg #[.int .i64 3, .string ⟨#[]⟩, .int .i64 0, .slice none 0 0], .slice none 0 0, .bool false]) (by simp [results, Tryd.results56, go_sem, e0, e1, e2, e3]) rfl ?_
    rw [HB.out]
    exact ⟨⟨_, _, _, _, _, _, _, _, _, rfl⟩, HE⟩

/-- resp.takeBulk, of any text and bytes. -/
theorem bulk_any (t l : List UInt8) (htl : t.length ≤ 281474976710656) (p : Option Addr) (c : Nat) (w : World) (hL : Errs w) (h : Rest w p c l) :
    Calls Tryd.prog 56 #[.string (bs t), .slice p l.length c] w fun e w' => TookR w.heap.size w' p c l e (bulkOf t l) ∧ Below w.heap.size w w' := by
  by_cases ht : t = [45, 49]
  · exact bulk_null t l ht p c w h
  · cases hp : parseL t with
    | none => exact bulk_unparsed t l htl ht hp p c w hL h
    | some n =>
      by_cases h0 : n < 0
      · exact bulk_neg t l htl ht n hp h0 p c w hL h
      · by_cases h1 : (l.length : Int) < n
        · exact bulk_long t l htl ht n hp h1 p c w hL h
        · obtain ⟨k, rfl⟩ : ∃ k : Nat, n = (k : Int) := ⟨n.toNat, by omega⟩
          rcases h with ⟨rfl, rfl, rfl⟩ | ⟨b, o, rfl, g1, g2, g3⟩
          · obtain rfl : k = 0 := by simp at h1; omega
            exact bulk_nil t htl ht hp w hL
          · by_cases hc : c = k
            · subst hc
              exact bulk_full t l htl ht c hp (by omega) b o w hL (.inr ⟨b, o, rfl, g1, g2, g3⟩)
            · exact bulk_text t l htl ht k hp (by omega) b o c hc w hL (.inr ⟨b, o, rfl, g1, g2, g3⟩)
end Go.Proofs.YtcikelcecfapcaaDoor
