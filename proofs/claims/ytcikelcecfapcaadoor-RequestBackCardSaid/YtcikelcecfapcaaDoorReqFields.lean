/-
  A reader's memory: rows of words, commands that have been told; what telling one does. strings.FieldsFunc at the byte 32: the words of a line.
-/
import Derived.Test.YtcikelcecfapcaaDoorReqWord
import Derived.Deep.AppendLies
import Derived.Lib.FieldsP
import Derived.Lib.TrimUEq
namespace Go.Proofs.YtcikelcecfapcaaDoor
open Go.RowKit Rp Rq

theorem info_str : (Tryd.prog.info? 9).map (fun i => (i.zero, i.size, i.bytes)) = some (some (.string ⟨#[]⟩), 1, 16) := by kernel_rfl
theorem info_row : (Tryd.prog.info? 50).map (fun i => (i.zero, i.size, i.bytes)) = some (some (.slice none 0 0), 1, 24) := by kernel_rfl

/-- The cells of words. -/
def wCells (ws : List Wd) : List Value := ws.map fun w => .string (bs w)
theorem wCells_snoc (ws : List Wd) (w : Wd) : wCells (ws ++ [w]) = wCells ws ++ [.string (bs w)] := by simp [wCells]
theorem wCells_len (ws : List Wd) : (wCells ws).length = ws.length := by simp [wCells]

/-- A command that has been told: its words, the block of their row, its capacity. -/
structure Hc where
  ws : List Wd
  g : Nat
  cap : Nat
def Hc.val (x : Hc) : Value := .slice (some ⟨x.g, 0, none⟩) x.ws.length x.cap
def hCells (xs : List Hc) : List Value := xs.map Hc.val
theorem hCells_snoc (xs : List Hc) (x : Hc) : hCells (xs ++ [x]) = hCells xs ++ [x.val] := by simp [hCells]
theorem hCells_len (xs : List Hc) : (hCells xs).length = xs.length := by simp [hCells]
/-- Its words stand in memory, from block lo on. -/
def Own (w : World) (lo : Nat) (x : Hc) : Prop := w.ownsRow lo 9 1 x.val x.ws.length (wCells x.ws)

/-! ### What has changed -/
/-- But for some blocks the world is as it was, and there may be more. -/
structure Chg (ex : Nat → Prop) (w w' : World) : Prop where
  os : w'.os = w.os
  tape : w'.tape = w.tape
  output : w'.output = w.output
  size : w.heap.size ≤ w'.heap.size
  block : ∀ k, k < w.heap.size → ¬ ex k → w'.heap[k]? = w.heap[k]?

theorem Chg.refl (ex : Nat → Prop) (w : World) : Chg ex w w := ⟨rfl, rfl, rfl, Nat.le_refl _, fun _ _ _ => rfl⟩
theorem Chg.trans {ex ex' : Nat → Prop} {a b c : World} (h : Chg ex a b) (h' : Chg ex' b c) (he : ∀ k, k < a.heap.size → ex' k → ex k) : Chg ex a c :=
  ⟨h'.os.trans h.os, h'.tape.trans h.tape, h'.output.trans h.output, Nat.le_trans h.size h'.size, fun k hk hn => (h'.block k (Nat.lt_of_lt_of_le hk h.size) (fun e => hn (he k hk e))).trans (h.block k hk hn)⟩
theorem Chg.weaken {ex ex' : Nat → Prop} {a b : World} (h : Chg ex a b) (he : ∀ k, k < a.heap.size → ex k → ex' k) : Chg ex' a b := ⟨h.os, h.tape, h.output, h.size, fun k hk hn => h.block k hk (fun e => hn (he k hk e))⟩
theorem Chg.grown {w w' : World} {row : Option Nat} (h : w.grownBy w' row) : Chg (fun k => some k = row) w w' := ⟨h.os, h.tape, h.output, h.size, fun k hk hn => h.block k hk hn⟩
theorem Chg.below {w w' : World} (h : Below w.heap.size w w') (ex : Nat → Prop) : Chg ex w w' := ⟨h.os, h.tape, h.output, h.size, fun k hk _ => h.block k hk⟩
theorem Chg.setCell (w : World) (a : Addr) (v : Value) : Chg (fun k => k = a.block) w (w.setCell a v) := ⟨rfl, rfl, rfl, by simp [World.setCell], fun _ _ hn => Below.heap_setCell _ _ _ _ hn⟩
/-- What is below B where all that may change is from B on. -/
theorem Chg.on {ex : Nat → Prop} {B : Nat} {a w w' : World} (h : Chg ex w w') (hb : Below B a w) (hB : B ≤ w.heap.size) (he : ∀ k, ex k → B ≤ k) : Below B a w' :=
  hb.trans ⟨h.os, h.tape, h.output, h.size, fun k hk => h.block k (by omega) (fun e => by have := he k e; omega)⟩
theorem Chg.box {ex : Nat → Prop} {w w' : World} (h : Chg ex w w') {k : Nat} {o : Obj} (hk : w.heap[k]? = some o) (hn : ¬ ex k) : w'.heap[k]? = some o :=
  (h.block k (Array.getElem?_eq_some_iff.1 hk).1 hn).trans hk
theorem Chg.own {ex : Nat → Prop} {w w' : World} (h : Chg ex w w') {lo : Nat} {e : TypeId} {sz : Nat} {v : Value} {n : Nat} {xs : List Value} (ho : w.ownsRow lo e sz v n xs) (hn : ∀ k, v.ownBlock = some k → ¬ ex k) : w'.ownsRow lo e sz v n xs := by
  refine ⟨ho.1, ?_⟩
  rcases ho.2 with h0 | ⟨g, cap, cur, rfl, hb, hg, rest⟩
  · exact .inl h0
  · exact .inr ⟨g, cap, cur, rfl, hb, h.box hg (hn g rfl), rest⟩

theorem own_type {w : World} {lo : Nat} {e : TypeId} {sz : Nat} {v : Value} {n : Nat} {xs : List Value} (ho : w.ownsRow lo e sz v n xs) {k : Nat} (hk : v.ownBlock = some k) : ∃ cur, w.heap[k]? = some (.cells cur e (0, 0)) := by
  rcases ho.2 with ⟨rfl, _⟩ | ⟨g, cap, cur, rfl, hb, hg, rest⟩
  · simp [Value.ownBlock] at hk
  · simp [Value.ownBlock] at hk
    subst hk
    exact ⟨cur, hg⟩
/-- A row's block is none of another type. -/
theorem own_ne {w : World} {lo : Nat} {e : TypeId} {sz : Nat} {v : Value} {n : Nat} {xs : List Value} (ho : w.ownsRow lo e sz v n xs) {k : Nat} {cur : Array Value} {t : TypeId} {fr : Nat × Nat} (hk : w.heap[k]? = some (.cells cur t fr)) (ht : e ≠ t) : v.ownBlock ≠ some k := by
  intro hv
  obtain ⟨c, hc⟩ := own_type ho hv
  rw [hk] at hc
  simp only [Option.some.injEq, Obj.cells.injEq] at hc
  exact ht hc.2.1.symm
theorem own_apart {w : World} {lo lo' : Nat} {e e' : TypeId} {sz sz' : Nat} {v v' : Value} {n n' : Nat} {xs xs' : List Value} (ho : w.ownsRow lo e sz v n xs) (ho' : w.ownsRow lo' e' sz' v' n' xs') (ht : e ≠ e') : ∀ k, v.ownBlock = some k → v'.ownBlock ≠ some k := fun k hk hk' => by
  obtain ⟨c, hc⟩ := own_type ho hk
  exact own_ne ho' hc ht.symm hk'
theorem box_ne {w : World} {k k' : Nat} {c c' : Array Value} {t t' : TypeId} {fr fr' : Nat × Nat} (h : w.heap[k]? = some (.cells c t fr)) (h' : w.heap[k']? = some (.cells c' t' fr')) (ht : t ≠ t') : k ≠ k' := by
  rintro rfl
  rw [h] at h'
  simp only [Option.some.injEq, Obj.cells.injEq] at h'
  exact ht h'.2.1

theorem cell1 {W : World} {b : Nat} {v : Value} {T : TypeId} (h : W.heap[b]? = some (.cells #[v] T (0, 0))) : W.cell? ⟨b, 0, none⟩ = some v := by rw [Lib.cell_of_heap h]; rfl
theorem heap_set1 {w : World} {b : Nat} {z : Value} {T : TypeId} (hb : w.heap[b]? = some (.cells #[z] T (0, 0))) (v : Value) : (w.setCell ⟨b, 0, none⟩ v).heap[b]? = some (.cells #[v] T (0, 0)) := heap_set hb v

/-- What telling a command does. -/
def Tells (C : Nat) (lo : Nat) (xs : List Hc) (v : Value) (w : World) (e : Ending) (w' : World) : Prop :=
  ∃ g cap, e = .returned (.tuple #[]) ∧ w'.heap[C]? = some (.cells #[.slice (some ⟨g, 0, none⟩) xs.length cap] 41 (0, 0)) ∧ w'.ownsRow lo 50 1 (.slice (some ⟨g, 0, none⟩) xs.length cap) xs.length (hCells xs) ∧
    Chg (fun k => k = C ∨ v.ownBlock = some k) w w' ∧ (v.ownBlock = some g ∨ w.heap.size ≤ g)

set_option maxRecDepth 20000 in
set_option maxHeartbeats 2000000 in
theorem tell_any (C lo : Nat) (xs : List Hc) (x : Hc) (v : Value) (w : World) (hC : w.heap[C]? = some (.cells #[v] 41 (0, 0))) (hown : w.ownsRow lo 50 1 v xs.length (hCells xs)) (hlo : lo ≤ w.heap.size) (hlen : xs.length ≤ 1000000000) :
    Calls Tryd.prog 39 #[x.val, .pointer (some ⟨C, 0, none⟩)] w (Tells C lo (xs ++ [x]) v w) := by
  obtain ⟨i0, hi, hz0, hz1, hz2⟩ := info_parts info_row
  have hClt : C < w.heap.size := (Array.getElem?_eq_some_iff.1 hC).1
  have c0 := cell1 hC
  have HC := Lib.hid hC
  have HO := Lib.hid hown
  have HOA := Lib.hid (fun o => hown.alloc o)
  obtain ⟨gx, nx, cx, hxv⟩ : ∃ gx nx cx, x.val = .slice (some ⟨gx, 0, none⟩) nx cx := ⟨_, _, _, rfl⟩
  have HXV := Lib.hid hxv
  rw [hxv]
  clear hC hown hxv
  go_enter Tryd.func39, Tryd.ntmps39
  go_wp2_with (at_builtin; refine wpList_append_lies _ rfl (.tmp 3) (.tmp 5) 41 rfl lo 50 i0 (.slice none 0 0) 1 24 Tryd.underlying41 hi hz0 hz1 hz2 rfl (by decide) v xs.length (hCells xs) rfl (HOA.out _) ⟨w.heap.size, 0, none⟩ 1 1 [.slice (some ⟨gx, 0, none⟩) nx cx] rfl rfl ?c1 (by intro y hy; simp at hy; rw [hy]; rfl) (by decide) (by unfold maxLen; omega) (by omega) (by simp; omega) (w.heap.size + 1) (by simp) ?_)
  case c1 =>
    intro k u hk
    rw [Lib.add_plain, Nat.zero_add, Lib.cell_of_heap (heap_alloc_new w _), ← hk]
    match k with
    | 0 => rfl
    | k + 1 => rfl
  intro g cap w' hown' hgr hg hgl
  have hvC : v.ownBlock ≠ some C := own_ne HO.out HC.out (by decide)
  have hCw : w'.heap[C]? = some (.cells #[v] 41 (0, 0)) := (hgr.block C (by simp; omega) (fun e => hvC e.symm)).trans ((Below.heap_alloc _ _ _ hClt).trans HC.out)
  have u0 := cell1 hCw
  have f0 := frozen_at hCw
  have HCW := Lib.hid hCw
  have HOW := Lib.hid hown'
  have HGR := Lib.hid hgr
  have HG := Lib.hid hg
  have HVC := Lib.hid hvC
  clear hown' hgr hg hCw hvC c0
  go_wp2
  go_end0
  refine ⟨g, cap, rfl, ?_, ?_, ?_, ?_⟩
  · rw [List.length_append]
    exact heap_set1 HCW.out _
  · have hgC : g ≠ C := by
      rcases HG.out with h | h
      · exact fun e => HVC.out (by rw [h, e])
      · omega
    rw [List.length_append, hCells_snoc, HXV.out]
    exact (Chg.setCell w' ⟨C, 0, none⟩ _).own HOW.out (fun k hk e => by
      simp [Value.ownBlock] at hk
      exact hgC (hk.trans e))
  · refine Chg.trans (ex' := fun k => k = C) ?_ (Chg.setCell w' ⟨C, 0, none⟩ _) (fun k _ e => .inl e)
    have h1 := Chg.below (bA (Below.refl w.heap.size w) (.cells #[.slice (some ⟨gx, 0, none⟩) nx cx] 50)) (fun k => k = C ∨ v.ownBlock = some k)
    exact h1.trans (Chg.grown HGR.out) (fun k _ e => .inr e.symm)
  · rcases HG.out with h | h
    · exact .inl h
    · exact .inr (by omega)
end Go.Proofs.YtcikelcecfapcaaDoor

namespace Go.Proofs.YtcikelcecfapcaaDoor
open Go.RowKit Rp Rq Go.Lib

theorem fieldsQ_space (r : List UInt8) (cur : Wd) : fieldsQ (32 :: r) cur = if cur = [] then fieldsQ r [] else cur :: fieldsQ r [] := by
  rw [fieldsQ, if_pos rfl]
theorem fieldsQ_many : ∀ (u r : List UInt8) (cur : Wd), (∀ x ∈ u, x ≠ 32) → fieldsQ (u ++ r) cur = fieldsQ r (cur ++ u)
  | [], r, cur, _ => by simp
  | x :: u, r, cur, h => by
    rw [List.cons_append, fieldsQ, if_neg (h x List.mem_cons_self), fieldsQ_many u r (cur ++ [x]) (fun y hy => h y (List.mem_cons_of_mem _ hy)), List.append_assoc]
    rfl
theorem fieldsQ_ne : ∀ (l : List UInt8) (w : Wd), ∀ x ∈ fieldsQ l w, x ≠ []
  | [], w, x, h => by
    rw [fieldsQ] at h
    split at h
    · simp at h
    · simp at h; rw [h]; assumption
  | c :: s, w, x, h => by
    rw [fieldsQ] at h
    split at h
    · split at h
      · exact fieldsQ_ne s [] x h
      · rcases List.mem_cons.1 h with rfl | h
        · assumption
        · exact fieldsQ_ne s [] x h
    · exact fieldsQ_ne s _ x h

theorem dN_32 (n b0 b1 b2 b3 : Nat) (h : (decodeN n b0 b1 b2 b3).1 = 32) : b0 = 32 ∧ (decodeN n b0 b1 b2 b3).2 = 1 := by
  unfold decodeN at h ⊢
  repeat' split at h
  all_goals simp_all
  all_goals omega
theorem dN_ne (n b0 b1 b2 b3 : Nat) (h : (decodeN n b0 b1 b2 b3).1 ≠ 32) : b0 ≠ 32 ∧ (2 ≤ (decodeN n b0 b1 b2 b3).2 → b1 ≠ 32) ∧ (3 ≤ (decodeN n b0 b1 b2 b3).2 → b2 ≠ 32) ∧ (4 ≤ (decodeN n b0 b1 b2 b3).2 → b3 ≠ 32) ∧ (decodeN n b0 b1 b2 b3).2 ≤ 4 := by
  unfold decodeN at h ⊢
  repeat' split
  all_goals (simp_all; try omega)

theorem getD_drop (l : List UInt8) (pos j : Nat) (h : pos + j < l.length) : (l.drop pos)[j]'(by rw [List.length_drop]; omega) = l.getD (pos + j) 0 := by
  rw [List.getElem_drop, List.getD_eq_getElem?_getD, List.getElem?_eq_getElem h]
  rfl
theorem rune_32 (s : ByteArray) (pos : Nat) (h : pos < s.data.toList.length) (hr : (Utf8.decode s pos).1 = 32) : s.data.toList.drop pos = 32 :: s.data.toList.drop (pos + 1) ∧ (Utf8.decode s pos).2 = 1 := by
  rw [decode_N] at hr ⊢
  obtain ⟨h0, h1⟩ := dN_32 _ _ _ _ _ hr
  refine ⟨?_, h1⟩
  rw [List.drop_eq_getElem_cons h]
  congr 1
  rw [List.getD_eq_getElem?_getD, List.getElem?_eq_getElem h] at h0
  exact UInt8.toNat_inj.1 h0
theorem rune_ne (s : ByteArray) (pos : Nat) (hr : (Utf8.decode s pos).1 ≠ 32) : ∀ x ∈ (s.data.toList.drop pos).take (Utf8.decode s pos).2, x ≠ 32 := by
  rw [decode_N] at hr ⊢
  obtain ⟨h0, h1, h2, h3, h4⟩ := dN_ne _ _ _ _ _ hr
  intro x hx
  obtain ⟨j, hj, rfl⟩ := List.getElem_of_mem hx
  rw [List.length_take, List.length_drop] at hj
  rw [List.getElem_take, getD_drop _ _ _ (by omega)]
  have key : ∀ y : UInt8, y.toNat ≠ 32 → y ≠ 32 := fun y hy e => hy (by rw [e]; rfl)
  match j, hj with
  | 0, _ => exact key _ h0
  | 1, hj => exact key _ (h1 (by omega))
  | 2, hj => exact key _ (h2 (by omega))
  | 3, hj => exact key _ (h3 (by omega))
  | j + 4, hj => omega

def is32 (r : Nat) : Bool := decide (r = 32)
/-- THE PASS OVER THE RUNES. -/
theorem spans32 (s : ByteArray) : ∀ (f pos : Nat) (st : Option Nat) (acc : List (Nat × Nat)), s.size ≤ pos + f → pos ≤ s.size → (∀ a, st = some a → a < pos) →
    acc.map (fun p => pieceU s.data.toList p.1 p.2) ++ fieldsQ (s.data.toList.drop pos) (openPiece s.data.toList st pos) = (closeSpans s (spansFromP is32 s f pos st acc)).map (fun p => pieceU s.data.toList p.1 p.2)
  | 0, pos, st, acc, h, hp, hst => by
    obtain rfl : pos = s.size := by omega
    have hd : s.data.toList.drop s.size = [] := List.drop_eq_nil_of_le (by rw [← size_eq]; exact Nat.le_refl _)
    rw [hd, fieldsQ]
    cases st with
    | none => simp [spansFromP, closeSpans, openPiece]
    | some a =>
      have := pieceU_ne s.data.toList a s.size (hst a rfl) (by rw [← size_eq]; exact Nat.le_refl _)
      simp [spansFromP, closeSpans, openPiece, this]
  | f + 1, pos, st, acc, h, hp, hst => by
    by_cases hlt : pos < s.size
    · have hw := width_pos s pos
      have hwn : pos + (Utf8.decode s pos).2 ≤ s.size := by
        have := decodeN_le_n' (s.size - pos) (s.get! pos).toNat (s.get! (pos + 1)).toNat (s.get! (pos + 2)).toNat (s.get! (pos + 3)).toNat (by omega)
        rw [← decode_at] at this
        omega
      simp only [spansFromP, if_pos hlt]
      cases hsp : is32 (Utf8.decode s pos).1 with
      | true =>
        obtain ⟨hd, h1⟩ := rune_32 s pos (by rw [← size_eq]; exact hlt) (of_decide_eq_true hsp)
        rw [h1] at hwn
        rw [hd, fieldsQ_space]
        simp only [if_true, h1]
        cases st with
        | none =>
          have ih := spans32 s f (pos + 1) none acc (by omega) hwn (fun a h => by cases h)
          simpa [openPiece] using ih
        | some a =>
          have hpn := pieceU_ne s.data.toList a pos (hst a rfl) (by rw [← size_eq]; omega)
          have ih := spans32 s f (pos + 1) none (acc ++ [(a, pos)]) (by omega) hwn (fun a h => by cases h)
          simpa [openPiece, hpn] using ih
      | false =>
        have hne := rune_ne s pos (of_decide_eq_false hsp)
        have hsplit : fieldsQ (s.data.toList.drop pos) (openPiece s.data.toList st pos) = fieldsQ (s.data.toList.drop (pos + (Utf8.decode s pos).2)) (openPiece s.data.toList st pos ++ (s.data.toList.drop pos).take (Utf8.decode s pos).2) := by
          rw [← fieldsQ_many _ _ _ hne, ← List.drop_drop, List.take_append_drop]
        rw [hsplit]
        simp only [Bool.false_eq_true, if_false]
        cases st with
        | none =>
          have ih := spans32 s f (pos + (Utf8.decode s pos).2) (some pos) acc (by omega) hwn (fun a h => by cases h; omega)
          have e : ([] : List UInt8) ++ (s.data.toList.drop pos).take (Utf8.decode s pos).2 = pieceU s.data.toList pos (pos + (Utf8.decode s pos).2) := by
            unfold pieceU
            rw [List.nil_append, Nat.add_sub_cancel_left]
          simp only [openPiece] at ih ⊢
          rw [e]
          exact ih
        | some a =>
          have ih := spans32 s f (pos + (Utf8.decode s pos).2) (some a) acc (by omega) hwn (fun b h => by cases h; have := hst a rfl; omega)
          simp only [openPiece] at ih ⊢
          rw [pieceU_grow _ _ _ _ (Nat.le_of_lt (hst a rfl))]
          exact ih
    · obtain rfl : pos = s.size := by omega
      have hd : s.data.toList.drop s.size = [] := List.drop_eq_nil_of_le (by rw [← size_eq]; exact Nat.le_refl _)
      rw [hd, fieldsQ, spansFromP_end _ s _ _ _ _ hlt]
      cases st with
      | none => simp [closeSpans, openPiece]
      | some a =>
        have := pieceU_ne s.data.toList a s.size (hst a rfl) (by rw [← size_eq]; exact Nat.le_refl _)
        simp [closeSpans, openPiece, this]

theorem pieceU_bs (l : List UInt8) (a b : Nat) : (bs l).extract a b = bs (pieceU l a b) := by
  apply ByteArray.ext
  rw [ByteArray.data_extract]
  simp [bs, pieceU, List.extract]
theorem goFields_32 (t : List UInt8) : goFieldsP is32 (bs t) = (fieldsQ t []).map bs := by
  have h := spans32 (bs t) (bs t).size 0 none [] (by omega) (Nat.zero_le _) (fun a h => by cases h)
  rw [list_bs, List.drop_zero] at h
  simp only [List.map_nil, List.nil_append, openPiece] at h
  rw [h]
  unfold goFieldsP spansOfP
  rw [List.map_map]
  apply List.map_congr_left
  intro x _
  exact pieceU_bs t x.1 x.2

set_option maxHeartbeats 400000 in
theorem is_space (w : World) : PredAtRunes Tryd.prog 74 #[] is32 w := fun W x _ _ => by
  show Calls Tryd.prog 74 #[encR x] W _
  unfold encR
  go_enter Tryd.func74, Tryd.ntmps74
  go_wp2
  go_ret
  refine ⟨?_, 0, rfl⟩
  show Ending.returned (.bool ((x : Int) == 32)) = _
  congr 2
  unfold is32
  rw [Bool.eq_iff_iff, beq_iff_eq, decide_eq_true_iff]
  omega

/-- strings.FieldsFunc at the byte 32. -/
theorem fields_any (t : List UInt8) (ht : t.length ≤ 1000000000) (w : World) :
    Calls Tryd.prog 73 #[.string (bs t), .func (.func 74) #[] #[]] w fun e w' => ∃ A, e = .returned (.slice (some ⟨A, 0, none⟩) (fieldsQ t []).length (fieldsQ t []).length) ∧ w.heap.size ≤ A ∧
      w'.ownsRow w.heap.size 9 1 (.slice (some ⟨A, 0, none⟩) (fieldsQ t []).length (fieldsQ t []).length) (fieldsQ t []).length (wCells (fieldsQ t [])) ∧ Below w.heap.size w w' := by
  have h := Tryd.strings_FieldsFunc_runes 74 #[] (fun args w => by kernel_rfl) is32 (bs t) w (by rw [bs_size]; omega) (is_space w)
  rw [goFields_32] at h
  simp only [List.length_map, List.map_map] at h
  exact h
end Go.Proofs.YtcikelcecfapcaaDoor
