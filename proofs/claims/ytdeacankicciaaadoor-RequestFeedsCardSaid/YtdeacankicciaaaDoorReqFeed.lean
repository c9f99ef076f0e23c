/-
  (*request.Reader).Feed; bytes.Clone.
-/
import Derived.Test.YtdeacankicciaaaDoorReqParse
import Derived.WalkSpells
namespace Go.Proofs.YtdeacankicciaaaDoor
open Go.RowKit Rp Rq

set_option maxRecDepth 20000 in
set_option maxHeartbeats 400000 in
theorem clone_none (w : World) :
    Calls Tryd.prog 41 #[.slice none 0 0] w fun e w' => e = .returned (.slice none 0 0) ∧ w = w' := by
  have heq : ∀ W, (binOp .eql 22 (.slice none 0 0) (.slice none 0 0)).run Tryd.prog W = .ok (.bool true) W := fun W => Lib.run_eql_slice_nil (P := Tryd.prog) W 22 5 none 0 0 0 0 Tryd.underlying22
  go_enter Tryd.func41, Tryd.ntmps41
  go_wp2
  go_ret
  exact ⟨rfl, rfl⟩

set_option maxRecDepth 20000 in
set_option maxHeartbeats 1000000 in
theorem clone_some (b o c : Nat) (l : List UInt8) (hl : l.length ≤ 1000000000) (w : World) (h : Rest w (some ⟨b, o, none⟩) c l) :
    Calls Tryd.prog 41 #[.slice (some ⟨b, o, none⟩) l.length c] w fun e w' => (∃ v, e = .returned v ∧ w'.ownsRow w.heap.size 5 1 v l.length (sCells l)) ∧ Below w.heap.size w w' := by
  have heq : ∀ W, (binOp .eql 22 (.slice (some ⟨b, o, none⟩) l.length c) (.slice none 0 0)).run Tryd.prog W = .ok (.bool false) W := fun W => Lib.run_eql_slice_nil (P := Tryd.prog) W 22 5 (some ⟨b, o, none⟩) l.length c 0 0 Tryd.underlying22
  have HT := Lib.hid (Tail.below (.inl h) (bA (Below.refl w.heap.size w) (.cells #[] 5)))
  have HOW := Lib.hid (World.ownsRow_made (base := w.heap.size) (e := 5) (size := 1) w #[] 0 (Nat.le_refl _) (by unfold maxLen; omega) rfl)
  clear h
  go_enter Tryd.func41, Tryd.ntmps41
  go_wp2_with (at_builtin; refine append_rest rfl (.tmp 5) (.tmp 6) rfl w.heap.size _ 0 [] rfl HOW.out (some ⟨b, o, none⟩) l.length c l rfl rfl HT.out (by omega) (by simp) ?_)
  intro v w2 hown hgrow hnil
  have hown2 : w2.ownsRow w.heap.size 5 1 v l.length (sCells l) := by simpa using hown
  have HO := Lib.hid hown2
  have HB := Lib.hid ((bA (Below.refl w.heap.size w) (.cells #[] 5)).grown hgrow (by simp) (fun k hk => (HOW.out.lt k hk).1))
  clear hown hown2 hgrow hnil
  go_wp2
  go_ret
  exact ⟨⟨_, rfl, HO.out⟩, HB.out⟩

/-- bytes.Clone. -/
theorem clone_any (p : Option Addr) (c : Nat) (l : List UInt8) (hl : l.length ≤ 1000000000) (w : World) (h : Rest w p c l) :
    Calls Tryd.prog 41 #[.slice p l.length c] w fun e w' => (∃ v, e = .returned v ∧ w'.ownsRow w.heap.size 5 1 v l.length (sCells l)) ∧ Below w.heap.size w w' := by
  rcases h with ⟨rfl, rfl, rfl⟩ | ⟨b, o, rfl, h1, h2, h3⟩
  · refine (clone_none w).mono ?_
    rintro e w' ⟨rfl, rfl⟩
    exact ⟨⟨_, rfl, World.ownsRow_nil _ _ _ _⟩, Below.refl _ _⟩
  · exact clone_some b o c l hl w (.inr ⟨b, o, rfl, h1, h2, h3⟩)

theorem Rest.chg {w w' : World} {p : Option Addr} {c : Nat} {l : List UInt8} (h : Rest w p c l) {ex : Nat → Prop} (hc : Chg ex w w') (hn : ∀ b o, p = some ⟨b, o, none⟩ → ¬ ex b) : Rest w' p c l := by
  rcases h with h | ⟨b, o, hp, h1, h2, h3⟩
  · exact .inl h
  · refine .inr ⟨b, o, hp, h1, h2, fun j hj => ?_⟩
    have hb := World.block_lt_of_cell? w _ (h3 j hj)
    exact (World.cell?_of_block (w := w) (a := ⟨b, o + j, none⟩) (hc.block b hb (hn b o hp))).trans (h3 j hj)

/-- A reader that waits for more. -/
structure Rdr (R : Nat) (s : St) (pv wv : Value) (w : World) : Prop where
  box : Box w R 0 pv s.c wv s.tk
  rest : w.ownsRow (R + 1) 5 1 pv s.l.length (sCells s.l)
  words : w.ownsRow (R + 1) 9 1 wv s.ws.length (wCells s.ws)
  zero : s.c = 0 → s.ws = [] ∧ s.tk = 0 ∧ wv = .slice none 0 0
  few : s.c ≠ 0 → s.ws.length < s.c
  most : s.c ≤ 128
theorem Rdr.chg {R : Nat} {s : St} {pv wv : Value} {w w' : World} (h : Rdr R s pv wv w) {ex : Nat → Prop} (hc : Chg ex w w') (h1 : ¬ ex R) (h2 : ∀ k, pv.ownBlock = some k → ¬ ex k) (h3 : ∀ k, wv.ownBlock = some k → ¬ ex k) : Rdr R s pv wv w' :=
  ⟨hc.box h.box h1, hc.own h.rest h2, hc.own h.words h3, h.zero, h.few, h.most⟩

/-- An argument: a slice of bytes apart from a reader's blocks. -/
structure AB where
  p : Option Addr
  c : Nat
  l : List UInt8
def ArgIn (w : World) (bad : Nat → Prop) (x : AB) : Prop := Rest w x.p x.c x.l ∧ ∀ b o, x.p = some ⟨b, o, none⟩ → ¬ bad b
theorem ArgIn.on {w w' : World} {bad bad' ex : Nat → Prop} {x : AB} (h : ArgIn w bad x) (hc : Chg ex w w') (he : ∀ k, ex k → bad k) (hb : ∀ k, bad' k → bad k) : ArgIn w' bad' x :=
  ⟨h.1.chg hc (fun b o hp e => h.2 b o hp (he b e)), fun b o hp e => h.2 b o hp (hb b e)⟩

/-- What Feed answers. -/
def FeedV (R : Nat) (s0 : St) (pv wv : Value) (w : World) (e : Ending) (w' : World) : Prop :=
  ∃ (xs : List Hc) (cv : Value), w'.ownsRow (R + 1) 50 1 cv xs.length (hCells xs) ∧ (∀ x ∈ xs, Own w' (R + 1) x) ∧ Chg (fun k => k = R ∨ pv.ownBlock = some k ∨ wv.ownBlock = some k) w w' ∧ (∀ k, cv.ownBlock = some k → w.heap.size ≤ k) ∧
    ((∃ s' pv' wv', e = .returned (.tuple #[cv, .int .i64 0]) ∧ Rq.Go s0 (xs.map Hc.ws) (.more s') ∧ Rdr R s' pv' wv' w' ∧ (∀ x ∈ xs, wv'.ownBlock ≠ some x.g) ∧ (∀ k, wv'.ownBlock = some k → wv.ownBlock = some k ∨ w.heap.size ≤ k) ∧ (∀ k, pv'.ownBlock = some k → pv.ownBlock = some k ∨ w.heap.size ≤ k)) ∨
     ∃ x, e = .returned (.tuple #[cv, .int .i64 x]) ∧ Rq.Go s0 (xs.map Hc.ws) (.err x) ∧ Box w' R x (.slice none 0 0) 0 (.slice none 0 0) 0)

/-- What stands at the head of a round of Feed's loop. -/
structure FeedI (R : Nat) (s : St) (pv0 wv : Value) (w : World) (L : List UInt8) (pv : Value) (wr : World) : Prop where
  box : Box wr R 0 pv s.c wv s.tk
  row : wr.ownsRow (R + 1) 5 1 pv L.length (sCells L)
  chg : Chg (fun k => k = R ∨ pv0.ownBlock = some k) w wr
  pnew : ∀ k, pv.ownBlock = some k → pv0.ownBlock = some k ∨ w.heap.size ≤ k

theorem FeedI.start {R : Nat} {s : St} {pv wv : Value} {w : World} (h : Rdr R s pv wv w) : FeedI R s pv wv w s.l pv w := ⟨h.box, h.rest, Chg.refl _ _, fun _ h => .inl h⟩
theorem FeedI.next {R : Nat} {s : St} {pv0 wv : Value} {w : World} {L : List UInt8} {pv : Value} {wr w2 : World} (F : FeedI R s pv0 wv w L pv wr) {b : List UInt8} {pv' : Value} (hlen : L.length + b.length = (L ++ b).length)
    (hown : w2.ownsRow (R + 1) 5 1 pv' (L.length + b.length) (sCells L ++ sCells b)) (hg : wr.grownBy w2 pv.ownBlock) (hn : ∀ k, pv'.ownBlock = some k → pv.ownBlock = some k ∨ wr.heap.size ≤ k) : FeedI R s pv0 wv w (L ++ b) pv' (w2.setCell ⟨R, 1, none⟩ pv') := by
  have hpR : pv.ownBlock ≠ some R := own_ne F.row F.box (by decide)
  have h1 := Chg.grown hg
  have h2 := Chg.setCell w2 ⟨R, 1, none⟩ pv'
  have hb2 : Box w2 R 0 pv s.c wv s.tk := h1.box F.box (fun e => hpR e.symm)
  refine ⟨heap_set hb2 _, h2.own (by rw [← hlen, sCells_append]; exact hown) (fun k hk e => ?_), (F.chg.trans h1 (fun k hk e => ?_)).trans h2 (fun k _ e => .inl e), fun k hk => ?_⟩
  · exact own_ne hown hb2 (by decide) ((show k = R from e) ▸ hk)
  · rcases F.pnew k e.symm with h | h
    · exact .inr h
    · omega
  · rcases hn k hk with h | h
    · exact F.pnew k h
    · exact .inr (Nat.le_trans F.chg.size h)

theorem run_append_zero {w : World} (ty : TypeId) {base : Nat} {v : Value} {n : Nat} {xs : List Value} (hown : w.ownsRow base 5 1 v n xs) (ad : Addr) (c : Nat) : (Builtin.append_ #[22, 22] ty #[v, .slice (some ad) 0 c]).run Tryd.prog w = .ok v w := by
  obtain ⟨i0, hi, hz0, hz1, hz2⟩ := info_parts info_u8
  have hf := run_firstCells_some (P := Tryd.prog) w 1 0 ad 0 c [] rfl (fun j u hj => by simp at hj)
  rcases hown.2 with ⟨rfl, rfl⟩ | ⟨g, cap, cur, rfl, _, _, hnc, _⟩
  · simp [Builtin.append_, run_underlying Tryd.underlying22, sizeOf, typeInfo, hi, hz1, Builtin.lenOf, hf]
  · simp [Builtin.append_, run_underlying Tryd.underlying22, sizeOf, typeInfo, hi, hz1, Builtin.lenOf, hf, hnc, storeCells]

/-- append(own, b...), b any slice of bytes: where the row lies then. -/
theorem append_where {w : World} {ops : Array Oper} {rest : List Oper} {o : Oper} {a : Act} {Q : Exit → Act → World → Prop} (hgd : o.guard = none) (s x : Operand)
    (ho : o.op = .call { callee := .builtin .append, args := #[s, x], argTypes := #[22, 22] })
    (base : Nat) (v : Value) (n : Nat) (xs : List Value) (hs : a.eval s = v) (hown : w.ownsRow base 5 1 v n xs)
    (p : Option Addr) (m c : Nat) (l : List UInt8) (hx : a.eval x = .slice p m c) (hl : l.length = m) (hb : Tail w p c l)
    (hbytes : n + m ≤ 140737488355328) (hbase : base ≤ w.heap.size)
    (h : ∀ v' w', w'.ownsRow base 5 1 v' (n + m) (xs ++ sCells l) → w.grownBy w' v.ownBlock → (∀ k, v'.ownBlock = some k → v.ownBlock = some k ∨ w.heap.size ≤ k) → wpList Tryd.prog ops Q rest (a.put o.dst v') w') : wpList Tryd.prog ops Q (o :: rest) a w := by
  obtain ⟨i0, hi, hz0, hz1, hz2⟩ := info_parts info_u8
  cases p with
  | none =>
    obtain ⟨rfl, rfl⟩ := hb.none
    obtain rfl : m = 0 := hl.symm
    refine wpList_append_own_none hgd s x 22 ho base 5 i0 1 Tryd.underlying22 hi v n xs hs hown hx ?_
    exact h v w (by simpa [sCells] using hown) (World.grownBy.refl w v.ownBlock) (fun k hk => .inl hk)
  | some ad =>
    cases m with
    | zero =>
      obtain rfl : l = [] := List.eq_nil_of_length_eq_zero hl
      refine wpList_plain hgd fun K hK => ?_
      have hr := run_append_zero o.type hown ad c
      unfold Oper.wp execOp
      simp only [ho, resolve, invoke, builtin, Sem.run_bind, Sem.run_pure, Result.andThen_ok, List.map_toArray, List.map_cons, List.map_nil, hs, hx, hr]
      exact hK _ _ (h v w (by simpa [sCells] using hown) (World.grownBy.refl w v.ownBlock) (fun k hk => .inl hk))
    | succ m =>
      refine wpList_append_lies _ hgd s x 22 ho base 5 i0 (.int .u8 0) 1 1 Tryd.underlying22 hi hz0 hz1 hz2 rfl (by decide) v n xs hs hown ad (m + 1) c (sCells l) hx (by rw [sCells_len]; omega) hb.news (sCells_one l) (by omega) (by unfold maxLen; omega) (by omega) hbase w.heap.size rfl ?_
      intro g cap w' h1 h2 h3 _
      refine h _ w' h1 h2 (fun k hk => ?_)
      simp [Value.ownBlock] at hk
      subst hk
      exact h3.imp id (fun e => by omega)
end Go.Proofs.YtdeacankicciaaaDoor
