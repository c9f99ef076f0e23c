/-
  (*request.Reader).Feed; bytes.Clone. (*request.Reader).Feed, whole.
-/
import Derived.Test.YtcikelcecfapcaaDoorReqParse
import Derived.WalkSpells
namespace Go.Proofs.YtcikelcecfapcaaDoor
open Go.RowKit Rp Rq

set_option maxRecDepth 20000 in
set_option maxHeartbeats 400000 in
theorem clone_none (w : World) :
    Calls Tryd.prog 41 #[.slice none 0 0] w fun e w' => e = .returned (.slice none 0 0) ∧ w = w' := by
  have heq : ∀ W, (binOp .eql 22 (.slice none 0 0) (.slice none 0 0)).run Tryd.prog W = .ok (.bool true) W := fun W => Lib.run_eql_slice_nil (P := Tryd.prog) W 22 5 none 0 0 0 0 Tryd.underlying22
  go_enter Tryd.func41, Tryd.ntmps41
  go_wp2
  go_ret
  exact ⟨rfl, rfl⟩

set_option maxRecDepth 20000 in
set_option maxHeartbeats 1000000 in
theorem clone_some (b o c : Nat) (l : List UInt8) (hl : l.length ≤ 1000000000) (w : World) (h : Rest w (some ⟨b, o, none⟩) c l) :
    Calls Tryd.prog 41 #[.slice (some ⟨b, o, none⟩) l.length c] w fun e w' => (∃ v, e = .returned v ∧ w'.ownsRow w.heap.size 5 1 v l.length (sCells l)) ∧ Below w.heap.size w w' := by
  have heq : ∀ W, (binOp .eql 22 (.slice (some ⟨b, o, none⟩) l.length c) (.slice none 0 0)).run Tryd.prog W = .ok (.bool false) W := fun W => Lib.run_eql_slice_nil (P := Tryd.prog) W 22 5 (some ⟨b, o, none⟩) l.length c 0 0 Tryd.underlying22
  have HT := Lib.hid (Tail.below (.inl h) (bA (Below.refl w.heap.size w) (.cells #[] 5)))
  have HOW := Lib.hid (World.ownsRow_made (base := w.heap.size) (e := 5) (size := 1) w #[] 0 (Nat.le_refl _) (by unfold maxLen; omega) rfl)
  clear h
  go_enter Tryd.func41, Tryd.ntmps41
  go_wp2_with (at_builtin; refine append_rest rfl (.tmp 5) (.tmp 6) rfl w.heap.size _ 0 [] rfl HOW.out (some ⟨b, o, none⟩) l.length c l rfl rfl HT.out (by omega) (by simp) ?_)
  intro v w2 hown hgrow hnil
  have hown2 : w2.ownsRow w.heap.size 5 1 v l.length (sCells l) := by simpa using hown
  have HO := Lib.hid hown2
  have HB := Lib.hid ((bA (Below.refl w.heap.size w) (.cells #[] 5)).grown hgrow (by simp) (fun k hk => (HOW.out.lt k hk).1))
  clear hown hown2 hgrow hnil
  go_wp2
  go_ret
  exact ⟨⟨_, rfl, HO.out⟩, HB.out⟩

/-- bytes.Clone. -/
theorem clone_any (p : Option Addr) (c : Nat) (l : List UInt8) (hl : l.length ≤ 1000000000) (w : World) (h : Rest w p c l) :
    Calls Tryd.prog 41 #[.slice p l.length c] w fun e w' => (∃ v, e = .returned v ∧ w'.ownsRow w.heap.size 5 1 v l.length (sCells l)) ∧ Below w.heap.size w w' := by
  rcases h with ⟨rfl, rfl, rfl⟩ | ⟨b, o, rfl, h1, h2, h3⟩
  · refine (clone_none w).mono ?_
    rintro e w' ⟨rfl, rfl⟩
    exact ⟨⟨_, rfl, World.ownsRow_nil _ _ _ _⟩, Below.refl _ _⟩
  · exact clone_some b o c l hl w (.inr ⟨b, o, rfl, h1, h2, h3⟩)

theorem Rest.chg {w w' : World} {p : Option Addr} {c : Nat} {l : List UInt8} (h : Rest w p c l) {ex : Nat → Prop} (hc : Chg ex w w') (hn : ∀ b o, p = some ⟨b, o, none⟩ → ¬ ex b) : Rest w' p c l := by
  rcases h with h | ⟨b, o, hp, h1, h2, h3⟩
  · exact .inl h
  · refine .inr ⟨b, o, hp, h1, h2, fun j hj => ?_⟩
    have hb := World.block_lt_of_cell? w _ (h3 j hj)
    exact (World.cell?_of_block (w := w) (a := ⟨b, o + j, none⟩) (hc.block b hb (hn b o hp))).trans (h3 j hj)

/-- A reader that waits for more. -/
structure Rdr (R : Nat) (s : St) (pv wv : Value) (w : World) : Prop where
  box : Box w R 0 pv s.c wv s.tk
  rest : w.ownsRow (R + 1) 5 1 pv s.l.length (sCells s.l)
  words : w.ownsRow (R + 1) 9 1 wv s.ws.length (wCells s.ws)
  zero : s.c = 0 → s.ws = [] ∧ s.tk = 0 ∧ wv = .slice none 0 0
  few : s.c ≠ 0 → s.ws.length < s.c
  most : s.c ≤ 128
theorem Rdr.chg {R : Nat} {s : St} {pv wv : Value} {w w' : World} (h : Rdr R s pv wv w) {ex : Nat → Prop} (hc : Chg ex w w') (h1 : ¬ ex R) (h2 : ∀ k, pv.ownBlock = some k → ¬ ex k) (h3 : ∀ k, wv.ownBlock = some k → ¬ ex k) : Rdr R s pv wv w' :=
  ⟨hc.box h.box h1, hc.own h.rest h2, hc.own h.words h3, h.zero, h.few, h.most⟩

/-- An argument: a slice of bytes apart from a reader's blocks. -/
structure AB where
  p : Option Addr
  c : Nat
  l : List UInt8
def ArgIn (w : World) (bad : Nat → Prop) (x : AB) : Prop := Rest w x.p x.c x.l ∧ ∀ b o, x.p = some ⟨b, o, none⟩ → ¬ bad b
theorem ArgIn.on {w w' : World} {bad bad' ex : Nat → Prop} {x : AB} (h : ArgIn w bad x) (hc : Chg ex w w') (he : ∀ k, ex k → bad k) (hb : ∀ k, bad' k → bad k) : ArgIn w' bad' x :=
  ⟨h.1.chg hc (fun b o hp e => h.2 b o hp (he b e)), fun b o hp e => h.2 b o hp (hb b e)⟩

/-- What Feed answers. -/
def FeedV (R : Nat) (s0 : St) (pv wv : Value) (w : World) (e : Ending) (w' : World) : Prop :=
  ∃ (xs : List Hc) (cv : Value), w'.ownsRow (R + 1) 50 1 cv xs.length (hCells xs) ∧ (∀ x ∈ xs, Own w' (R + 1) x) ∧ Chg (fun k => k = R ∨ pv.ownBlock = some k ∨ wv.ownBlock = some k) w w' ∧ (∀ k, cv.ownBlock = some k → w.heap.size ≤ k) ∧
    ((∃ s' pv' wv', e = .returned (.tuple #[cv, .int .i64 0]) ∧ Rq.Go s0 (xs.map Hc.ws) (.more s') ∧ Rdr R s' pv' wv' w' ∧ (∀ x ∈ xs, wv'.ownBlock ≠ some x.g) ∧ (∀ k, wv'.ownBlock = some k → wv.ownBlock = some k ∨ w.heap.size ≤ k) ∧ (∀ k, pv'.ownBlock = some k → pv.ownBlock = some k ∨ w.heap.size ≤ k)) ∨
     ∃ x, e = .returned (.tuple #[cv, .int .i64 x]) ∧ Rq.Go s0 (xs.map Hc.ws) (.err x) ∧ Box w' R x (.slice none 0 0) 0 (.slice none 0 0) 0)

/-- What stands at the head of a round of Feed's loop. -/
structure FeedI (R : Nat) (s : St) (pv0 wv : Value) (w : World) (L : List UInt8) (pv : Value) (wr : World) : Prop where
  box : Box wr R 0 pv s.c wv s.tk
  row : wr.ownsRow (R + 1) 5 1 pv L.length (sCells L)
  chg : Chg (fun k => k = R ∨ pv0.ownBlock = some k) w wr
  pnew : ∀ k, pv.ownBlock = some k → pv0.ownBlock = some k ∨ w.heap.size ≤ k

theorem FeedI.start {R : Nat} {s : St} {pv wv : Value} {w : World} (h : Rdr R s pv wv w) : FeedI R s pv wv w s.l pv w := ⟨h.box, h.rest, Chg.refl _ _, fun _ h => .inl h⟩
theorem FeedI.next {R : Nat} {s : St} {pv0 wv : Value} {w : World} {L : List UInt8} {pv : Value} {wr w2 : World} (F : FeedI R s pv0 wv w L pv wr) {b : List UInt8} {pv' : Value} (hlen : L.length + b.length = (L ++ b).length)
    (hown : w2.ownsRow (R + 1) 5 1 pv' (L.length + b.length) (sCells L ++ sCells b)) (hg : wr.grownBy w2 pv.ownBlock) (hn : ∀ k, pv'.ownBlock = some k → pv.ownBlock = some k ∨ wr.heap.size ≤ k) : FeedI R s pv0 wv w (L ++ b) pv' (w2.setCell ⟨R, 1, none⟩ pv') := by
  have hpR : pv.ownBlock ≠ some R := own_ne F.row F.box (by decide)
  have h1 := Chg.grown hg
  have h2 := Chg.setCell w2 ⟨R, 1, none⟩ pv'
  have hb2 : Box w2 R 0 pv s.c wv s.tk := h1.box F.box (fun e => hpR e.symm)
  refine ⟨heap_set hb2 _, h2.own (by rw [← hlen, sCells_append]; exact hown) (fun k hk e => ?_), (F.chg.trans h1 (fun k hk e => ?_)).trans h2 (fun k _ e => .inl e), fun k hk => ?_⟩
  · exact own_ne hown hb2 (by decide) ((show k = R from e) ▸ hk)
  · rcases F.pnew k e.symm with h | h
    · exact .inr h
    · omega
  · rcases hn k hk with h | h
    · exact F.pnew k h
    · exact .inr (Nat.le_trans F.chg.size h)

theorem run_append_zero {w : World} (ty : TypeId) {base : Nat} {v : Value} {n : Nat} {xs : List Value} (hown : w.ownsRow base 5 1 v n xs) (ad : Addr) (c : Nat) : (Builtin.append_ #[22, 22] ty #[v, .slice (some ad) 0 c]).run Tryd.prog w = .ok v w := by
  obtain ⟨i0, hi, hz0, hz1, hz2⟩ := info_parts info_u8
  have hf := run_firstCells_some (P := Tryd.prog) w 1 0 ad 0 c [] rfl (fun j u hj => by simp at hj)
  rcases hown.2 with ⟨rfl, rfl⟩ | ⟨g, cap, cur, rfl, _, _, hnc, _⟩
  · simp [Builtin.append_, run_underlying Tryd.underlying22, sizeOf, typeInfo, hi, hz1, Builtin.lenOf, hf]
  · simp [Builtin.append_, run_underlying Tryd.underlying22, sizeOf, typeInfo, hi, hz1, Builtin.lenOf, hf, hnc, storeCells]

/-- append(own, b...), b any slice of bytes: where the row lies then. -/
theorem append_where {w : World} {ops : Array Oper} {rest : List Oper} {o : Oper} {a : Act} {Q : Exit → Act → World → Prop} (hgd : o.guard = none) (s x : Operand)
    (ho : o.op = .call { callee := .builtin .append, args := #[s, x], argTypes := #[22, 22] })
    (base : Nat) (v : Value) (n : Nat) (xs : List Value) (hs : a.eval s = v) (hown : w.ownsRow base 5 1 v n xs)
    (p : Option Addr) (m c : Nat) (l : List UInt8) (hx : a.eval x = .slice p m c) (hl : l.length = m) (hb : Tail w p c l)
    (hbytes : n + m ≤ 140737488355328) (hbase : base ≤ w.heap.size)
    (h : ∀ v' w', w'.ownsRow base 5 1 v' (n + m) (xs ++ sCells l) → w.grownBy w' v.ownBlock → (∀ k, v'.ownBlock = some k → v.ownBlock = some k ∨ w.heap.size ≤ k) → wpList Tryd.prog ops Q rest (a.put o.dst v') w') : wpList Tryd.prog ops Q (o :: rest) a w := by
  obtain ⟨i0, hi, hz0, hz1, hz2⟩ := info_parts info_u8
  cases p with
  | none =>
    obtain ⟨rfl, rfl⟩ := hb.none
    obtain rfl : m = 0 := hl.symm
    refine wpList_append_own_none hgd s x 22 ho base 5 i0 1 Tryd.underlying22 hi v n xs hs hown hx ?_
    exact h v w (by simpa [sCells] using hown) (World.grownBy.refl w v.ownBlock) (fun k hk => .inl hk)
  | some ad =>
    cases m with
    | zero =>
      obtain rfl : l = [] := List.eq_nil_of_length_eq_zero hl
      refine wpList_plain hgd fun K hK => ?_
      have hr := run_append_zero o.type hown ad c
      unfold Oper.wp execOp
      simp only [ho, resolve, invoke, builtin, Sem.run_bind, Sem.run_pure, Result.andThen_ok, List.map_toArray, List.map_cons, List.map_nil, hs, hx, hr]
      exact hK _ _ (h v w (by simpa [sCells] using hown) (World.grownBy.refl w v.ownBlock) (fun k hk => .inl hk))
    | succ m =>
      refine wpList_append_lies _ hgd s x 22 ho base 5 i0 (.int .u8 0) 1 1 Tryd.underlying22 hi hz0 hz1 hz2 rfl (by decide) v n xs hs hown ad (m + 1) c (sCells l) hx (by rw [sCells_len]; omega) hb.news (sCells_one l) (by omega) (by unfold maxLen; omega) (by omega) hbase w.heap.size rfl ?_
      intro g cap w' h1 h2 h3 _
      refine h _ w' h1 h2 (fun k hk => ?_)
      simp [Value.ownBlock] at hk
      subst hk
      exact h3.imp id (fun e => by omega)
end Go.Proofs.YtcikelcecfapcaaDoor

namespace Go.Proofs.YtcikelcecfapcaaDoor
open Go.RowKit Rp Rq

/-- What has been appended of the arguments. -/
def accA (L : List UInt8) (ys : List AB) (j : Nat) : List UInt8 := L ++ ((ys.take j).map AB.l).flatten
theorem accA_zero (L : List UInt8) (ys : List AB) : accA L ys 0 = L := by simp [accA]
theorem accA_next (L : List UInt8) (ys : List AB) (j : Nat) (h : j < ys.length) : accA L ys (j + 1) = accA L ys j ++ ys[j].l := by
  unfold accA
  rw [List.take_succ_eq_append_getElem h, List.map_append, List.flatten_append]
  simp
theorem accA_le (L : List UInt8) (ys : List AB) (j : Nat) (h : j < ys.length) : (accA L ys j).length + ys[j].l.length ≤ (accA L ys ys.length).length := by
  have h1 : (accA L ys (j + 1)).length ≤ (accA L ys ys.length).length := by
    unfold accA
    have : (ys.take ys.length) = ys.take (j + 1) ++ ys.drop (j + 1) := by rw [List.take_length, List.take_append_drop]
    rw [this, List.map_append, List.flatten_append, List.length_append, List.length_append, List.length_append]
    omega
  rw [accA_next L ys j h, List.length_append] at h1
  exact h1

theorem own_base {w : World} {lo lo' : Nat} {e : TypeId} {sz : Nat} {v : Value} {n : Nat} {xs : List Value} (h : w.ownsRow lo e sz v n xs) (hl : lo' ≤ lo) : w.ownsRow lo' e sz v n xs := by
  refine ⟨h.1, ?_⟩
  rcases h.2 with h0 | ⟨g, cap, cur, hv, hb, rest⟩
  · exact .inl h0
  · exact .inr ⟨g, cap, cur, hv, Nat.le_trans hl hb, rest⟩

/-- The call of parse within Feed. -/
def feedCtx (u wr : World) (R : Nat) (p0 : Option Addr) (c0 : Nat) (L : List UInt8) (wv : Value) (s : St) : Ctx := ⟨u, wr.alloc (.cells #[.slice none 0 0] 41), R, wr.heap.size, p0, c0, L, wv.ownBlock, ⟨s.c, s.ws, s.tk, L⟩⟩

theorem feed_start {u : World} (hE : Errs u) {R : Nat} {s : St} {pv wv : Value} {w : World} (hR : Rdr R s pv wv w) (hu : Below u.heap.size u w) (huR : u.heap.size ≤ R) {L : List UInt8} {p0 : Option Addr} {c0 : Nat} {wr : World} (F : FeedI R s pv wv w L (.slice p0 L.length c0) wr) (hnum : L.length ≤ 100000000) (htk : s.tk ≤ 100000000) :
    (feedCtx u wr R p0 c0 L wv s).Ok ∧ Pst (feedCtx u wr R p0 c0 L wv s) (feedCtx u wr R p0 c0 L wv s).s0 p0 c0 wv (.slice none 0 0) [] (feedCtx u wr R p0 c0 L wv s).w0 := by
  have hbel : Below u.heap.size u wr := F.chg.on hu hu.size (fun k e => by
    rcases e with rfl | e
    · exact huR
    · have := (hR.rest.lt k e).1; omega)
  have hw : wr.ownsRow (R + 1) 9 1 wv s.ws.length (wCells s.ws) := F.chg.own hR.words (fun k hk e => by
    rcases e with e | e
    · exact own_ne hR.words hR.box (by decide) (e ▸ hk)
    · exact own_apart hR.words hR.rest (by decide) k hk e)
  have ha := Chg.below (bA (Below.refl wr.heap.size wr) (.cells #[.slice none 0 0] 41)) (fun _ => False)
  refine ⟨⟨hE, huR, hbel.size⟩, ⟨fun cs t h => h, Sub.refl _ _ _, ⟨ha.box F.box (fun h => h), heap_alloc_new wr _, ha.own hw (fun _ _ h => h), World.ownsRow_nil _ _ _ _, fun x hx => by (cases hx), fun k hk => .inl hk, fun k hk => by simp [Value.ownBlock] at hk, ⟨ha.own F.row (fun _ _ h => h), fun x hx => by (cases hx), Chg.refl _ _, hbel.alloc hbel.size _⟩⟩, hR.zero, hR.few, hR.most, ?_, ?_, .inr ⟨rfl, rfl, rfl⟩⟩⟩
  · show 0 + L.length ≤ _
    omega
  · show s.tk + L.length ≤ _
    omega
theorem feed_chg {u : World} {R : Nat} {s : St} {pv wv : Value} {w : World} {L : List UInt8} {p0 : Option Addr} {c0 : Nat} {wr w1 : World} (F : FeedI R s pv wv w L (.slice p0 L.length c0) wr)
    (h : Chg (fun k => k = (feedCtx u wr R p0 c0 L wv s).R ∨ k = (feedCtx u wr R p0 c0 L wv s).C ∨ (feedCtx u wr R p0 c0 L wv s).wb = some k) (feedCtx u wr R p0 c0 L wv s).w0 w1) : Chg (fun k => k = R ∨ pv.ownBlock = some k ∨ wv.ownBlock = some k) w w1 := by
  have ha := Chg.below (bA (Below.refl wr.heap.size wr) (.cells #[.slice none 0 0] 41)) (fun k => k = R ∨ pv.ownBlock = some k ∨ wv.ownBlock = some k)
  refine ((F.chg.weaken (fun k _ e => e.imp id .inl)).trans ha (fun k _ e => e)).trans h (fun k hk e => ?_)
  rcases e with e | e | e
  · exact .inl e
  · have h1 : k = wr.heap.size := e
    have := F.chg.size
    omega
  · exact .inr (.inr e)

/-- Where Feed's call of parse came to its end for the time being. -/
theorem feed_more {u : World} {R : Nat} {s : St} {pv wv : Value} {w : World} {L : List UInt8} {p0 : Option Addr} {c0 : Nat} {wr w1 w2 : World} (F : FeedI R s pv wv w L (.slice p0 L.length c0) wr) {s1 : St} {p : Option Addr} {c : Nat} {wv1 cv : Value} {xs : List Hc}
    (P : Pst (feedCtx u wr R p0 c0 L wv s) s1 p c wv1 cv xs w1) (hst : Rq.step s1 = .error 11) {pv' : Value} (hch : Chg (fun k => k = R) w1 w2) (hbox : Box w2 R 0 pv' s1.c wv1 s1.tk) (hrest : w2.ownsRow (R + 1) 5 1 pv' s1.l.length (sCells s1.l)) (hnew : ∀ k, pv'.ownBlock = some k → pv.ownBlock = some k ∨ w.heap.size ≤ k) :
    FeedV R ⟨s.c, s.ws, s.tk, L⟩ pv wv w (.returned (.tuple #[cv, .int .i64 0])) w2 := by
  have hb1 : Box w1 R 0 (.slice p s1.l.length c) s1.c wv1 s1.tk := P.parts.box
  have hR : ∀ {lo : Nat} {e : TypeId} {sz : Nat} {v : Value} {n : Nat} {zs : List Value}, w1.ownsRow lo e sz v n zs → e ≠ 69 → w2.ownsRow lo e sz v n zs := fun ho hne => hch.own ho (fun k hk e => own_ne ho hb1 hne ((show k = R from e) ▸ hk))
  have hs0 := F.chg.size
  have hsz : w.heap.size ≤ (feedCtx u wr R p0 c0 L wv s).w0.heap.size := by
    show _ ≤ (wr.alloc _).heap.size
    simp
    omega
  refine ⟨xs, cv, hR P.parts.told (by decide), fun x hx => hR (P.parts.kept.own x hx) (by decide), (feed_chg F P.parts.kept.chg).trans hch (fun k _ e => .inl e), fun k hk => Nat.le_trans hsz (P.parts.cnew k hk), .inl ⟨s1, pv', wv1, rfl, ?_, ⟨hbox, hrest, hR P.parts.words (by decide), P.zero, P.few, P.most⟩, P.parts.apart, fun k hk => ?_, hnew⟩⟩
  · have := P.go _ _ (Rq.Go.stop hst)
    rw [List.append_nil] at this
    exact this
  · rcases P.parts.wnew k hk with h | h
    · exact .inl h
    · exact .inr (Nat.le_trans hsz h)

theorem feed_end {u : World} {R : Nat} {s : St} {pv wv : Value} {w : World} {L : List UInt8} {p0 : Option Addr} {c0 : Nat} {wr w1 w2 : World} (F : FeedI R s pv wv w L (.slice p0 L.length c0) wr) {x : Int} {cv : Value} {xs : List Hc}
    (P : Pend (feedCtx u wr R p0 c0 L wv s) x cv xs w1) (hch : Chg (fun k => k = R) w1 w2) (hbox : Box w2 R x (.slice none 0 0) 0 (.slice none 0 0) 0) :
    FeedV R ⟨s.c, s.ws, s.tk, L⟩ pv wv w (.returned (.tuple #[cv, .int .i64 x])) w2 := by
  obtain ⟨er, pv1, c1, wv1, tk1, ws1, P1⟩ := P.parts
  have hb1 : Box w1 R er pv1 c1 wv1 tk1 := P1.box
  have hR : ∀ {lo : Nat} {e : TypeId} {sz : Nat} {v : Value} {n : Nat} {zs : List Value}, w1.ownsRow lo e sz v n zs → e ≠ 69 → w2.ownsRow lo e sz v n zs := fun ho hne => hch.own ho (fun k hk e => own_ne ho hb1 hne ((show k = R from e) ▸ hk))
  have hs0 := F.chg.size
  have hsz : w.heap.size ≤ (feedCtx u wr R p0 c0 L wv s).w0.heap.size := by
    show _ ≤ (wr.alloc _).heap.size
    simp
    omega
  exact ⟨xs, cv, hR P1.told (by decide), fun x hx => hR (P1.kept.own x hx) (by decide), (feed_chg F P1.kept.chg).trans hch (fun k _ e => .inl e), fun k hk => Nat.le_trans hsz (P1.cnew k hk), .inr ⟨x, rfl, P.go, hbox⟩⟩

/-- A reader stored whole. -/
def set5 (w : World) (b : Nat) (v0 v1 v2 v3 v4 : Value) : World := ((((w.setCell ⟨b, 0, none⟩ v0).setCell ⟨b, 1, none⟩ v1).setCell ⟨b, 2, none⟩ v2).setCell ⟨b, 3, none⟩ v3).setCell ⟨b, 4, none⟩ v4
theorem set5_chg (w : World) (b : Nat) (v0 v1 v2 v3 v4 : Value) : Chg (fun k => k = b) w (set5 w b v0 v1 v2 v3 v4) :=
  ((((Chg.setCell w ⟨b, 0, none⟩ v0).trans (Chg.setCell _ ⟨b, 1, none⟩ v1) (fun _ _ e => e)).trans (Chg.setCell _ ⟨b, 2, none⟩ v2) (fun _ _ e => e)).trans (Chg.setCell _ ⟨b, 3, none⟩ v3) (fun _ _ e => e)).trans (Chg.setCell _ ⟨b, 4, none⟩ v4) (fun _ _ e => e)
theorem set5_box {w : World} {b : Nat} {er : Int} {pv : Value} {c : Int} {wv : Value} {tk : Int} (h : Box w b er pv c wv tk) (er' : Int) (pv' : Value) (c' : Int) (wv' : Value) (tk' : Int) : Box (set5 w b (.int .i64 er') pv' (.int .i64 c') wv' (.int .i64 tk')) b er' pv' c' wv' tk' := heap_set (heap_set (heap_set (heap_set (heap_set h _) _) _) _) _

set_option maxRecDepth 40000 in
set_option maxHeartbeats 8000000 in
theorem feed_any (u : World) (hE : Errs u) (R : Nat) (s : St) (pv wv : Value) (ys : List AB) (G cap : Nat) (w : World) (hR : Rdr R s pv wv w) (hu : Below u.heap.size u w) (huR : u.heap.size ≤ R)
    (has : ∀ j (h : j < ys.length), w.cell? ⟨G, j, none⟩ = some (.slice ys[j].p ys[j].l.length ys[j].c) ∧ ArgIn w (fun k => k = R ∨ pv.ownBlock = some k) ys[j]) (hGR : G ≠ R) (hGp : pv.ownBlock ≠ some G) (hm : ys.length ≤ 100) (hnum : (accA s.l ys ys.length).length ≤ 100000000) (htk : s.tk ≤ 100000000) :
    Calls Tryd.prog 21 #[.pointer (some ⟨R, 0, none⟩), .slice (some ⟨G, 0, none⟩) ys.length cap] w (FeedV R ⟨s.c, s.ws, s.tk, accA s.l ys ys.length⟩ pv wv w) := by
  obtain ⟨z0, z1, z2, z3, z4⟩ := cells5 hR.box
  obtain ⟨m, hmd⟩ : ∃ m, m = ys.length := ⟨_, rfl⟩
  have HFS := Lib.hid (FeedI.start hR)
  have HRD := Lib.hid hR
  have HAS := Lib.hid has
  have HM := Lib.hid hmd
  have HU := Lib.hid hu
  have HE := Lib.hid hE
  rw [← hmd] at hm ⊢
  have HNUM := Lib.hid hnum
  clear hR has hmd hu hE hnum
  go_enter Tryd.func21, Tryd.ntmps21
  go_wp2_with fail
  clear z0 z1 z2 z3 z4
  go_loopw [7, 23] (fun _ i wr => ∃ (j : Nat) (pj : Value), j ≤ m ∧ i = .int .i64 j ∧ Hid (FeedI R s pv wv w (accA s.l ys j) pj wr)) (fun _ i _ => m - (intOf i).toNat)
  case atStart => exact ⟨0, pv, Nat.zero_le _, rfl, by rw [accA_zero]; exact HFS⟩
  case round =>
    obtain ⟨j, pj, hj, rfl, HI⟩ := hrel
    by_cases hjl : j < m
    · have hd1 : decide ((j : Int) < (m : Int)) = true := decide_eq_true (by omega)
      have hja : j < ys.length := by have := HM.out; omega
      obtain ⟨hc, ha⟩ := HAS.out j hja
      have hcj : wr.cell? ⟨G, j, none⟩ = some (.slice ys[j].p ys[j].l.length ys[j].c) := (World.cell?_of_block (w := w) (a := ⟨G, j, none⟩) (HI.out.chg.block G (World.block_lt_of_cell? w _ hc) (fun e => e.elim hGR hGp))).trans hc
      have hT : Tail wr ys[j].p ys[j].c ys[j].l := .inl (ha.1.chg HI.out.chg (fun b o hp => ha.2 b o hp))
      have HT := Lib.hid hT
      have hle := accA_le s.l ys j hja
      have HNX := Lib.hid (accA_next s.l ys j hja)
      have hn9 := HNUM.out
      have hrow := HI.out.row
      obtain ⟨pp, pm, pc, rfl⟩ := row_slice hrow
      obtain ⟨z0, z1, z2, z3, z4⟩ := cells5 HI.out.box
      have hlt := HI.out.box.lt
      have HROW := Lib.hid hrow
      clear hc ha hT hrow
      generalize ys[j].p = ap at *
      generalize ys[j].c = ac at *
      generalize ys[j].l = al at *
      generalize accA s.l ys j = Lj at *
      go_wp2_with (at_builtin; refine append_where rfl (.tmp 31) (.tmp 32) rfl (R + 1) (.slice pp pm pc) Lj.length (sCells Lj) rfl HROW.out ap al.length ac al rfl rfl HT.out (by omega) (by omega) ?_)
      intro v' w2 hown hgrow hlies
      have hb2 : Box w2 R 0 (.slice pp pm pc) s.c wv s.tk := (Chg.grown hgrow).box HI.out.box (fun e => own_ne HROW.out HI.out.box (by decide) e.symm)
      have HIN := Lib.hid (HI.out.next (by rw [List.length_append]) hown hgrow hlies)
      obtain ⟨y0, y1, y2, y3, y4⟩ := cells5 hb2
      have fy := frozen4 hb2
      obtain ⟨va, vm, vc, rfl⟩ := row_slice hown
      clear hown hgrow hlies hb2 z0 z1 z2 z3 z4
      go_wp2_with fail
      go_roundw
      case rel => exact ⟨j + 1, _, by omega, by go_num, by rw [HNX.out]; exact HIN⟩
      case measure => simp [intOf]; omega
    · have hd1 : decide ((j : Int) < (m : Int)) = false := decide_eq_false (by omega)
      obtain rfl : j = m := by omega
      have hHM := HM.out
      have hL9 := HNUM.out
      rw [← hHM] at hL9
      generalize accA s.l ys j = L at *
      obtain ⟨p0, c0, rfl, hrest0⟩ := own_rest HI.out.row
      obtain ⟨Ko, P0⟩ := feed_start HE.out HRD.out HU.out huR HI.out hL9 htk
      have HPAR := Lib.hid (show Calls Tryd.prog 40 #[.pointer (some ⟨R, 0, none⟩), .func (.func 39) #[] #[.pointer (some ⟨wr.heap.size, 0, none⟩)]] (wr.alloc (.cells #[.slice none 0 0] 41)) (ParseV (feedCtx u wr R p0 c0 L wv s)) from rparse_any _ Ko p0 c0 wv (.slice none 0 0) [] _ P0)
      have HKO := Lib.hid Ko
      have hlt := HI.out.box.lt
      have hbA := (Chg.below (bA (Below.refl wr.heap.size wr) (.cells #[.slice none 0 0] 41)) (fun _ => False)).box HI.out.box (fun h => h)
      obtain ⟨z0, z1, z2, z3, z4⟩ := cells5 hbA
      have HHM := Lib.hid hHM
      clear hrest0 Ko P0 hbA hHM hjl hd1
      go_wp2_with fail
      refine HPAR.out.mono ?_
      rintro e w1 hv
      clear z0 z1 z2 z3 z4
      have HLE := Lib.hid hL9
      rcases hv with ⟨s1, p, c, wv1, cv, xs, rfl, P, hst⟩ | ⟨x, cv, xs, rfl, hx, PE⟩
      · have HP := Lib.hid P
        have HST := Lib.hid hst
        have hbox : Box w1 R 0 (.slice p s1.l.length c) s1.c wv1 s1.tk := P.parts.box
        have hvar : w1.heap[wr.heap.size]? = some (.cells #[cv] 41 (0, 0)) := P.parts.var
        have HBOX := Lib.hid hbox
        have HVAR := Lib.hid hvar
        have hle : s1.l.length ≤ L.length := by
          rcases P.whole with h | ⟨_, _, h⟩
          · exact Nat.le_of_lt h
          · have h2 : s1.l = L := h
            rw [h2]
            exact Nat.le_refl _
        obtain ⟨z0, z1, z2, z3, z4⟩ := cells5 hbox
        have y0 := cell1 hvar
        by_cases hlt2 : s1.l.length < L.length
        · have hd2 : decide (s1.l.length < L.length) = true := decide_eq_true hlt2
          have HCL := Lib.hid (clone_any p c s1.l (by omega) w1 (P.sub w1 P.parts.rest))
          clear P hst hbox hvar
          go_wp2_with fail
          refine HCL.out.mono ?_
          rintro e w2 ⟨⟨v, rfl, hown⟩, hb2⟩
          obtain ⟨va, vm, vc, rfl⟩ := row_slice hown
          have HB2 := Lib.hid hb2
          have HOWN := Lib.hid hown
          have hbox2 : Box w2 R 0 (.slice p s1.l.length c) s1.c wv1 s1.tk := HBOX.out.below hb2
          have hvar2 : w2.heap[wr.heap.size]? = some (.cells #[cv] 41 (0, 0)) := (hb2.block _ (Array.getElem?_eq_some_iff.1 HVAR.out).1).trans HVAR.out
          have HBOX2 := Lib.hid hbox2
          clear z0 z1 z2 z3 z4 y0
          obtain ⟨z0, z1, z2, z3, z4⟩ := cells5 hbox2
          have fz := frozen4 hbox2
          have y0 := cell1 hvar2
          have hne : R ≠ wr.heap.size := by omega
          clear hown hb2 hbox2 hvar2
          go_wp2
          go_ret2
          have h1 := (Chg.below HB2.out (fun k => k = R)).trans (Chg.setCell w2 ⟨R, 1, none⟩ (.slice va vm vc)) (fun k _ e => e)
          refine feed_more HI.out HP.out HST.out h1 (heap_set HBOX2.out _) ((Chg.setCell w2 ⟨R, 1, none⟩ (.slice va vm vc)).own (own_base HOWN.out (by have := HBOX.out.lt; omega)) (fun k hk e => ?_)) (fun k hk => .inr ?_)
          · have := (HOWN.out.lt k hk).1
            have h2 := HBOX.out.lt
            have h3 : k = R := e
            omega
          · have := (HOWN.out.lt k hk).1
            have h3 := HI.out.chg.size
            have h4 := HP.out.parts.kept.chg.size
            have h5 : (feedCtx u wr R p0 c0 L wv s).w0.heap.size = wr.heap.size + 1 := by
              show (wr.alloc _).heap.size = _
              simp
            omega
        · have hd2 : decide (s1.l.length < L.length) = false := decide_eq_false hlt2
          clear P hst hbox hvar
          go_wp2
          go_ret2
          have hwh : p = p0 ∧ c = c0 ∧ s1.l = L := by
            rcases HP.out.whole with h | h
            · exact absurd h hlt2
            · exact h
          refine feed_more HI.out HP.out HST.out (Chg.refl _ _) HBOX.out ?_ (fun k hk => ?_)
          · obtain ⟨h1, h2, h3⟩ := hwh
            rw [h1, h2, h3]
            exact HP.out.parts.kept.rest
          · refine HI.out.pnew k ?_
            rw [hwh.1] at hk
            have he : (Value.slice p0 s1.l.length c).ownBlock = (Value.slice p0 L.length c0).ownBlock := by cases p0 <;> rfl
            rw [← he]
            exact hk
      · obtain ⟨er, pv1, c1, wv1, tk1, ws1, P1⟩ := PE.parts
        have hbox : Box w1 R er pv1 c1 wv1 tk1 := P1.box
        have hvar : w1.heap[wr.heap.size]? = some (.cells #[cv] 41 (0, 0)) := P1.var
        have HBOX := Lib.hid hbox
        have HPE := Lib.hid PE
        obtain ⟨z0, z1, z2, z3, z4⟩ := cells5 hbox
        have fz := frozen4 hbox
        have y0 := cell1 hvar
        have hxb : (x != 11) = true := by rw [bne_iff_ne]; exact hx
        have hne : R ≠ wr.heap.size := by omega
        clear P1 PE hbox hvar
        go_wp2
        go_ret2
        exact feed_end HI.out HPE.out (set5_chg w1 R (.int .i64 x) (.slice none 0 0) (.int .i64 0) (.slice none 0 0) (.int .i64 0)) (set5_box HBOX.out x (.slice none 0 0) 0 (.slice none 0 0) 0)
end Go.Proofs.YtcikelcecfapcaaDoor
