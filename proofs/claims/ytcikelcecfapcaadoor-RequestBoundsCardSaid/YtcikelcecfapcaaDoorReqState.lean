/-
  What holds of a reader's memory while it parses, and what each step does to it.
-/
import Derived.Test.YtcikelcecfapcaaDoorReqBegin
import Derived.Test.YtcikelcecfapcaaDoorRespJoin
namespace Go.Proofs.YtcikelcecfapcaaDoor
open Go.RowKit Rp Rq

/-- A call of parse: the statement's world, the call's world, the reader's block, the commands' variable, the whole rest, the words' block, where the reader stood. -/
structure Ctx where
  u : World
  w0 : World
  R : Nat
  C : Nat
  p0 : Option Addr
  c0 : Nat
  l0 : List UInt8
  wb : Option Nat
  s0 : St
structure Ctx.Ok (K : Ctx) : Prop where
  errs : Errs K.u
  uR : K.u.heap.size ≤ K.R
  uC : K.u.heap.size ≤ K.C

/-- What no step touches. -/
structure Kept (K : Ctx) (xs : List Hc) (w : World) : Prop where
  rest : w.ownsRow (K.R + 1) 5 1 (.slice K.p0 K.l0.length K.c0) K.l0.length (sCells K.l0)
  own : ∀ x ∈ xs, Own w (K.R + 1) x
  chg : Chg (fun k => k = K.R ∨ k = K.C ∨ K.wb = some k) K.w0 w
  below : Below K.u.heap.size K.u w
/-- What every step rewrites. -/
structure Parts (K : Ctx) (er : Int) (pv : Value) (c : Int) (wv : Value) (tk : Int) (ws : List Wd) (cv : Value) (xs : List Hc) (w : World) : Prop where
  box : Box w K.R er pv c wv tk
  var : w.heap[K.C]? = some (.cells #[cv] 41 (0, 0))
  words : w.ownsRow (K.R + 1) 9 1 wv ws.length (wCells ws)
  told : w.ownsRow (K.R + 1) 50 1 cv xs.length (hCells xs)
  apart : ∀ x ∈ xs, wv.ownBlock ≠ some x.g
  wnew : ∀ k, wv.ownBlock = some k → K.wb = some k ∨ K.w0.heap.size ≤ k
  cnew : ∀ k, cv.ownBlock = some k → K.w0.heap.size ≤ k
  kept : Kept K xs w
structure Pst (K : Ctx) (s : St) (p : Option Addr) (c : Nat) (wv cv : Value) (xs : List Hc) (w : World) : Prop where
  go : ∀ cs t, Rq.Go s cs t → Rq.Go K.s0 (xs.map Hc.ws ++ cs) t
  sub : Sub K.p0 K.c0 K.l0 p c s.l
  parts : Parts K 0 (.slice p s.l.length c) s.c wv s.tk s.ws cv xs w
  zero : s.c = 0 → s.ws = [] ∧ s.tk = 0 ∧ wv = .slice none 0 0
  few : s.c ≠ 0 → s.ws.length < s.c
  most : s.c ≤ 128
  num : xs.length + s.l.length ≤ 100000000
  tks : s.tk + s.l.length ≤ 1000000000
  whole : s.l.length < K.l0.length ∨ (p = K.p0 ∧ c = K.c0 ∧ s.l = K.l0)
theorem Pst.less {K : Ctx} {s : St} {p : Option Addr} {c : Nat} {wv cv : Value} {xs : List Hc} {w : World} (P : Pst K s p c wv cv xs w) {n : Nat} (h : n + 2 ≤ s.l.length) : n < K.l0.length := by
  rcases P.whole with h1 | ⟨_, _, h1⟩
  · omega
  · rw [h1] at h; omega

theorem Own.block {w : World} {lo : Nat} {x : Hc} (h : Own w lo x) : ∃ cur, w.heap[x.g]? = some (.cells cur 9 (0, 0)) := own_type h rfl

theorem Parts.rest {K : Ctx} {er : Int} {pv : Value} {c : Int} {wv : Value} {tk : Int} {ws : List Wd} {cv : Value} {xs : List Hc} {w : World} (P : Parts K er pv c wv tk ws cv xs w) : Rest w K.p0 K.c0 K.l0 := by
  obtain ⟨q, d, he, h⟩ := own_rest P.kept.rest
  simp only [Value.slice.injEq, true_and] at he
  obtain ⟨rfl, rfl⟩ := he
  exact h
theorem Parts.ne {K : Ctx} {er : Int} {pv : Value} {c : Int} {wv : Value} {tk : Int} {ws : List Wd} {cv : Value} {xs : List Hc} {w : World} (P : Parts K er pv c wv tk ws cv xs w) : K.R ≠ K.C := box_ne P.box P.var (by decide)

theorem Parts.keep {K : Ctx} (Ko : K.Ok) {er : Int} {pv : Value} {c : Int} {wv : Value} {tk : Int} {ws : List Wd} {cv : Value} {xs : List Hc} {w w' : World} (P : Parts K er pv c wv tk ws cv xs w) {ex : Nat → Prop} (hch : Chg ex w w')
    (he : ∀ k, ex k → k = K.R ∨ k = K.C ∨ wv.ownBlock = some k ∨ cv.ownBlock = some k) : Kept K xs w' := by
  refine ⟨hch.own P.kept.rest (fun k hk e => ?_), fun x hx => hch.own (P.kept.own x hx) (fun k hk e => ?_), P.kept.chg.trans hch (fun k hk e => ?_), hch.on P.kept.below P.kept.below.size (fun k e => ?_)⟩
  · rcases he k e with rfl | rfl | h | h
    · exact own_ne P.kept.rest P.box (by decide) hk
    · exact own_ne P.kept.rest P.var (by decide) hk
    · exact own_apart P.kept.rest P.words (by decide) k hk h
    · exact own_apart P.kept.rest P.told (by decide) k hk h
  · have hg : k = x.g := by simp [Hc.val, Value.ownBlock] at hk; exact hk.symm
    subst hg
    rcases he _ e with h | h | h | h
    · exact own_ne (P.kept.own x hx) (show w.heap[x.g]? = _ from h ▸ P.box) (by decide) hk
    · exact own_ne (P.kept.own x hx) (show w.heap[x.g]? = _ from h ▸ P.var) (by decide) hk
    · exact P.apart x hx h
    · exact own_apart (P.kept.own x hx) P.told (by decide) _ hk h
  · rcases he k e with h | h | h | h
    · exact .inl h
    · exact .inr (.inl h)
    · rcases P.wnew k h with h1 | h1
      · exact .inr (.inr h1)
      · omega
    · have := P.cnew k h
      omega
  · rcases he k e with rfl | rfl | h | h
    · exact Ko.uR
    · exact Ko.uC
    · have := (P.words.lt k h).1; have := Ko.uR; omega
    · have := (P.told.lt k h).1; have := Ko.uR; omega

/-- A step that stores in the reader's block alone. -/
theorem Parts.stored {K : Ctx} (Ko : K.Ok) {er er' : Int} {pv pv' : Value} {c c' : Int} {wv : Value} {tk tk' : Int} {ws : List Wd} {cv : Value} {xs : List Hc} {w w' : World} (P : Parts K er pv c wv tk ws cv xs w) (hch : Chg (fun k => k = K.R) w w')
    (hb : Box w' K.R er' pv' c' wv tk') : Parts K er' pv' c' wv tk' ws cv xs w' :=
  ⟨hb, hch.box P.var (fun e => P.ne e.symm), hch.own P.words (fun k hk e => own_ne P.words P.box (by decide) (e ▸ hk)), hch.own P.told (fun k hk e => own_ne P.told P.box (by decide) (e ▸ hk)), P.apart, P.wnew, P.cnew, P.keep Ko hch (fun k e => .inl e)⟩
theorem step_zero {s : St} (h : s.c = 0) : Rq.step s = lineStep s.l := by unfold Rq.step; rw [if_pos h]
theorem step_word {s : St} (h : s.c ≠ 0) : Rq.step s = wordStep s := by unfold Rq.step; rw [if_neg h]
theorem Pst.new {K : Ctx} {s : St} {p : Option Addr} {c : Nat} {wv cv : Value} {xs : List Hc} {w : World} (P : Pst K s p c wv cv xs w) (hc : s.c = 0) : s = St.new s.l ∧ wv = .slice none 0 0 := by
  obtain ⟨h1, h2, h3⟩ := P.zero hc
  refine ⟨?_, h3⟩
  obtain ⟨c, ws, tk, l⟩ := s
  simp only at hc h1 h2
  subst hc h1 h2
  rfl

/-- A step that tells nothing. -/
theorem Pst.quiet {K : Ctx} (Ko : K.Ok) {s s' : St} {p q : Option Addr} {c d : Nat} {wv cv : Value} {xs : List Hc} {w w' : World} (P : Pst K s p c wv cv xs w) (hs : Rq.step s = .ok (s', [])) (hch : Chg (fun k => k = K.R) w w')
    (hb : Box w' K.R 0 (.slice q s'.l.length d) s'.c wv s'.tk) (hw : s'.ws = s.ws) (hsub : Sub p c s.l q d s'.l) (hz : s'.c = 0 → s'.ws = [] ∧ s'.tk = 0 ∧ wv = .slice none 0 0) (hf : s'.c ≠ 0 → s'.ws.length < s'.c) (hm : s'.c ≤ 128) (htk : s'.tk + s'.l.length ≤ 1000000000) : Pst K s' q d wv cv xs w' := by
  have hlen := step_len hs
  refine ⟨fun cs t h => P.go cs t ?_, P.sub.trans hsub, ?_, hz, hf, hm, by have := P.num; omega, htk, .inl (P.less hlen)⟩
  · have := Rq.Go.next hs h
    exact this
  · rw [hw]
    exact P.parts.stored Ko hch hb

/-- A step that tells a command. -/
theorem Pst.tell {K : Ctx} (Ko : K.Ok) {s s' : St} {p q : Option Addr} {c d : Nat} {wv cv cv' : Value} {xs : List Hc} {x : Hc} {w w' : World} (P : Pst K s p c wv cv xs w) (hs : Rq.step s = .ok (s', [x.ws])) (hn : s' = St.new s'.l) {ex : Nat → Prop} (hch : Chg ex w w')
    (he : ∀ k, ex k → k = K.R ∨ k = K.C ∨ wv.ownBlock = some k ∨ cv.ownBlock = some k) (hb : Box w' K.R 0 (.slice q s'.l.length d) 0 (.slice none 0 0) 0) (hsub : Sub p c s.l q d s'.l) (hvar : w'.heap[K.C]? = some (.cells #[cv'] 41 (0, 0)))
    (htold : w'.ownsRow (K.R + 1) 50 1 cv' (xs ++ [x]).length (hCells (xs ++ [x]))) (hg : ∀ k, cv'.ownBlock = some k → K.w0.heap.size ≤ k) (hxo : Own w' (K.R + 1) x) : Pst K s' q d (.slice none 0 0) cv' (xs ++ [x]) w' := by
  have hlen := step_len hs
  have hk := P.parts.keep Ko hch he
  have h0 : s'.c = 0 ∧ s'.ws = [] ∧ s'.tk = 0 := by rw [hn]; exact ⟨rfl, rfl, rfl⟩
  refine ⟨fun cs t h => ?_, P.sub.trans hsub, ⟨?_, hvar, ?_, htold, fun y _ => by simp [Value.ownBlock], fun k hk => by simp [Value.ownBlock] at hk, hg, ⟨hk.rest, fun y hy => ?_, hk.chg, hk.below⟩⟩, fun _ => ⟨h0.2.1, h0.2.2, rfl⟩, fun h => absurd h0.1 h, by rw [h0.1]; omega, ?_, ?_, .inl (P.less hlen)⟩
  · have := P.go _ _ (Rq.Go.next hs h)
    rw [List.map_append, List.append_assoc]
    exact this
  · rw [h0.1, h0.2.2]
    exact hb
  · rw [h0.2.1]
    exact World.ownsRow_nil _ _ _ _
  · rcases List.mem_append.1 hy with hy | hy
    · exact hk.own y hy
    · obtain rfl : y = x := by simpa using hy
      exact hxo
  · have := P.num
    rw [List.length_append]
    simp only [List.length_cons, List.length_nil]
    omega
  · have := P.num
    rw [h0.2.2]
    omega

/-- Where parse has stopped at an error. -/
structure Pend (K : Ctx) (x : Int) (cv : Value) (xs : List Hc) (w : World) : Prop where
  go : Rq.Go K.s0 (xs.map Hc.ws) (.err x)
  parts : ∃ er pv c wv tk ws, Parts K er pv c wv tk ws cv xs w
/-- What parse answers. -/
def ParseV (K : Ctx) (e : Ending) (w : World) : Prop :=
  (∃ s p c wv cv xs, e = .returned (.int .i64 11) ∧ Pst K s p c wv cv xs w ∧ Rq.step s = .error 11) ∨ ∃ x cv xs, e = .returned (.int .i64 x) ∧ x ≠ 11 ∧ Pend K x cv xs w

theorem Pst.fail {K : Ctx} (Ko : K.Ok) {s : St} {p : Option Addr} {c : Nat} {wv cv : Value} {xs : List Hc} {w w' : World} (P : Pst K s p c wv cv xs w) {x : Int} (hs : Rq.step s = .error x) (hx : x ≠ 11) (hch : Chg (fun k => k = K.R) w w') {er : Int} {pv : Value} {c' tk : Int} (hb : Box w' K.R er pv c' wv tk) : ParseV K (.returned (.int .i64 x)) w' := by
  refine .inr ⟨x, cv, xs, rfl, hx, ?_, ⟨_, _, _, _, _, _, P.parts.stored Ko hch hb⟩⟩
  have := P.go _ _ (Rq.Go.stop hs)
  rw [List.append_nil] at this
  unfold stopOf at this
  rw [if_neg hx] at this
  exact this
theorem Pst.halt {K : Ctx} (Ko : K.Ok) {s : St} {p : Option Addr} {c : Nat} {wv cv : Value} {xs : List Hc} {w w' : World} (P : Pst K s p c wv cv xs w) {x : Int} (hs : Rq.step s = .error x) (hb : Below w.heap.size w w') : ParseV K (.returned (.int .i64 x)) w' := by
  have hch := Chg.below hb (fun k => k = K.R)
  have hbox := P.parts.box.below hb
  by_cases hx : x = 11
  · subst hx
    exact .inl ⟨s, p, c, wv, cv, xs, rfl, ⟨P.go, P.sub, P.parts.stored Ko hch hbox, P.zero, P.few, P.most, P.num, P.tks, P.whole⟩, hs⟩
  · exact P.fail Ko hs hx hch hbox

/-- What begin answers. -/
def BeginV (K : Ctx) (n : Nat) (e : Ending) (w : World) : Prop :=
  (∃ x : Int, e = .returned (.int .i64 x) ∧ (x != 0) = true ∧ ParseV K (.returned (.int .i64 x)) w) ∨ ∃ s p c wv cv xs, e = .returned (.int .i64 0) ∧ s.l.length + 2 ≤ n ∧ Pst K s p c wv cv xs w

theorem head_42 {t : List UInt8} (h : t.head? = some 42) : t = 42 :: t.tail := by
  cases t with
  | nil => simp at h
  | cons x t => simp at h; subst h; rfl

/-- begin, wherever a reader stands at no array. -/
theorem begin_any (K : Ctx) (Ko : K.Ok) (s : St) (p : Option Addr) (c : Nat) (wv cv : Value) (xs : List Hc) (w : World) (P : Pst K s p c wv cv xs w) (hc : s.c = 0) :
    Calls Tryd.prog 61 #[.pointer (some ⟨K.R, 0, none⟩), .func (.func 39) #[] #[.pointer (some ⟨K.C, 0, none⟩)]] w (BeginV K s.l.length) := by
  obtain ⟨hnew, rfl⟩ := P.new hc
  have hst := step_zero hc
  have hrest : Rest w p c s.l := P.sub w P.parts.rest
  have hl : s.l.length ≤ 1000000000 := by have := P.num; omega
  have hL := Ko.errs.on P.parts.kept.below
  have hB : Box w K.R 0 (.slice p s.l.length c) 0 (.slice none 0 0) 0 := by
    have := P.parts.box
    rw [hnew] at this
    exact this
  cases hq : lineQ s.l with
  | error x =>
    have hs : Rq.step s = .error x := by rw [hst, lineStep, hq]
    exact (begin_line K.R s.l x hq p c _ w hB hrest).mono fun e w' ⟨he, hb⟩ => .inl ⟨x, he, lineQ_errne hq, P.halt Ko hs hb⟩
  | ok z =>
    obtain ⟨t, r⟩ := z
    by_cases ht : t.head? = some 42
    · have htt := head_42 ht
      have hq2 := hq
      rw [htt] at hq2
      cases hn : numQ t.tail 1 128 with
      | error x =>
        have hs : Rq.step s = .error x := by rw [hst, lineStep, hq]; simp only; rw [if_pos ht, hn]
        refine (begin_array K.R s.l t.tail r hq2 hl 0 x (by rw [hn]; rfl) p c _ w hL hB hrest).mono fun e w' ⟨he, q, d, hb, hsub, hch⟩ => .inl ⟨x, he, numQ_errne hn, P.fail Ko hs ?_ hch hb⟩
        rcases numQ_err hn with rfl | rfl <;> decide
      | ok n =>
        obtain ⟨N, rfl⟩ := Int.eq_ofNat_of_zero_le (show (0 : Int) ≤ n by have := (numQ_ok hn).1; omega)
        have hN := numQ_ok hn
        have hlen := lineQ_len hq
        have hs : Rq.step s = .ok (⟨N, [], s.l.length - r.length, r⟩, []) := by rw [hst, lineStep, hq]; simp only; rw [if_pos ht, hn]; rfl
        refine (begin_array K.R s.l t.tail r hq2 hl N 0 (by rw [hn]; rfl) p c _ w hL hB hrest).mono fun e w' ⟨he, q, d, hb, hsub, hch⟩ => .inr ⟨_, q, d, _, cv, xs, he, by show r.length + 2 ≤ _; omega, P.quiet Ko hs hch hb (by rw [hnew]; rfl) hsub (fun h => ?_) (fun _ => ?_) ?_ ?_⟩
        · have : N = 0 := h
          omega
        · show 0 < N
          omega
        · show N ≤ 128
          omega
        · show s.l.length - r.length + r.length ≤ _
          omega
    · by_cases hm : 128 < (fieldsQ t []).length
      · have hs : Rq.step s = .error 12 := by rw [hst, lineStep, hq]; simp only; rw [if_neg ht, if_pos hm]
        exact (begin_many K.R s.l t r hq hl ht hm p c _ w hB hrest).mono fun e w' ⟨he, hb⟩ => .inl ⟨12, he, rfl, P.halt Ko hs hb⟩
      · by_cases hf : fieldsQ t [] = []
        · have hlen := lineQ_len hq
          have hs : Rq.step s = .ok (St.new r, []) := by rw [hst, lineStep, hq]; simp only; rw [if_neg ht, if_neg hm, if_pos hf]
          exact (begin_none K.R s.l t r hq hl ht hf p c _ w hB hrest).mono fun e w' ⟨he, q, d, hb, hsub, hch⟩ => .inr ⟨_, q, d, _, cv, xs, he, by show r.length + 2 ≤ _; omega, P.quiet Ko hs hch hb (by rw [hnew]; rfl) hsub (fun _ => ⟨rfl, rfl, rfl⟩) (fun h => absurd rfl h) (by show 0 ≤ 128; omega) (by show 0 + r.length ≤ _; omega)⟩
        · have hlen := lineQ_len hq
          have hs : Rq.step s = .ok (St.new r, [fieldsQ t []]) := by rw [hst, lineStep, hq]; simp only; rw [if_neg ht, if_neg hm, if_neg hf]
          refine (begin_told K.R s.l t r hq hl ht hf (by omega) p c K.C (K.R + 1) xs cv w hB hrest P.parts.var P.parts.told (Nat.succ_le_of_lt P.parts.box.lt) (by have := P.num; omega)).mono ?_
          rintro e w' ⟨x, hxw, hxg, hxo, he, ⟨q, d, hb, hsub⟩, g, cap, hvar, htold, hch, hg⟩
          rw [← hxw] at hs
          have hlen1 : (xs ++ [x]).length = xs.length + 1 := by simp
          refine .inr ⟨_, q, d, _, _, xs ++ [x], he, by show r.length + 2 ≤ _; omega, P.tell Ko hs rfl hch (fun k h => ?_) hb hsub hvar (by rw [hlen1]; exact htold) (fun k hk => ?_) hxo⟩
          · rcases h with h | h | h
            · exact .inl h
            · exact .inr (.inl h)
            · exact .inr (.inr (.inr h))
          · simp [Value.ownBlock] at hk
            subst hk
            rcases hg with h | h
            · exact P.parts.cnew _ h
            · exact Nat.le_trans P.parts.kept.chg.size h
end Go.Proofs.YtcikelcecfapcaaDoor
