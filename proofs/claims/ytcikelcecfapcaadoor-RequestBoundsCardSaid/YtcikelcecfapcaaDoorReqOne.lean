/-
  What holds while an input is fed in pieces. A reader that is new is fed one slice of bytes.
-/
import Derived.Test.YtcikelcecfapcaaDoorReqAwake
import Derived.Test.YtcikelcecfapcaaDoorRespJoin
namespace Go.Proofs.YtcikelcecfapcaaDoor
open Go.RowKit Rp Rq

/-! ### Plain -/
theorem step_few {s s' : St} {o : List (List Wd)} (h : Rq.step s = .ok (s', o)) : o.length ≤ 1 := by
  unfold Rq.step at h
  split at h
  · unfold lineStep at h
    split at h
    · cases h
    · split at h
      · split at h
        · cases h
        · cases h; simp
      · split at h
        · cases h
        · cases h; split <;> simp
  · unfold wordStep at h
    split at h
    · cases h
    · split at h <;> (cases h; simp)
theorem go_few {s : St} {cs : List (List Wd)} {t : Stop} (h : Rq.Go s cs t) : 2 * cs.length ≤ s.l.length := by
  induction h with
  | stop h => simp
  | next h _ ih =>
    have := step_few h
    have := step_len h
    rw [List.length_append]
    omega
theorem step_keep {s s' : St} {o : List (List Wd)} (h : Rq.step s = .ok (s', o)) : s'.tk + s'.l.length ≤ s.tk + s.l.length := by
  unfold Rq.step at h
  split at h
  · unfold lineStep at h
    split at h
    · cases h
    · rename_i t r hl
      have := lineQ_len hl
      split at h
      · split at h
        · cases h
        · cases h; show s.l.length - r.length + r.length ≤ _; omega
      · split at h
        · cases h
        · cases h; show 0 + r.length ≤ _; omega
  · unfold wordStep at h
    split at h
    · cases h
    · rename_i w r hw
      have := wordQ_len hw
      split at h
      · cases h; show 0 + r.length ≤ _; omega
      · cases h; show s.tk + (s.l.length - r.length) + r.length ≤ _; omega
theorem go_keep {s : St} {cs : List (List Wd)} {t : Stop} (h : Rq.Go s cs t) : ∀ s', t = .more s' → s'.tk + s'.l.length ≤ s.tk + s.l.length := by
  induction h with
  | stop h =>
    intro s' hs
    unfold stopOf at hs
    split at hs
    · cases hs; exact Nat.le_refl _
    · cases hs
  | next h _ ih =>
    intro s' hs
    exact Nat.le_trans (ih s' hs) (step_keep h)

/-! ### In memory -/
theorem own_len {w : World} {lo : Nat} {x : Hc} (h : Own w lo x) : x.ws.length ≤ 9223372036854775807 := by
  rcases h.2 with ⟨hv, _⟩ | ⟨g, cap, cur, hv, _, _, hn, hm, _⟩
  · cases hv
  · unfold maxLen at hm
    omega

/-- The commands told so far. -/
structure FeR (w : World) (R : Nat) (xs : List Hc) (v : Value) (wr : World) : Prop where
  row : wr.ownsRow (R + 1) 50 1 v xs.length (hCells xs)
  own : ∀ x ∈ xs, Own wr (R + 1) x
  below : Below w.heap.size w wr
theorem FeR.on {w : World} {R : Nat} {xs : List Hc} {v : Value} {wr w2 : World} (H : FeR w R xs v wr) (hb : Below wr.heap.size wr w2) : FeR w R xs v w2 :=
  ⟨(Chg.below hb (fun _ => False)).own H.row (fun _ _ e => e), fun x hx => (H.own x hx).on hb, bT H.below hb⟩
theorem Rdr.on {R : Nat} {s : St} {pv wv : Value} {w w2 : World} (H : Rdr R s pv wv w) (hb : Below w.heap.size w w2) : Rdr R s pv wv w2 :=
  H.chg (Chg.below hb (fun _ => False)) (fun e => e) (fun _ _ e => e) (fun _ _ e => e)
theorem FeR.feed {w : World} {R : Nat} {xs : List Hc} {v : Value} {w3 w4 : World} (H : FeR w R xs v w3) {s : St} {pv wv : Value} (hR : Rdr R s pv wv w3) (hwR : w.heap.size ≤ R) (ha : ∀ x ∈ xs, wv.ownBlock ≠ some x.g) (hc : Chg (fun k => k = R ∨ pv.ownBlock = some k ∨ wv.ownBlock = some k) w3 w4) : FeR w R xs v w4 := by
  refine ⟨hc.own H.row (fun k hk e => ?_), fun x hx => hc.own (H.own x hx) (fun k hk e => ?_), hc.on H.below H.below.size (fun k e => ?_)⟩
  · rcases e with rfl | e | e
    · exact own_ne H.row hR.box (by decide) hk
    · exact own_apart H.row hR.rest (by decide) k hk e
    · exact own_apart H.row hR.words (by decide) k hk e
  · rcases e with rfl | e | e
    · exact own_ne (H.own x hx) hR.box (by decide) hk
    · exact own_apart (H.own x hx) hR.rest (by decide) k hk e
    · have h1 : x.g = k := by simpa [Hc.val, Value.ownBlock] using hk
      exact ha x hx (h1 ▸ e)
  · rcases e with rfl | e | e
    · exact hwR
    · have := (hR.rest.lt k e).1; omega
    · have := (hR.words.lt k e).1; omega
theorem FeR.push {w : World} {R : Nat} {xs ys : List Hc} {v v2 : Value} {w4 w5 : World} (H : FeR w R xs v w4) (hwR : w.heap.size ≤ R) (hy : ∀ y ∈ ys, Own w4 (R + 1) y) (hown : w5.ownsRow (R + 1) 50 1 v2 (xs.length + ys.length) (hCells xs ++ hCells ys)) (hg : w4.grownBy w5 v.ownBlock) : FeR w R (xs ++ ys) v2 w5 := by
  have hc := Chg.grown hg
  have hk : ∀ y : Hc, Own w4 (R + 1) y → Own w5 (R + 1) y := fun y h => hc.own h (fun k hk e => own_apart h H.row (by decide) k hk e.symm)
  refine ⟨?_, fun x hx => ?_, hc.on H.below H.below.size (fun k e => ?_)⟩
  · rw [List.length_append]
    simpa [hCells] using hown
  · rcases List.mem_append.1 hx with h | h
    · exact hk x (H.own x h)
    · exact hk x (hy x h)
  · have := (H.row.lt k e.symm).1; omega
theorem FeR.is {w : World} {R : Nat} {xs : List Hc} {v : Value} {wr : World} (H : FeR w R xs v wr) : IsC wr v (xs.map Hc.ws) := told_is H.row H.own

theorem run_append_zeroC {w : World} (ty : TypeId) {base : Nat} {v : Value} {n : Nat} {xs : List Value} (hown : w.ownsRow base 50 1 v n xs) (ad : Addr) (c : Nat) : (Builtin.append_ #[41, 41] ty #[v, .slice (some ad) 0 c]).run Tryd.prog w = .ok v w := by
  obtain ⟨i0, hi, hz0, hz1, hz2⟩ := info_parts info_row
  have hf := run_firstCells_some (P := Tryd.prog) w 1 0 ad 0 c [] rfl (fun j u hj => by simp at hj)
  rcases hown.2 with ⟨rfl, rfl⟩ | ⟨g, cap, cur, rfl, _, _, hnc, _⟩
  · simp [Builtin.append_, run_underlying Tryd.underlying41, sizeOf, typeInfo, hi, hz1, Builtin.lenOf, hf]
  · simp [Builtin.append_, run_underlying Tryd.underlying41, sizeOf, typeInfo, hi, hz1, Builtin.lenOf, hf, hnc, storeCells]

/-- append(all, l...) of rows of commands. -/
theorem append_cmds {w : World} {ops : Array Oper} {rest : List Oper} {o : Oper} {a : Act} {Q : Exit → Act → World → Prop} (hgd : o.guard = none) (s x : Operand)
    (ho : o.op = .call { callee := .builtin .append, args := #[s, x], argTypes := #[41, 41] })
    (base : Nat) (v : Value) (n : Nat) (xs : List Value) (hs : a.eval s = v) (hown : w.ownsRow base 50 1 v n xs)
    (base2 : Nat) (v2 : Value) (ys : List Hc) (hx : a.eval x = v2) (hown2 : w.ownsRow base2 50 1 v2 ys.length (hCells ys))
    (hbytes : n + ys.length ≤ 1000000000) (hbase : base ≤ w.heap.size)
    (h : ∀ v' w', w'.ownsRow base 50 1 v' (n + ys.length) (xs ++ hCells ys) → w.grownBy w' v.ownBlock → wpList Tryd.prog ops Q rest (a.put o.dst v') w') : wpList Tryd.prog ops Q (o :: rest) a w := by
  obtain ⟨i0, hi, hz0, hz1, hz2⟩ := info_parts info_row
  rcases hown2.2 with ⟨rfl, h0⟩ | ⟨g, cap, cur, rfl, _, _, hnc, hm, _⟩
  · obtain rfl : ys = [] := List.eq_nil_of_length_eq_zero h0
    refine wpList_append_own_none hgd s x 41 ho base 50 i0 1 Tryd.underlying41 hi v n xs hs hown hx ?_
    exact h v w (by simpa [hCells] using hown) (World.grownBy.refl w v.ownBlock)
  · by_cases hz : ys = []
    · subst hz
      refine wpList_plain hgd fun K hK => ?_
      have hr := run_append_zeroC o.type hown ⟨g, 0, none⟩ cap
      unfold Oper.wp execOp
      simp only [ho, resolve, invoke, builtin, Sem.run_bind, Sem.run_pure, Result.andThen_ok, List.map_toArray, List.map_cons, List.map_nil, hs, hx, List.length_nil, hr]
      exact hK _ _ (h v w (by simpa [hCells] using hown) (World.grownBy.refl w v.ownBlock))
    · have hpos : 0 < ys.length := List.length_pos_iff.2 hz
      refine wpList_append_lies _ hgd s x 41 ho base 50 i0 (.slice none 0 0) 1 24 Tryd.underlying41 hi hz0 hz1 hz2 rfl (by decide) v n xs hs hown ⟨g, 0, none⟩ ys.length cap (hCells ys) hx (by rw [hCells_len]; omega) ?_ ?_ hpos (by unfold maxLen; omega) (by omega) hbase w.heap.size rfl ?_
      · intro j u hj
        have hjl : j < ys.length := by
          have := (List.getElem?_eq_some_iff.1 hj).1
          rwa [hCells_len] at this
        rw [Lib.add_plain, Nat.zero_add, hown2.cellAt j (by omega), hj]
      · intro u hu
        obtain ⟨y, _, rfl⟩ := List.mem_map.1 hu
        rfl
      · intro g' cap' w' h1 h2 _ _
        exact h _ w' h1 h2

/-- What stands at the head of a round. -/
structure FeI (l : List UInt8) (w : World) (R : Nat) (q : Nat) (s : St) (pv wv : Value) (xs : List Hc) (v : Value) (wr : World) : Prop where
  le : q ≤ l.length
  go : Rq.Go (St.new (l.take q)) (xs.map Hc.ws) (.more s)
  rdr : Rdr R s pv wv wr
  row : FeR w R xs v wr
  apart : ∀ x ∈ xs, wv.ownBlock ≠ some x.g
theorem FeI.start {l : List UInt8} {w wr : World} {R : Nat} (hR : Rdr R (St.new []) (.slice none 0 0) (.slice none 0 0) wr) (hb : Below w.heap.size w wr) : FeI l w R 0 (St.new []) (.slice none 0 0) (.slice none 0 0) [] (.slice none 0 0) wr :=
  ⟨Nat.zero_le _, Rq.Go.stop (s := St.new []) (e := 11) rfl, hR, ⟨World.ownsRow_nil _ _ _ _, fun _ h => by simp at h, hb⟩, fun _ h => by simp at h⟩
theorem FeI.few {l : List UInt8} {w : World} {R : Nat} {q : Nat} {s : St} {pv wv : Value} {xs : List Hc} {v : Value} {wr : World} (H : FeI l w R q s pv wv xs v wr) : xs.length ≤ l.length ∧ s.tk + s.l.length ≤ l.length := by
  have h1 := go_few H.go
  have h2 := go_keep H.go s rfl
  have h3 : (St.new (l.take q)).l.length ≤ l.length := by show (l.take q).length ≤ _; rw [List.length_take]; omega
  have h4 : (St.new (l.take q)).tk = 0 := rfl
  rw [List.length_map] at h1
  omega
theorem take_to {l : List UInt8} {q E : Nat} (h : q ≤ E) : l.take q ++ (l.drop q).take (E - q) = l.take E := by
  rw [← List.take_add]
  congr 1
  omega
theorem FeI.goes {l : List UInt8} {w : World} {R : Nat} {q : Nat} {s : St} {pv wv : Value} {xs : List Hc} {v : Value} {wr : World} (H : FeI l w R q s pv wv xs v wr) {E : Nat} (hE : q ≤ E) {cs : List (List Wd)} {t : Stop} (hg : Rq.Go ⟨s.c, s.ws, s.tk, s.l ++ (l.drop q).take (E - q)⟩ cs t) : Rq.Go (St.new (l.take E)) (xs.map Hc.ws ++ cs) t := by
  have := H.go.app rfl ((l.drop q).take (E - q)) hg
  have e : (St.new (l.take q)).add ((l.drop q).take (E - q)) = St.new (l.take E) := by
    show (⟨0, [], 0, l.take q ++ (l.drop q).take (E - q)⟩ : St) = _
    rw [take_to hE]
    rfl
  rwa [e] at this
end Go.Proofs.YtcikelcecfapcaaDoor

namespace Go.Proofs.YtcikelcecfapcaaDoor
open Go.RowKit Rp Rq

/-- Commands that have been told stand in memory. -/
def Tld (w : World) (lo : Nat) (v : Value) (css : List (List Wd)) : Prop := ∃ xs : List Hc, xs.map Hc.ws = css ∧ w.ownsRow lo 50 1 v xs.length (hCells xs) ∧ ∀ x ∈ xs, Own w lo x
theorem Tld.on {w w' : World} {lo : Nat} {v : Value} {css : List (List Wd)} (H : Tld w lo v css) (hb : Below w.heap.size w w') : Tld w' lo v css := by
  obtain ⟨xs, h1, h2, h3⟩ := H
  exact ⟨xs, h1, (Chg.below hb (fun _ => False)).own h2 (fun _ _ e => e), fun x hx => (h3 x hx).on hb⟩
theorem Tld.box {w w' : World} {lo : Nat} {v : Value} {css : List (List Wd)} (H : Tld w lo v css) {R : Nat} {er : Int} {pv : Value} {c : Int} {wv : Value} {tk : Int} (hB : Box w R er pv c wv tk) (hc : Chg (fun k => k = R) w w') : Tld w' lo v css := by
  obtain ⟨xs, h1, h2, h3⟩ := H
  exact ⟨xs, h1, hc.own h2 (fun k hk e => own_ne h2 hB (by decide) (e ▸ hk)), fun x hx => hc.own (h3 x hx) (fun k hk e => own_ne (h3 x hx) hB (by decide) (e ▸ hk))⟩
theorem Tld.is {w : World} {lo : Nat} {v : Value} {css : List (List Wd)} (H : Tld w lo v css) : IsC w v css := by
  obtain ⟨xs, h1, h2, h3⟩ := H
  exact h1 ▸ told_is h2 h3

/-- What Feed answers. -/
def FedV (R : Nat) (w : World) (css : List (List Wd)) (x : Int) (e : Ending) (w' : World) : Prop :=
  ∃ p d, e = .returned (.tuple #[.slice p css.length d, .int .i64 x]) ∧ Chg (fun k => k = R) w w' ∧ Tld w' (R + 1) (.slice p css.length d) css

theorem fed_new (u : World) (hE : Errs u) (R : Nat) (l : List UInt8) (css : List (List Wd)) (t : Stop) (hgo : Rq.Go (St.new l) css t) (p : Option Addr) (c G cap : Nat) (w : World) (hB : Box w R 0 (.slice none 0 0) 0 (.slice none 0 0) 0) (hu : Below u.heap.size u w) (huR : u.heap.size ≤ R)
    (hc : w.cell? ⟨G, 0, none⟩ = some (.slice p l.length c)) (hr : Rest w p c l) (hp : ∀ b o, p = some ⟨b, o, none⟩ → b ≠ R) (hGR : G ≠ R) (hnum : l.length ≤ 100000000) :
    Calls Tryd.prog 21 #[.pointer (some ⟨R, 0, none⟩), .slice (some ⟨G, 0, none⟩) 1 cap] w (FedV R w css t.code) := by
  refine (feed_one u hE R (St.new []) (.slice none 0 0) (.slice none 0 0) p c l G cap w (rdr_new hB) hu huR hc hr (fun b o h => ⟨hp b o h, by simp [Value.ownBlock]⟩) hGR (by simp [Value.ownBlock]) (by show 0 + l.length ≤ _; omega) (Nat.zero_le _)).mono ?_
  rintro e w' ⟨xs, cv, hown, hown2, hchg, hcnew, hst⟩
  have hch : Chg (fun k => k = R) w w' := hchg.weaken (fun k _ h => by
    rcases h with h | h | h
    · exact h
    · simp [Value.ownBlock] at h
    · simp [Value.ownBlock] at h)
  have key : ∀ t', Rq.Go (St.new l) (xs.map Hc.ws) t' → Tld w' (R + 1) cv css ∧ (∃ p d, cv = .slice p css.length d) ∧ t' = t := by
    intro t' hg
    obtain ⟨h1, h2⟩ := hg.det hgo
    have hT : Tld w' (R + 1) cv css := ⟨xs, h1, hown, hown2⟩
    obtain ⟨p, d, h3, _⟩ := hT.is
    exact ⟨hT, ⟨p, d, h3⟩, h2⟩
  rcases hst with ⟨s', pv', wv', rfl, hg, -⟩ | ⟨x, rfl, hg, -⟩
  · obtain ⟨hT, ⟨p, d, rfl⟩, rfl⟩ := key _ hg
    exact ⟨p, d, rfl, hch, hT⟩
  · obtain ⟨hT, ⟨p, d, rfl⟩, rfl⟩ := key _ hg
    exact ⟨p, d, rfl, hch, hT⟩

theorem Marked.rest {g n cap : Nat} {l : List UInt8} {W : World} (h : Marked g n cap l W) : Rest W (some ⟨g, 0, none⟩) cap l := by
  obtain ⟨cur, fz, hg, _, _, hcur⟩ := h.row
  refine .inr ⟨g, 0, rfl, by rw [h.len]; exact h.room, h.max, fun j hj => ?_⟩
  rw [Nat.zero_add, cell_of_row _ _ _ _ _ _ hg]
  exact hcur j hj

/-- The same, of what a conversion of a string left, in a row of its own. -/
theorem fed_conv (u : World) (hE : Errs u) (R : Nat) (l : List UInt8) (css : List (List Wd)) (t : Stop) (hgo : Rq.Go (St.new l) css t) (g cap : Nat) (w W : World) (hm : Marked g l.length cap l W) (hb : Below w.heap.size w W) (hB : Box w R 0 (.slice none 0 0) 0 (.slice none 0 0) 0) (hu : Below u.heap.size u w) (huR : u.heap.size ≤ R) (hg : R < g) (hnum : l.length ≤ 100000000) :
    Calls Tryd.prog 21 #[.pointer (some ⟨R, 0, none⟩), .slice (some ⟨W.heap.size, 0, none⟩) 1 1] (W.alloc (.cells #[.slice (some ⟨g, 0, none⟩) l.length cap] 22)) (FedV R (W.alloc (.cells #[.slice (some ⟨g, 0, none⟩) l.length cap] 22)) css t.code) := by
  have hb2 := bT hb (bA (Below.refl W.heap.size W) (.cells #[.slice (some ⟨g, 0, none⟩) l.length cap] 22))
  have hlt : R < w.heap.size := (Array.getElem?_eq_some_iff.1 hB).1
  have hsz := hb.size
  refine fed_new u hE R l css t hgo (some ⟨g, 0, none⟩) cap W.heap.size 1 _ (hB.below hb2) (bT hu hb2) huR ?_ (hm.rest.below (bA (Below.refl _ _) _)) (fun b o h => ?_) (by omega) hnum
  · rw [Lib.cell_of_heap (heap_alloc_new W _)]
    rfl
  · cases h
    omega
end Go.Proofs.YtcikelcecfapcaaDoor
