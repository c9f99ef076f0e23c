/-
  Slices of bytes that are appended: to a row of the call's own, and to what a conversion of a string left. What a conversion of a string to bytes makes, and what is appended to it.
-/
import Derived.Test.YtcikelcecfapcaaDoorRespKeep
import Derived.Lib.FrozenHead2
import Derived.Lib.ConvBytes
import Derived.Laws.AppendOwnNone
namespace Go.Proofs.YtcikelcecfapcaaDoor
open Go.RowKit Rp

/-- A slice of bytes that came in: one of none may stand at whatever address. -/
def Tail (w : World) (p : Option Addr) (c : Nat) (l : List UInt8) : Prop := Rest w p c l ∨ (l = [] ∧ ∃ ad, p = some ad)
theorem Tail.below {w w' : World} {p : Option Addr} {c : Nat} {l : List UInt8} (h : Tail w p c l) (hb : Below w.heap.size w w') : Tail w' p c l := h.imp (·.below hb) id
theorem Tail.none {w : World} {c : Nat} {l : List UInt8} (h : Tail w none c l) : l = [] ∧ c = 0 := by
  rcases h with (⟨_, h1, h2⟩ | ⟨b, o', h1, _⟩) | ⟨_, ad, h⟩
  · exact ⟨h1, h2⟩
  · cases h1
  · cases h
theorem rest_news {w : World} {ad : Addr} {c : Nat} {l : List UInt8} (h : Rest w (some ad) c l) : ∀ j u, (sCells l)[j]? = some u → w.cell? (ad.add j) = some u := by
  rcases h with ⟨h, _⟩ | ⟨b, o, h, _, _, h3⟩
  · cases h
  · cases h
    intro j u hj
    have hl : j < l.length := by
      have := (List.getElem?_eq_some_iff.1 hj).1
      simpa [sCells] using this
    rw [Lib.add_plain, h3 j hl, ← hj]
    simp [sCells, hl]
theorem Tail.news {w : World} {ad : Addr} {c : Nat} {l : List UInt8} (h : Tail w (some ad) c l) : ∀ j u, (sCells l)[j]? = some u → w.cell? (ad.add j) = some u := by
  rcases h with h | ⟨rfl, _⟩
  · exact rest_news h
  · intro j u hj; simp [sCells] at hj
theorem sCells_one (l : List UInt8) : ∀ u ∈ sCells l, u.oneCell' = true := by
  intro u hu
  obtain ⟨x, _, rfl⟩ := List.mem_map.1 hu
  rfl

/-- append(own, b...), b any slice of bytes -/
theorem append_rest {w : World} {ops : Array Oper} {rest : List Oper} {o : Oper} {a : Act} {Q : Exit → Act → World → Prop} (hgd : o.guard = none) (s x : Operand)
    (ho : o.op = .call { callee := .builtin .append, args := #[s, x], argTypes := #[22, 22] })
    (base : Nat) (v : Value) (n : Nat) (xs : List Value) (hs : a.eval s = v) (hown : w.ownsRow base 5 1 v n xs)
    (p : Option Addr) (m c : Nat) (l : List UInt8) (hx : a.eval x = .slice p m c) (hl : l.length = m) (hb : Tail w p c l)
    (hbytes : n + m ≤ 140737488355328) (hbase : base ≤ w.heap.size)
    (h : ∀ v' w', w'.ownsRow base 5 1 v' (n + m) (xs ++ sCells l) → w.grownBy w' v.ownBlock → (v' = .slice none 0 0 ↔ v = .slice none 0 0 ∧ m = 0) → wpList Tryd.prog ops Q rest (a.put o.dst v') w') : wpList Tryd.prog ops Q (o :: rest) a w := by
  obtain ⟨i0, hi, hz0, hz1, hz2⟩ := info_parts info_u8
  cases p with
  | none =>
    obtain ⟨rfl, rfl⟩ := hb.none
    obtain rfl : m = 0 := hl.symm
    refine wpList_append_own_none hgd s x 22 ho base 5 i0 1 Tryd.underlying22 hi v n xs hs hown hx ?_
    exact h v w (by simpa [sCells] using hown) (World.grownBy.refl w v.ownBlock) (by simp)
  | some ad =>
    refine wpList_append_own _ hgd s x 22 ho base 5 i0 (.int .u8 0) 1 1 Tryd.underlying22 hi hz0 hz1 hz2 rfl (by decide) v n xs hs hown ad m c (sCells l) hx (by rw [sCells_len]; omega) hb.news (sCells_one l) (by unfold maxLen; omega) (by omega) hbase h

/-- Storing ahead of a frozen range. -/
theorem run_storeCells_atM (P : Program) (g o : Nat) (t : TypeId) (fz : Nat × Nat) : ∀ (vs : List Value) (i : Nat) (cur : Array Value) (w : World), w.heap[g]? = some (.cells cur t fz) → cur.size ≤ fz.1 → o + i + vs.length ≤ cur.size → (∀ v ∈ vs, v.oneCell' = true) →
    (storeCells ⟨g, o, none⟩ vs i).run P w = .ok () (w.setRow g (cur.toList.take (o + i) ++ vs ++ cur.toList.drop (o + i + vs.length)).toArray)
  | [], i, cur, w, hg, _, _, _ => by
    simp only [storeCells, List.append_nil, List.length_nil, Nat.add_zero, List.take_append_drop, Array.toArray_toList]
    rw [setRow_self w g cur t fz hg]
    rfl
  | v :: rest, i, cur, w, hg, hfz, hl, h1 => by
    have hi : o + i < cur.size := by simp at hl; omega
    have hadd : (⟨g, o, none⟩ : Addr).add i = ⟨g, o + i, none⟩ := by unfold Addr.add; split <;> simp_all
    have hcell : w.cell? ⟨g, o + i, none⟩ = some cur[o + i] := by simp [World.cell?, hg, hi]
    have hfro : w.frozen? ⟨g, o + i, none⟩ = false := by
      obtain ⟨lo, hi'⟩ := fz
      simp only [World.frozen?, hg, Bool.and_eq_false_iff, decide_eq_false_iff_not]
      left
      simp only at hfz
      omega
    have hst : (store ((⟨g, o, none⟩ : Addr).add i) v).run P w = .ok () (w.setRow g (cur.setIfInBounds (o + i) v)) := by
      rw [hadd, run_store P w _ v _ (h1 v (by simp)), hcell]
      simp [hfro, setCell_eq_setRow w g (o + i) cur t fz v hg]
    have ih := run_storeCells_atM P g o t fz rest (i + 1) (cur.setIfInBounds (o + i) v) (w.setRow g (cur.setIfInBounds (o + i) v)) (setRow_heap w g cur _ t _ hg) (by simpa using hfz) (by simp at hl ⊢; omega) (fun x hx => h1 x (by simp [hx]))
    simp only [storeCells, Sem.run_bind, hst, Result.andThen_ok, ih, setRow_setRow]
    congr 3
    have e := list_seg_step cur.toList (o + i) v rest (by simp at hl ⊢; omega)
    simpa [Array.toList_setIfInBounds, Nat.add_assoc] using e

theorem sCells_at (M : List UInt8) (j : Nat) (h : j < M.length) : (sCells M)[j]? = some (.int .u8 (M[j].toNat : Nat)) := by simp [sCells, h]
theorem sCells_app (a b : List UInt8) : sCells (a ++ b) = sCells a ++ sCells b := by simp [sCells]

/-- append(b, x...), b what a conversion of a string left -/
theorem run_append_mark {w : World} (ty : TypeId) {g n cap : Nat} {cur : Array Value} {fz : Nat × Nat} (hg : w.heap[g]? = some (.cells cur 5 fz)) (hfz : cur.size ≤ fz.1) (hcs : cur.size = cap) (hnc : n ≤ cap) (hcm : cap ≤ maxLen) {L : List UInt8} (hL : L.length = n) (hcur : ∀ (j : Nat) (h : j < L.length), cur[j]? = some (.int .u8 (L[j].toNat : Nat)))
    {q : Option Addr} {d : Nat} {X : List UInt8} (hb : Tail w q d X) (hbytes : n + X.length ≤ 140737488355328) :
    ∃ q' c' w', (Builtin.append_ #[22, 22] ty #[.slice (some ⟨g, 0, none⟩) n cap, .slice q X.length d]).run Tryd.prog w = .ok (.slice q' (n + X.length) c') w' ∧ Rest w' q' c' (L ++ X) ∧ w.grownBy w' (some g) := by
  obtain ⟨i0, hi, hz0, hz1, hz2⟩ := info_parts info_u8
  have hlt : g < w.heap.size := (Array.getElem?_eq_some_iff.1 hg).1
  have hold : ∀ j u, (sCells L)[j]? = some u → w.cell? ((⟨g, 0, none⟩ : Addr).add j) = some u := fun j u hj => by
    have hl : j < L.length := by
      have := (List.getElem?_eq_some_iff.1 hj).1
      simpa [sCells] using this
    rw [Lib.add_plain, Nat.zero_add, cell_of_row w g j cur _ fz hg, hcur j hl, ← hj]
    simp [sCells, hl]
  have htk : cur.toList.take n = sCells L := by
    apply List.ext_getElem?
    intro j
    by_cases hj : j < n
    · rw [List.getElem?_take_of_lt hj, Array.getElem?_toList, hcur j (by omega), sCells_at L j (by omega)]
    · rw [List.getElem?_eq_none (by rw [List.length_take]; omega), List.getElem?_eq_none (by rw [sCells_len]; omega)]
  cases q with
  | none =>
    obtain ⟨rfl, rfl⟩ := hb.none
    refine ⟨some ⟨g, 0, none⟩, cap, w, ?_, ?_, World.grownBy.refl w _⟩
    · simp [Builtin.append_, run_underlying Tryd.underlying22, sizeOf, typeInfo, hi, Builtin.lenOf, Builtin.firstCells, hnc, storeCells]
    · rw [List.append_nil]
      refine .inr ⟨g, 0, rfl, by omega, hcm, fun j hj => ?_⟩
      have := hold j _ (by simp [sCells, hj]; rfl)
      rw [Lib.add_plain] at this
      exact this
  | some ad =>
    have hnews := hb.news
    by_cases hroom : n + X.length ≤ cap
    · have hf := run_firstCells_some (P := Tryd.prog) w 1 X.length ad X.length d (sCells X) (by rw [sCells_len]; omega) hnews
      have hst := run_storeCells_atM Tryd.prog g n 5 fz (sCells X) 0 cur w hg hfz (by rw [sCells_len]; omega) (sCells_one X)
      simp only [Nat.add_zero] at hst
      refine ⟨some ⟨g, 0, none⟩, cap, w.setRow g (cur.toList.take n ++ sCells X ++ cur.toList.drop (n + (sCells X).length)).toArray, ?_, ?_, ?_⟩
      · simp [Builtin.append_, run_underlying Tryd.underlying22, sizeOf, typeInfo, hi, hz1, Builtin.lenOf, hroom, hf, Addr.add_lit, hst]
      · refine .inr ⟨g, 0, rfl, by rw [List.length_append]; omega, hcm, fun j hj => ?_⟩
        rw [Nat.zero_add, cell_of_row _ g j _ 5 fz (setRow_heap w g cur _ 5 fz hg)]
        rw [List.getElem?_toArray, htk, ← sCells_app, List.getElem?_append_left (by rw [sCells_len]; exact hj)]
        exact sCells_at _ j hj
      · exact ⟨rfl, rfl, rfl, by simp, fun k _ hk => setRow_other w g k _ (fun e => hk (by rw [e]))⟩
    · have hr := run_append_grow (P := Tryd.prog) w 22 ty 5 i0 (.int .u8 0) Tryd.underlying22 hi hz0 ⟨g, 0, none⟩ n cap (sCells L) (by rw [sCells_len, hL, hz1]; omega) hold ad X.length d (sCells X) (by rw [sCells_len, hz1]; omega) hnews (by omega) (by omega) (growslice_fits (by omega) (by rw [hz2]; omega))
      have hge := grownCap_ge w (n + X.length) cap 5
      have hcm2 : grownCap w (n + X.length) cap 5 ≤ maxLen := grownCap_le_maxLen w (n + X.length) cap 5 (by unfold maxLen; omega)
      refine ⟨_, _, _, hr, ?_, ?_⟩
      · refine .inr ⟨w.heap.size, 0, rfl, by rw [List.length_append]; omega, hcm2, fun j hj => ?_⟩
        rw [Nat.zero_add, cell_of_row _ w.heap.size j _ 5 (0, 0) (heap_alloc_new w.drew _)]
        rw [← Array.getElem?_toList, Array.toList_append, Array.toList_append, ← sCells_app, List.getElem?_append_left (by rw [sCells_len]; exact hj)]
        exact sCells_at _ j hj
      · exact ⟨rfl, rfl, rfl, by simp, fun k hk _ => heap_alloc_old w.drew _ hk⟩
end Go.Proofs.YtcikelcecfapcaaDoor

namespace Go.Proofs.YtcikelcecfapcaaDoor
open Go.RowKit Rp

/-- What []byte(s) made. -/
structure Marked (g n cap : Nat) (l : List UInt8) (W : World) : Prop where
  row : ∃ cur fz, W.heap[g]? = some (.cells cur 5 fz) ∧ cur.size ≤ fz.1 ∧ cur.size = cap ∧ ∀ (j : Nat) (h : j < l.length), cur[j]? = some (.int .u8 (l[j].toNat : Nat))
  len : l.length = n
  room : n ≤ cap
  max : cap ≤ maxLen

theorem conv_new (w : World) (l : List UInt8) (hl : l.length ≤ 1000000000) : ∃ cap W, (convert 9 22 (.string (bs l))).run Tryd.prog w = .ok (.slice (some ⟨w.heap.size, 0, none⟩) l.length cap) W ∧ Marked w.heap.size l.length cap l W ∧ Below w.heap.size w W := by
  have h := Lib.run_convert_string_bytes (P := Tryd.prog) w 9 22 5 (bs l) Tryd.underlying9 Tryd.underlying22 Tryd.underlying5
  rw [bs_size] at h
  refine ⟨_, _, h, ⟨⟨_, _, Lib.bytesWorld_at_new w 5 (bs l), Nat.le_refl _, ?_, ?_⟩, rfl, grownCap_ge w l.length 0 5, grownCap_le_maxLen w l.length 0 5 (by unfold maxLen; omega)⟩, Lib.bytesWorld_below _ _ _⟩
  · have := grownCap_ge w l.length 0 5
    have hs : (bs l).data.size = l.length := bs_size l
    simp [Lib.bytesCells, bs_size, hs]
    omega
  · intro j hj
    have hs : (bs l).data.size = l.length := bs_size l
    unfold Lib.bytesCells
    rw [Array.getElem?_append_left (by simp [hs]; exact hj), Array.getElem?_map]
    simp [bs, hj]

theorem append_mark {w : World} {ops : Array Oper} {rest : List Oper} {o : Oper} {a : Act} {Q : Exit → Act → World → Prop} (hgd : o.guard = none) (s x : Operand)
    (ho : o.op = .call { callee := .builtin .append, args := #[s, x], argTypes := #[22, 22] })
    (g n cap : Nat) (L : List UInt8) (hs : a.eval s = .slice (some ⟨g, 0, none⟩) n cap) (hm : Marked g n cap L w)
    (p : Option Addr) (m c : Nat) (l : List UInt8) (hx : a.eval x = .slice p m c) (hl : l.length = m) (hb : Tail w p c l) (hbytes : n + m ≤ 1000000000)
    (h : ∀ q' c' w', Rest w' q' c' (L ++ l) → w.grownBy w' (some g) → wpList Tryd.prog ops Q rest (a.put o.dst (.slice q' (L ++ l).length c')) w') : wpList Tryd.prog ops Q (o :: rest) a w := by
  refine wpList_plain hgd fun K hK => ?_
  obtain ⟨cur, fz, hg, hfz, hcs, hcur⟩ := hm.row
  subst hl
  obtain ⟨q', c', w', hr, h2, h3⟩ := run_append_mark o.type hg hfz hcs hm.room hm.max hm.len hcur hb (by omega)
  have hlen : (L ++ l).length = n + l.length := by rw [List.length_append, hm.len]
  have hh := h q' c' w' h2 h3
  rw [hlen] at hh
  unfold Oper.wp execOp
  simp only [ho, resolve, invoke, builtin, Sem.run_bind, Sem.run_pure, Result.andThen_ok, List.map_toArray, List.map_cons, List.map_nil, hs, hx, hr]
  exact hK _ _ hh
end Go.Proofs.YtcikelcecfapcaaDoor
