/-
  The entries that a script of acts holds for sure, and the one under way.
-/
import Derived.Test.YtnnpfehfoaojfaaLogKeepA
import Derived.Test.YtnnpfehfoaojfaaLogActs0
import Derived.Laws.AppendOwnNone
import Derived.Laws.OwnMore
namespace Go.Proofs.Ytnnpfehfoaojfaa
open Go.RowKit Go.Shelf

def BodyOk (w wr : World) (x : Ent) : Prop := InAt wr x.p x.body ∧ ∀ b o, x.p = some ⟨b, o, none⟩ → 0 < x.body.length → b < w.heap.size ∨ ∃ c fr, wr.heap[b]? = some (.cells c 5 fr)
/-- Blocks of neither entries nor bytes, or none of before. -/
def Other (w wr : World) (ex : Nat → Prop) : Prop := ∀ b, ex b → w.heap.size ≤ b ∧ ∃ c t fr, wr.heap[b]? = some (.cells c t fr) ∧ t ≠ 51 ∧ t ≠ 5
theorem BodyOk.chg {w wr w' : World} {x : Ent} (H : BodyOk w wr x) {ex : Nat → Prop} (hc : Chg ex wr w') (hex : ∀ b, ex b → w.heap.size ≤ b ∧ ∃ c t fr, wr.heap[b]? = some (.cells c t fr) ∧ t ≠ 5) : BodyOk w w' x := by
  have hn : ∀ b o, x.p = some ⟨b, o, none⟩ → 0 < x.body.length → ¬ ex b := fun b o hp hl he => by
    obtain ⟨h1, c, t, fr, h2, h3⟩ := hex b he
    rcases H.2 b o hp hl with h | ⟨c', fr', h⟩
    · omega
    · rw [h2] at h
      simp only [Option.some.injEq, Obj.cells.injEq] at h
      exact h3 h.2.1
  refine ⟨fun hl => ?_, fun b o hp hl => ?_⟩
  · obtain ⟨b, o, hp, hr⟩ := H.1 hl
    exact ⟨b, o, hp, hc.range hr (hn b o hp hl)⟩
  · rcases H.2 b o hp hl with h | ⟨c', fr', h⟩
    · exact .inl h
    · exact .inr ⟨c', fr', hc.box h (hn b o hp hl)⟩
structure KRow (w wr : World) (sv : Value) (SE : List Ent) (uv : Value) (UE : List Ent) : Prop where
  srow : wr.ownsRow w.heap.size 51 2 sv SE.length (eCells SE)
  sbody : ∀ x ∈ SE, BodyOk w wr x
  urow : wr.ownsRow w.heap.size 51 2 uv UE.length (eCells UE)
  ubody : ∀ x ∈ UE, BodyOk w wr x
theorem own_other {w wr : World} {ex : Nat → Prop} (hex : Other w wr ex) {lo : Nat} {v : Value} {n : Nat} {xs : List Value} (h : wr.ownsRow lo 51 2 v n xs) : ∀ b, v.ownBlock = some b → ¬ ex b := fun b hb he => by
  obtain ⟨_, c, t, fr, h2, h3, _⟩ := hex b he
  exact own_ne h h2 (fun e => h3 e.symm) hb
theorem KRow.chg {w wr w' : World} {sv uv : Value} {SE UE : List Ent} (H : KRow w wr sv SE uv UE) {ex : Nat → Prop} (hc : Chg ex wr w') (hex : Other w wr ex) : KRow w w' sv SE uv UE :=
  have hx : ∀ b, ex b → w.heap.size ≤ b ∧ ∃ c t fr, wr.heap[b]? = some (.cells c t fr) ∧ t ≠ 5 := fun b hb => by
    obtain ⟨h1, c, t, fr, h2, _, h3⟩ := hex b hb
    exact ⟨h1, c, t, fr, h2, h3⟩
  ⟨hc.own H.srow (own_other hex H.srow), fun x hx' => (H.sbody x hx').chg hc hx, hc.own H.urow (own_other hex H.urow), fun x hx' => (H.ubody x hx').chg hc hx⟩
theorem KRow.on {w wr w' : World} {sv uv : Value} {SE UE : List Ent} (H : KRow w wr sv SE uv UE) (hb : Below wr.heap.size wr w') : KRow w w' sv SE uv UE := H.chg (Chg.below hb (fun _ => False)) (fun _ e => e.elim)
theorem KLog.others {w wr : World} {P D g k after : Nat} {bs : List (List UInt8)} {ub : Option (List UInt8)} (H : KLog w wr P D g k after bs ub) : Other w wr (fun b => b = P ∨ b = D ∨ b = g) := fun b hb => by
  obtain ⟨S, v, ws, c, hL, hD, _⟩ := H.ex
  have hbs := H.base
  rcases hb with rfl | rfl | rfl
  · exact ⟨hbs.1, _, _, _, hL, by decide, by decide⟩
  · exact ⟨hbs.2.1, _, _, _, hD.box, by decide, by decide⟩
  · exact ⟨hbs.2.2, _, _, _, hD.dur, by decide, by decide⟩
/-- The row of those for sure grows. -/
theorem KRow.snoc {w wr w' : World} {sv sv' : Value} {SE : List Ent} (H : KRow w wr sv SE (.slice none 0 0) []) (x : Ent) (hx : BodyOk w wr x) (hg : wr.grownBy w' sv.ownBlock) (hrow : w'.ownsRow w.heap.size 51 2 sv' (SE.length + 1) (eCells SE ++ eCell x)) : KRow w w' sv' (SE ++ [x]) (.slice none 0 0) [] := by
  have hx' : ∀ b, some b = sv.ownBlock → w.heap.size ≤ b ∧ ∃ c t fr, wr.heap[b]? = some (.cells c t fr) ∧ t ≠ 5 := fun b hb => by
    refine ⟨(H.srow.lt b hb.symm).1, ?_⟩
    rcases H.srow.2 with ⟨rfl, h⟩ | ⟨gr, cap, cur, rfl, hb', hg', _⟩
    · cases hb
    · cases hb
      exact ⟨cur, _, _, hg', by decide⟩
  refine ⟨?_, fun y hy => ?_, World.ownsRow_nil _ _ _ _, fun y hy => by simp at hy⟩
  · rw [eCells_snoc, List.length_append]
    exact hrow
  · rcases List.mem_append.1 hy with h | h
    · exact (H.sbody y h).chg (Chg.grown hg) hx'
    · rw [List.mem_singleton.1 h]
      exact hx.chg (Chg.grown hg) hx'
/-- One under way. -/
theorem KRow.under {w wr : World} {sv uv : Value} {SE UE : List Ent} (H : KRow w wr sv SE uv UE) (hbw : w.heap.size ≤ wr.heap.size) (x : Ent) (hx : BodyOk w wr x) : KRow w (wr.alloc (.cells #[.int .i64 x.st, .slice x.p x.body.length x.cp] 51)) sv SE (.slice (some ⟨wr.heap.size, 0, none⟩) 1 1) [x] := by
  have hb : Below wr.heap.size wr (wr.alloc (.cells #[.int .i64 x.st, .slice x.p x.body.length x.cp] 51)) := bA (Below.refl _ _) _
  have h := H.on hb
  refine ⟨h.srow, h.sbody, ?_, fun y hy => ?_⟩
  · exact World.ownsRow_lit wr #[.int .i64 x.st, .slice x.p x.body.length x.cp] 1 hbw (by decide) rfl
  · rw [List.mem_singleton.1 hy]
    exact hx.chg (Chg.below hb (fun _ => False)) (fun _ e => e.elim)
/-- append(own, b...), b any slice of entries that the walk owns. -/
theorem append_ents {w : World} {ops : Array Oper} {rest : List Oper} {o : Oper} {a : Act} {Q : Exit → Act → World → Prop} (hgd : o.guard = none) (s x : Operand)
    (ho : o.op = .call { callee := .builtin .append, args := #[s, x], argTypes := #[35, 35] })
    (base : Nat) (v : Value) (n : Nat) (xs : List Value) (hs : a.eval s = v) (hown : w.ownsRow base 51 2 v n xs)
    (lo : Nat) (uv : Value) (m : Nat) (ys : List Value) (hx : a.eval x = uv) (hu : w.ownsRow lo 51 2 uv m ys) (hy1 : ∀ u ∈ ys, u.oneCell' = true) (hyl : ys.length = m * 2)
    (hm : n + m ≤ 1000000) (hbase : base ≤ w.heap.size)
    (h : ∀ v' w', w'.ownsRow base 51 2 v' (n + m) (xs ++ ys) → w.grownBy w' v.ownBlock → (v' = .slice none 0 0 ↔ v = .slice none 0 0 ∧ m = 0) → wpList Try.prog ops Q rest (a.put o.dst v') w') : wpList Try.prog ops Q (o :: rest) a w := by
  obtain ⟨i0, hi, hz0, hz1, hz2⟩ := info_parts info_ent
  rcases hu.2 with ⟨rfl, h0⟩ | ⟨gr, cap, cur, rfl, hb, hg, hn, hmm, hss, ht⟩
  · subst h0
    refine wpList_append_own_none hgd s x 35 ho base 51 i0 2 Try.underlying35 hi v n xs hs hown hx ?_
    have hy0 : ys = [] := List.eq_nil_of_length_eq_zero (by omega)
    exact h v w (by simpa [hy0] using hown) (World.grownBy.refl w v.ownBlock) (by simp)
  · refine wpList_append_own _ hgd s x 35 ho base 51 i0 (.agg #[.int .i64 0, .slice none 0 0]) 2 32 Try.underlying35 hi hz0 hz1 hz2 rfl (by decide) v n xs hs hown ⟨gr, 0, none⟩ m cap ys hx hyl ?_ hy1 (by unfold maxLen; omega) (by omega) hbase h
    exact hu.cells rfl
theorem eCells_one (E : List Ent) : ∀ u ∈ eCells E, u.oneCell' = true := fun u hu => by
  unfold eCells at hu
  obtain ⟨l, hl, hul⟩ := List.mem_flatten.1 hu
  obtain ⟨x, _, rfl⟩ := List.mem_map.1 hl
  simp only [eCell, List.mem_cons, List.mem_nil_iff, or_false] at hul
  rcases hul with rfl | rfl <;> rfl
theorem eCells_len (E : List Ent) : (eCells E).length = E.length * 2 := flat_len eCell 2 E (fun _ _ => rfl)
theorem eCells_app (A B : List Ent) : eCells (A ++ B) = eCells A ++ eCells B := by simp [eCells]
theorem KRow.sent {w wr : World} {sv uv : Value} {SE UE : List Ent} (H : KRow w wr sv SE uv UE) : ∃ p c, sv = .slice p SE.length c ∧ EntRow wr p SE := row_of_owns H.srow (fun x hx => (H.sbody x hx).1)
end Go.Proofs.Ytnnpfehfoaojfaa
