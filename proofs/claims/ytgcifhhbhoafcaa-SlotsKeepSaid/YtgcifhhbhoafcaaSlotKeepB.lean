/-
  What a script of acts has saved for sure, and what is under way, in memory.
-/
import Derived.Test.YtgcifhhbhoafcaaSlotKeepA
import Derived.Test.YtgcifhhbhoafcaaSlotActs0
namespace Go.Proofs.Ytgcifhhbhoafcaa
open Go.RowKit Go.Shelf

def SBody (w wr : World) (q : Option Addr) (l : List UInt8) : Prop := InAt wr q l ∧ ∀ b o, q = some ⟨b, o, none⟩ → 0 < l.length → b < w.heap.size ∨ ∃ cs fr, wr.heap[b]? = some (.cells cs 5 fr)
/-- Blocks of no bytes, or none of before. -/
def SOther (w wr : World) (ex : Nat → Prop) : Prop := ∀ b, ex b → w.heap.size ≤ b ∧ ∃ cs t fr, wr.heap[b]? = some (.cells cs t fr) ∧ t ≠ 5
theorem SBody.chg {w wr w' : World} {q : Option Addr} {l : List UInt8} (H : SBody w wr q l) {ex : Nat → Prop} (hc : Chg ex wr w') (hex : SOther w wr ex) : SBody w w' q l := by
  have hn : ∀ b o, q = some ⟨b, o, none⟩ → 0 < l.length → ¬ ex b := fun b o hp hl he => by
    obtain ⟨h1, c, t, fr, h2, h3⟩ := hex b he
    rcases H.2 b o hp hl with h | ⟨c', fr', h⟩
    · omega
    · rw [h2] at h
      simp only [Option.some.injEq, Obj.cells.injEq] at h
      exact h3 h.2.1
  refine ⟨fun hl => ?_, fun b o hp hl => ?_⟩
  · obtain ⟨b, o, hp, hr⟩ := H.1 hl
    exact ⟨b, o, hp, hc.range hr (hn b o hp hl)⟩
  · rcases H.2 b o hp hl with h | ⟨c', fr', h⟩
    · exact .inl h
    · exact .inr ⟨c', fr', hc.box h (hn b o hp hl)⟩
theorem SBody.on {w wr w' : World} {q : Option Addr} {l : List UInt8} (H : SBody w wr q l) (hb : Below wr.heap.size wr w') : SBody w w' q l := H.chg (Chg.below hb (fun _ => False)) (fun _ e => e.elim)
theorem KSl.others {w wr : World} {P D g m gn : Nat} {c : Option Ck} {ub : Option (Nat × List UInt8)} (H : KSl w wr P D g m gn c ub) : SOther w wr (fun b => b = P ∨ b = D ∨ b = g) := fun b hb => by
  obtain ⟨S, v, ws, lc, hL, hD, _⟩ := H.ex
  have hbs := H.base
  rcases hb with rfl | rfl | rfl
  · exact ⟨hbs.1, _, _, _, hL, by decide⟩
  · exact ⟨hbs.2.1, _, _, _, hD.box, by decide⟩
  · exact ⟨hbs.2.2, _, _, _, hD.dur, by decide⟩
/-- An entry's cells stored. -/
def setE (w : World) (b : Nat) (v0 v1 : Value) : World := (w.setCell ⟨b, 0, none⟩ v0).setCell ⟨b, 1, none⟩ v1
theorem setE_heap {w : World} {b : Nat} {z0 z1 : Value} {T : TypeId} (hb : w.heap[b]? = some (.cells #[z0, z1] T (0, 0))) (v0 v1 : Value) : (setE w b v0 v1).heap[b]? = some (.cells #[v0, v1] T (0, 0)) := set2s_heap hb v0 v1
theorem setE_chg (w : World) (b : Nat) (v0 v1 : Value) : Chg (fun k => k = b) w (setE w b v0 v1) := (Chg.setCell w ⟨b, 0, none⟩ v0).trans (Chg.setCell _ ⟨b, 1, none⟩ v1)
/-- The state of a script. -/
structure KQ (w wr : World) (P D g m gn : Nat) (c : Option Ck) (ub : Option (Nat × List UInt8)) (X Y : Nat) (z1 : Int) (q1 : Option Addr) (n1 c1 : Nat) (z2 : Int) (q2 : Option Addr) (n2 c2 : Nat) : Prop where
  ksl : KSl w wr P D g m gn c ub
  sure : wr.heap[X]? = some (.cells #[.int .i64 z1, .slice q1 n1 c1] 48 (0, 0))
  sok : z1 = (stOf c : Nat) ∧ n1 = (bodyOf c).length ∧ SBody w wr q1 (bodyOf c)
  under : wr.heap[Y]? = some (.cells #[.int .i64 z2, .slice q2 n2 c2] 48 (0, 0))
  uok : ∀ b, ub = some b → z2 = (b.1 : Nat) ∧ n2 = b.2.length ∧ SBody w wr q2 b.2
  lo : w.heap.size ≤ X ∧ w.heap.size ≤ Y ∧ X ≠ Y
section
variable {w wr w' : World} {P D g m gn : Nat} {c : Option Ck} {ub : Option (Nat × List UInt8)} {X Y : Nat} {z1 : Int} {q1 : Option Addr} {n1 c1 : Nat} {z2 : Int} {q2 : Option Addr} {n2 c2 : Nat}
theorem KQ.on (H : KQ w wr P D g m gn c ub X Y z1 q1 n1 c1 z2 q2 n2 c2) (hb : Below wr.heap.size wr w') : KQ w w' P D g m gn c ub X Y z1 q1 n1 c1 z2 q2 n2 c2 :=
  have hc := Chg.below hb (fun _ => False)
  ⟨H.ksl.on hb, hc.box H.sure (fun e => e), ⟨H.sok.1, H.sok.2.1, H.sok.2.2.on hb⟩, hc.box H.under (fun e => e), fun b h => ⟨(H.uok b h).1, (H.uok b h).2.1, (H.uok b h).2.2.on hb⟩, H.lo⟩
theorem KQ.apart (H : KQ w wr P D g m gn c ub X Y z1 q1 n1 c1 z2 q2 n2 c2) : ¬ (X = P ∨ X = D ∨ X = g) ∧ ¬ (Y = P ∨ Y = D ∨ Y = g) :=
  ⟨H.ksl.types H.sure (by decide) (by decide) (by decide), H.ksl.types H.under (by decide) (by decide) (by decide)⟩
/-- An act that leaves it as it is. -/
theorem KQ.keep (H : KQ w wr P D g m gn c ub X Y z1 q1 n1 c1 z2 q2 n2 c2) (hc : Chg (fun b => b = P ∨ b = D ∨ b = g) wr w') (hk : KSl w w' P D g m gn c ub) : KQ w w' P D g m gn c ub X Y z1 q1 n1 c1 z2 q2 n2 c2 :=
  have ho := H.ksl.others
  ⟨hk, hc.box H.sure H.apart.1, ⟨H.sok.1, H.sok.2.1, H.sok.2.2.chg hc ho⟩, hc.box H.under H.apart.2, fun b h => ⟨(H.uok b h).1, (H.uok b h).2.1, (H.uok b h).2.2.chg hc ho⟩, H.lo⟩
theorem setE_other (hX : wr.heap[X]? = some (.cells #[.int .i64 z1, .slice q1 n1 c1] 48 (0, 0))) (hlo : w.heap.size ≤ X) : SOther w wr (fun k => k = X) := fun b hb => by
  rw [show b = X from hb]
  exact ⟨hlo, _, _, _, hX, by decide⟩
/-- A save that succeeded is stored. -/
theorem KQ.saved (H : KQ w wr P D g m gn c none X Y z1 q1 n1 c1 z2 q2 n2 c2) (hc : Chg (fun b => b = P ∨ b = D ∨ b = g) wr w') {gn' st : Nat} {body : List UInt8} (hk : KSl w w' P D g m gn' (some ⟨gn', st, body⟩) none) (q : Option Addr) (cap : Nat) (hq : SBody w wr q body) :
    KQ w (setE w' X (.int .i64 (st : Int)) (.slice q body.length cap)) P D g m gn' (some ⟨gn', st, body⟩) none X Y (st : Int) q body.length cap z2 q2 n2 c2 := by
  have hX := hc.box H.sure H.apart.1
  have hY := hc.box H.under H.apart.2
  have hs := setE_chg w' X (.int .i64 (st : Int)) (.slice q body.length cap)
  have ho := setE_other (w := w) hX H.lo.1
  exact ⟨hk.chg hs (fun b hb => by rw [show b = X from hb]; exact ⟨H.lo.1, _, _, hX⟩), setE_heap hX _ _, ⟨rfl, rfl, (hq.chg hc H.ksl.others).chg hs ho⟩, hs.box hY (fun e => H.lo.2.2 e.symm), fun b h => (by cases h), H.lo⟩
/-- One that failed is under way. -/
theorem KQ.failed (H : KQ w wr P D g m gn c none X Y z1 q1 n1 c1 z2 q2 n2 c2) (hc : Chg (fun b => b = P ∨ b = D ∨ b = g) wr w') {st : Nat} {body : List UInt8} (hk : KSl w w' P D g m gn c (some (st, body))) (q : Option Addr) (cap : Nat) (hq : SBody w wr q body) :
    KQ w (setE w' Y (.int .i64 (st : Int)) (.slice q body.length cap)) P D g m gn c (some (st, body)) X Y z1 q1 n1 c1 (st : Int) q body.length cap := by
  have hX := hc.box H.sure H.apart.1
  have hY := hc.box H.under H.apart.2
  have hs := setE_chg w' Y (.int .i64 (st : Int)) (.slice q body.length cap)
  have ho := setE_other (w := w) hY H.lo.2.1
  exact ⟨hk.chg hs (fun b hb => by rw [show b = Y from hb]; exact ⟨H.lo.2.1, _, _, hY⟩), hs.box hX H.lo.2.2, ⟨H.sok.1, H.sok.2.1, (H.sok.2.2.chg hc H.ksl.others).chg hs ho⟩, setE_heap hY _ _, fun b h => by
    cases h
    exact ⟨rfl, rfl, (hq.chg hc H.ksl.others).chg hs ho⟩, H.lo⟩
/-- What was opened is sure. -/
theorem KQ.reopened {gn' : Nat} {c' : Option Ck} (hk : KSl w wr P D g m gn' c' none) (hX : wr.heap[X]? = some (.cells #[.int .i64 z1, .slice q1 n1 c1] 48 (0, 0))) (hY : wr.heap[Y]? = some (.cells #[.int .i64 z2, .slice q2 n2 c2] 48 (0, 0))) (hlo : w.heap.size ≤ X ∧ w.heap.size ≤ Y ∧ X ≠ Y) (q : Option Addr) (cap : Nat) (hq : SBody w wr q (bodyOf c')) :
    KQ w (setE wr X (.int .i64 (stOf c' : Nat)) (.slice q (bodyOf c').length cap)) P D g m gn' c' none X Y (stOf c' : Nat) q (bodyOf c').length cap z2 q2 n2 c2 := by
  have hs := setE_chg wr X (.int .i64 (stOf c' : Nat)) (.slice q (bodyOf c').length cap)
  exact ⟨hk.chg hs (fun b hb => by rw [show b = X from hb]; exact ⟨hlo.1, _, _, hX⟩), setE_heap hX _ _, ⟨rfl, rfl, hq.chg hs (setE_other hX hlo.1)⟩, hs.box hY (fun e => hlo.2.2 e.symm), fun b h => (by cases h), hlo⟩
end
theorem Held.sbody {w wr : World} {lo : Nat} {c : Option Ck} {q : Option Addr} {cap : Nat} (H : Held lo wr c q cap) : SBody w wr q (bodyOf c) := by
  cases c with
  | none => exact ⟨fun h => by simp [bodyOf] at h, fun b o _ h => by simp [bodyOf] at h⟩
  | some x =>
    obtain ⟨h1, ⟨b, hqb, _, cs, fr, hh⟩, _⟩ := H.2 x rfl
    refine ⟨h1, fun b' o' e _ => .inr ?_⟩
    rw [hqb] at e
    cases e
    exact ⟨cs, fr, hh⟩
end Go.Proofs.Ytgcifhhbhoafcaa
