/-
  The words of a line made of words and spaces: plain mathematics. The line of an inline command: plain mathematics.
-/
import Derived.Test.YtcikelcecfapcaaDoorReqPrint
namespace Go.Proofs.YtcikelcecfapcaaDoor
open Go.RowKit Rp Rq

theorem fields_spaces : ∀ (g : Nat) (r : List UInt8), fieldsQ (List.replicate g 32 ++ r) [] = fieldsQ r []
  | 0, r => rfl
  | g + 1, r => by
    rw [List.replicate_succ, List.cons_append, fieldsQ_space, if_pos rfl, fields_spaces g r]
theorem fields_gap (g : Nat) (hg : 1 ≤ g) (r : List UInt8) (cur : Wd) : fieldsQ (List.replicate g 32 ++ r) cur = (if cur = [] then [] else [cur]) ++ fieldsQ r [] := by
  obtain ⟨k, rfl⟩ : ∃ k, g = k + 1 := ⟨g - 1, by omega⟩
  rw [List.replicate_succ, List.cons_append, fieldsQ_space, fields_spaces]
  split <;> rfl
/-- A gap and a word, each. -/
def gapsQ (ys : List (Nat × Wd)) : List UInt8 := (ys.map fun y => List.replicate y.1 32 ++ y.2).flatten
theorem fields_join : ∀ (ys : List (Nat × Wd)) (cur : Wd), (∀ y ∈ ys, 1 ≤ y.1 ∧ y.2 ≠ [] ∧ ∀ x ∈ y.2, x ≠ 32) → fieldsQ (gapsQ ys ++ [32]) cur = (if cur = [] then [] else [cur]) ++ ys.map Prod.snd
  | [], cur, _ => by
    show fieldsQ [32] cur = _
    rw [fieldsQ_space, fieldsQ]
    split <;> simp
  | y :: ys, cur, h => by
    obtain ⟨h1, h2, h3⟩ := h y List.mem_cons_self
    have ih := fields_join ys y.2 (fun z hz => h z (List.mem_cons_of_mem _ hz))
    have e : gapsQ (y :: ys) ++ [32] = List.replicate y.1 32 ++ (y.2 ++ (gapsQ ys ++ [32])) := by simp [gapsQ]
    rw [e, fields_gap _ h1, fieldsQ_many _ _ _ h3, List.nil_append, ih, if_neg h2]
    simp
end Go.Proofs.YtcikelcecfapcaaDoor

namespace Go.Proofs.YtcikelcecfapcaaDoor
open Go.RowKit Rp Rq

/-- A word of an inline line. -/
def Calm (w : Wd) : Prop := w ≠ [] ∧ w.length ≤ 20 ∧ ∀ x ∈ w, x ≠ 32 ∧ x ≠ 10 ∧ x ≠ 13
/-- What has been written before word i. -/
structure InlG (ws : List Wd) (i : Nat) (ys : List (Nat × Wd)) : Prop where
  words : ys.map Prod.snd = ws.take i
  len : ys.length = i
  calm : ∀ y ∈ ys, y.1 ≤ 3 ∧ Calm y.2
  gap : ∀ y ∈ ys.tail, 1 ≤ y.1
  head : ∀ y, ys.head? = some y → y.1 = 0 ∧ y.2.head? ≠ some 42
def InlI (ws : List Wd) (i : Nat) (S : ByteArray) : Prop := ∃ ys, S = bs (gapsQ ys) ∧ InlG ws i ys

theorem gapsQ_snoc (ys : List (Nat × Wd)) (g : Nat) (w : Wd) : gapsQ (ys ++ [(g, w)]) = gapsQ ys ++ (List.replicate g 32 ++ w) := by simp [gapsQ]
theorem gapsQ_len : ∀ (ys : List (Nat × Wd)), (∀ y ∈ ys, y.1 ≤ 3 ∧ Calm y.2) → (gapsQ ys).length ≤ 23 * ys.length
  | [], _ => by simp [gapsQ]
  | y :: ys, h => by
    have h1 := h y List.mem_cons_self
    have h2 := gapsQ_len ys (fun z hz => h z (List.mem_cons_of_mem _ hz))
    have h3 := h1.2.2.1
    have e : gapsQ (y :: ys) = List.replicate y.1 32 ++ (y.2 ++ gapsQ ys) := by simp [gapsQ]
    rw [e, List.length_append, List.length_append, List.length_replicate, List.length_cons]
    omega
theorem InlI.start (ws : List Wd) : InlI ws 0 ⟨#[]⟩ := ⟨[], rfl, by simp, rfl, fun y h => by simp at h, fun y h => by simp at h, fun y h => by simp at h⟩
theorem InlI.size {ws : List Wd} {i : Nat} {S : ByteArray} (H : InlI ws i S) : S.size ≤ 23 * i := by
  obtain ⟨ys, rfl, hg⟩ := H
  rw [bs_size]
  have := gapsQ_len ys hg.calm
  rw [hg.len] at this
  exact this
theorem InlI.next {ws : List Wd} {i : Nat} {S : ByteArray} (H : InlI ws i S) (hi : i < ws.length) (hc : Calm ws[i]) (g : Nat) (hg : (i = 0 ∧ g = 0 ∧ ws[i].head? ≠ some 42) ∨ (i ≠ 0 ∧ 1 ≤ g ∧ g ≤ 3)) : InlI ws (i + 1) (S ++ bs (List.replicate g 32) ++ bs ws[i]) := by
  obtain ⟨ys, rfl, h⟩ := H
  refine ⟨ys ++ [(g, ws[i])], by rw [bsq_app, bsq_app, gapsQ_snoc, List.append_assoc], ?_, by simp [h.len], ?_, ?_, ?_⟩
  · rw [List.take_succ_eq_append_getElem hi, List.map_append, h.words]
    rfl
  · intro y hy
    rcases List.mem_append.1 hy with hy | hy
    · exact h.calm y hy
    · obtain rfl : y = (g, ws[i]) := by simpa using hy
      exact ⟨by show g ≤ 3; omega, hc⟩
  · intro y hy
    cases ys with
    | nil => simp at hy
    | cons y0 ys =>
      have hl := h.len
      rw [List.length_cons] at hl
      rw [List.cons_append, List.tail_cons] at hy
      rcases List.mem_append.1 hy with hy | hy
      · exact h.gap y hy
      · obtain rfl : y = (g, ws[i]) := by simpa using hy
        show 1 ≤ g
        omega
  · intro y hy
    cases ys with
    | nil =>
      have hl := h.len
      simp at hy
      subst hy
      simp at hl
      rcases hg with ⟨_, h1, h2⟩ | ⟨h1, _⟩
      · exact ⟨h1, h2⟩
      · exact absurd hl.symm h1
    | cons y0 ys => exact h.head y (by simpa using hy)
/-- An inline line is told as its words. -/
theorem InlI.stop {ws : List Wd} {S : ByteArray} (H : InlI ws ws.length S) (h0 : 0 < ws.length) (h1 : ws.length ≤ 40) : ∃ T, S = bs T ∧ T.length ≤ 920 ∧ (∀ w ∈ ws, w.length ≤ 4096) ∧ Rq.Go (St.new (T ++ [32, 13, 10])) [ws] (.more (St.new [])) := by
  obtain ⟨ys, rfl, h⟩ := H
  have hlen := gapsQ_len ys h.calm
  have hl := h.len
  have hw := h.words
  rw [List.take_length] at hw
  refine ⟨gapsQ ys, rfl, by omega, fun w hm => ?_, ?_⟩
  · rw [← hw] at hm
    obtain ⟨y, hy, rfl⟩ := List.mem_map.1 hm
    have := (h.calm y hy).2.2.1
    omega
  cases ys with
  | nil => simp at hl; omega
  | cons y0 ys =>
    obtain ⟨g0, w0⟩ := y0
    obtain ⟨hg0, h42⟩ := h.head _ rfl
    have hg0' : g0 = 0 := hg0
    have h42' : w0.head? ≠ some 42 := h42
    subst hg0'
    have hc0 : Calm w0 := (h.calm _ List.mem_cons_self).2
    have e : gapsQ ((0, w0) :: ys) = w0 ++ gapsQ ys := by simp [gapsQ]
    have hcalm : ∀ x ∈ gapsQ ((0, w0) :: ys) ++ [32], x ≠ 10 := by
      intro x hx
      rcases List.mem_append.1 hx with hx | hx
      · obtain ⟨u, hu, hx⟩ := List.mem_flatten.1 hx
        obtain ⟨y, hy, rfl⟩ := List.mem_map.1 hu
        rcases List.mem_append.1 hx with hx | hx
        · rw [List.eq_of_mem_replicate hx]; decide
        · exact ((h.calm y hy).2.2.2 x hx).2.1
      · obtain rfl : x = 32 := by simpa using hx
        decide
    have hq := lineQ_calm (gapsQ ((0, w0) :: ys) ++ [32]) [] hcalm (by rw [List.length_append, List.length_singleton]; omega)
    have hq2 : lineQ (gapsQ ((0, w0) :: ys) ++ [32, 13, 10]) = .ok (gapsQ ((0, w0) :: ys) ++ [32], []) := by
      rw [← hq]; simp
    have hf : fieldsQ (gapsQ ((0, w0) :: ys) ++ [32]) [] = ws := by
      rw [e, List.append_assoc, fieldsQ_many _ _ _ (fun x hx => (hc0.2.2 x hx).1), List.nil_append, fields_join ys w0 (fun y hy => ⟨h.gap y hy, (h.calm y (List.mem_cons_of_mem _ hy)).2.1, fun x hx => ((h.calm y (List.mem_cons_of_mem _ hy)).2.2.2 x hx).1⟩), if_neg hc0.1, ← hw]
      rfl
    have hh : (gapsQ ((0, w0) :: ys) ++ [32]).head? ≠ some 42 := by
      rw [e, List.append_assoc]
      cases w0 with
      | nil => exact absurd rfl hc0.1
      | cons x w0 => simpa using h42'
    have hst : Rq.step (St.new (gapsQ ((0, w0) :: ys) ++ [32, 13, 10])) = .ok (St.new [], [ws]) := by
      rw [step_new, lineStep_text hq2 hh, hf, if_neg (by omega), if_neg (fun e => by rw [e] at h0; simp at h0)]
    have := Rq.Go.next hst (Rq.Go.stop (s := St.new []) (e := 11) rfl)
    simpa [stopOf] using this
end Go.Proofs.YtcikelcecfapcaaDoor
