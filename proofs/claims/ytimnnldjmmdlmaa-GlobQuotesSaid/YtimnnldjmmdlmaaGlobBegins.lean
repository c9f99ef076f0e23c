/-
  What glob.begins and glob.find answer.
-/
import Derived.Test.YtimnnldjmmdlmaaGlobNext
import Derived.Laws.AppendOwn
namespace Go.Proofs.Ytimnnldjmmdlmaa
open Go.RowKit

/-- The cells of classes in a row. -/
def Flat (Ps : List Glob.CSet) (xs : List Value) : Prop :=
  xs.length = Ps.length * 4 ∧ ∀ (i : Nat) (P : Glob.CSet), Ps[i]? = some P → ∃ x0 x1 x2 x3 : Nat, Words P #[.int .u64 x0, .int .u64 x1, .int .u64 x2, .int .u64 x3] ∧
    xs[i * 4]? = some (.int .u64 x0) ∧ xs[i * 4 + 1]? = some (.int .u64 x1) ∧ xs[i * 4 + 2]? = some (.int .u64 x2) ∧ xs[i * 4 + 3]? = some (.int .u64 x3)

/-- A run: a slice of classes, nil or a row of its own from B on. -/
def RunAt (B : Nat) (v : Value) (Ps : List Glob.CSet) (w : World) : Prop := ∃ xs, w.ownsRow B 47 4 v Ps.length xs ∧ Flat Ps xs

/-- What a row of a run gives a walk. -/
theorem run_cells {B : Nat} {v : Value} {Ps : List Glob.CSet} {w : World} (h : RunAt B v Ps w) (k : Nat) (hk : k < Ps.length) :
    ∃ g cap x0 x1 x2 x3, v = .slice (some ⟨g, 0, none⟩) Ps.length cap ∧ g < w.heap.size ∧ Ps.length ≤ cap ∧ cap ≤ maxLen ∧ Words Ps[k] #[.int .u64 x0, .int .u64 x1, .int .u64 x2, .int .u64 x3] ∧
      w.cell? ⟨g, k * 4, none⟩ = some (.int .u64 x0) ∧ w.cell? ⟨g, k * 4 + 1, none⟩ = some (.int .u64 x1) ∧ w.cell? ⟨g, k * 4 + 2, none⟩ = some (.int .u64 x2) ∧ w.cell? ⟨g, k * 4 + 3, none⟩ = some (.int .u64 x3) := by
  obtain ⟨xs, ⟨hl, hv⟩, hF1, hF2⟩ := h
  rcases hv with ⟨_, h0⟩ | ⟨g, cap, cur, rfl, hb, hg, hn, hm, hsz, htk⟩
  · omega
  · obtain ⟨x0, x1, x2, x3, hW, y0, y1, y2, y3⟩ := hF2 k Ps[k] (List.getElem?_eq_getElem hk)
    have hc : ∀ j u, xs[j]? = some u → w.cell? ⟨g, j, none⟩ = some u := by
      intro j u hj
      rw [Lib.cell_of_heap hg, ← Array.getElem?_toList]
      rw [← htk, List.getElem?_take] at hj
      split at hj
      · exact hj
      · cases hj
    exact ⟨g, cap, x0, x1, x2, x3, rfl, (Array.getElem?_eq_some_iff.1 hg).1, hn, hm, hW, hc _ _ y0, hc _ _ y1, hc _ _ y2, hc _ _ y3⟩

theorem run_form {B : Nat} {v : Value} {Ps : List Glob.CSet} {w : World} (h : RunAt B v Ps w) : ∃ a cap, v = .slice a Ps.length cap ∧ Ps.length ≤ cap ∧ cap ≤ maxLen := by
  obtain ⟨xs, ⟨hl, hv⟩, _⟩ := h
  rcases hv with ⟨rfl, h0⟩ | ⟨g, cap, cur, rfl, hb, hg, hn, hm, _⟩
  · exact ⟨none, 0, by rw [h0], by omega, by unfold maxLen; omega⟩
  · exact ⟨_, cap, rfl, hn, hm⟩

theorem run_below {B : Nat} {v : Value} {Ps : List Glob.CSet} {w w' : World} (h : RunAt B v Ps w) (hb : Below w.heap.size w w') : RunAt B v Ps w' := by
  obtain ⟨xs, h1, h2⟩ := h
  exact ⟨xs, h1.kept (row := none) ⟨hb.os, hb.tape, hb.output, hb.size, fun k hk _ => hb.block k hk⟩ (by cases hv : v.ownBlock <;> simp), h2⟩

set_option maxHeartbeats 1000000 in
theorem begins_any (s : ByteArray) (B : Nat) (v : Value) (Ps : List Glob.CSet) (w : World) (hR : RunAt B v Ps w) (hs : s.size ≤ 1099511627776) (hl : Ps.length ≤ s.size) :
    Calls Try.prog 13 #[.string s, v] w fun e w' => e = .returned (.bool (Glob.begins s.data.toList Ps)) ∧ Below w.heap.size w w' := by
  obtain ⟨a, cap, rfl, _, _⟩ := run_form hR
  go_enter Try.func13, Try.ntmps13
  go_wp2
  go_loopw [8] (fun i wr => ∃ k : Nat, k ≤ Ps.length ∧ i = .int .i64 k ∧ Hid (Glob.begins s.data.toList Ps = Glob.begins (s.data.toList.drop k) (Ps.drop k)) ∧ Below w.heap.size w wr) (fun i _ => Ps.length - (intOf i).toNat)
  case atStart => exact ⟨0, Nat.zero_le _, rfl, Lib.hid rfl, Below.refl _ _⟩
  case round =>
    obtain ⟨k, hk, rfl, HE, HB⟩ := hrel
    by_cases hlt : k < Ps.length
    · have hlt2 : k < s.size := by omega
      obtain ⟨g, cap', x0, x1, x2, x3, hv, hg, _, _, hW, c0, c1, c2, c3⟩ := run_cells (run_below hR HB) k hlt
      injection hv with ha hn hc
      subst ha hc
      have hd : decide ((k : Int) < (Ps.length : Int)) = true := by simp; omega
      have HE2 : Hid (Glob.begins s.data.toList Ps = (Ps[k] s[k] && Glob.begins (s.data.toList.drop (k + 1)) (Ps.drop (k + 1)))) := by
        have h := HE.out
        rw [drop_get s k hlt2, List.drop_eq_getElem_cons hlt] at h
        exact Lib.hid h
      clear HE
      cases hq : Ps[k] s[k]
      · go_wp2
        go_region_with (go_at_call 17; refine (has_any Ps[k] _ hW s[k] _).mono ?_; rw [hq]; rintro e w1 ⟨rfl, B1⟩)
        all_goals
          go_wp2
          go_ret
          refine ⟨by rw [HE2.out, hq]; rfl, ?_⟩
          first
            | exact (HB.drew.trans (B1.mono HB.size)).drew
            | exact HB.drew.trans (B1.mono HB.size)
            | exact (HB.trans (B1.mono HB.size)).drew
      · go_wp2
        go_region_with (go_at_call 17; refine (has_any Ps[k] _ hW s[k] _).mono ?_; rw [hq]; rintro e w1 ⟨rfl, B1⟩)
        all_goals
          go_wp2
          go_roundw
          case rel =>
            refine ⟨k + 1, by omega, by go_num, Lib.hid (by rw [HE2.out, hq]; rfl), ?_⟩
            first
              | exact (HB.drew.trans (B1.mono HB.size)).drew
              | exact HB.drew.trans (B1.mono HB.size)
              | exact (HB.trans (B1.mono HB.size)).drew
          case measure => simp [intOf]; omega
    · have hd : decide ((k : Int) < (Ps.length : Int)) = false := by simp; omega
      have HE2 : Hid (Glob.begins s.data.toList Ps = true) := by
        have h := HE.out
        have hn : Ps.drop k = [] := List.drop_eq_nil_of_le (by omega)
        rw [hn] at h
        exact Lib.hid (h.trans (by cases (s.data.toList.drop k) <;> rfl))
      go_wp2
      go_ret
      exact ⟨by rw [HE2.out]; rfl, HB⟩

theorem begins_at_any (l : List UInt8) (B : Nat) (v : Value) (Ps : List Glob.CSet) (w : World) (hR : RunAt B v Ps w) (hs : l.length ≤ 1099511627776) (hl : Ps.length ≤ l.length) :
    Calls Try.prog 13 #[.string (bs l), v] w fun e w' => e = .returned (.bool (Glob.begins l Ps)) ∧ Below w.heap.size w w' := by
  have := begins_any (bs l) B v Ps w hR (by rw [bs_size]; exact hs) (by rw [bs_size]; exact hl)
  rwa [list_bs] at this

end Go.Proofs.Ytimnnldjmmdlmaa
