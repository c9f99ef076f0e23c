/-
  What glob.split answers: the runs of a pattern.
-/
import Derived.Test.YtimnnldjmmdlmaaGlobFind
import Derived.Deep.AppendLies
import Derived.Deep.RegionLaw
namespace Go.Proofs.Ytimnnldjmmdlmaa
open Go.RowKit

theorem info_class : (Try.prog.info? 47).map (fun i => (i.zero, i.size, i.bytes)) = some (some (.agg #[.int .u64 0, .int .u64 0, .int .u64 0, .int .u64 0]), 4, 32) := by kernel_rfl
theorem info_run : (Try.prog.info? 38).map (fun i => (i.zero, i.size, i.bytes)) = some (some (.slice none 0 0), 1, 24) := by kernel_rfl

theorem run_kept {B : Nat} {v : Value} {Ps : List Glob.CSet} {w w' : World} {row : Option Nat} (h : RunAt B v Ps w) (hg : w.grownBy w' row) (hne : v.ownBlock = none ∨ v.ownBlock ≠ row) : RunAt B v Ps w' := by
  obtain ⟨xs, h1, h2⟩ := h
  exact ⟨xs, h1.kept hg hne, h2⟩

/-- A run's row is no block of another type. -/
theorem run_block {B : Nat} {v : Value} {Ps : List Glob.CSet} {w : World} {b : Nat} {cs : Array Value} {T : TypeId} (h : RunAt B v Ps w) (hb : w.heap[b]? = some (.cells cs T (0, 0))) (hT : T ≠ 47) : v.ownBlock ≠ some b := by
  obtain ⟨xs, ⟨_, hv⟩, _⟩ := h
  rcases hv with ⟨rfl, _⟩ | ⟨g, cap, cur, rfl, _, hg, _⟩
  · simp [Value.ownBlock]
  · intro h
    simp only [Value.ownBlock, Option.some.injEq] at h
    subst h
    rw [hg] at hb
    simp only [Option.some.injEq, Obj.cells.injEq] at hb
    exact hT hb.2.1.symm

theorem run_lt {B : Nat} {v : Value} {Ps : List Glob.CSet} {w : World} (h : RunAt B v Ps w) : ∀ k, v.ownBlock = some k → B ≤ k ∧ k < w.heap.size := by
  obtain ⟨xs, h1, _⟩ := h
  exact h1.lt

/-- The runs under way: 'done' of them done, their slices vs; 'cur' the last one, its slice u. -/
structure Runs (B : Nat) (v : Value) (done : List (List Glob.CSet)) (cur : List Glob.CSet) (w : World) (vs : List Value) (u : Value) : Prop where
  own : w.ownsRow B 38 1 v (done.length + 1) (vs ++ [u])
  len : vs.length = done.length
  inner : ∀ (i : Nat) (x : Value) (Ps : List Glob.CSet), vs[i]? = some x → done[i]? = some Ps → RunAt B x Ps w
  last : RunAt B u cur w
  apart : ∀ x ∈ vs, x.ownBlock = none ∨ x.ownBlock ≠ u.ownBlock

theorem flat_nil : Flat [] [] := ⟨rfl, fun i P h => by simp at h⟩

theorem run_nil (B : Nat) (w : World) : RunAt B (.slice none 0 0) [] w := ⟨[], World.ownsRow_nil w B _ 4, flat_nil⟩

/-- Where the outer row lies. -/
theorem Runs.form {B : Nat} {v : Value} {done : List (List Glob.CSet)} {cur : List Glob.CSet} {w : World} {vs : List Value} {u : Value} (h : Runs B v done cur w vs u) :
    ∃ G cap cs, v = .slice (some ⟨G, 0, none⟩) (done.length + 1) cap ∧ B ≤ G ∧ w.heap[G]? = some (.cells cs 38 (0, 0)) ∧ done.length + 1 ≤ cap ∧ cap ≤ maxLen ∧ cs.size = cap ∧ cs.toList.take (done.length + 1) = vs ++ [u] := by
  rcases h.own.2 with ⟨_, h0⟩ | ⟨G, cap, cs, rfl, hB, hg, hn, hm, hs, ht⟩
  · omega
  · exact ⟨G, cap, cs, rfl, hB, hg, hn, hm, by simpa using hs, by simpa using ht⟩

/-- A string's length in a cell. -/
def partsLen (p : Nat) (w : World) : Nat :=
  match w.cell? ⟨p, 0, none⟩ with
  | some v => strLen v
  | none => 0

theorem partsLen_of {p : Nat} {l : List UInt8} {b : Bool} {w : World} (h : PartsAt p l b w) : partsLen p w = l.length := by
  unfold partsLen
  have : w.cell? ⟨p, 0, none⟩ = some (.string (bs l)) := by rw [Lib.cell_of_heap h]; rfl
  rw [this]
  exact bs_size l

/-- Another world in which p and the rows stand as they stood. -/
theorem Runs.kept {B : Nat} {v : Value} {done : List (List Glob.CSet)} {cur : List Glob.CSet} {w w' : World} {vs : List Value} {u : Value} (h : Runs B v done cur w vs u) {p : Nat} {cs : Array Value} {T : TypeId}
    (hp : w.heap[p]? = some (.cells cs T (0, 0))) (h1 : T ≠ 47) (h2 : T ≠ 38) (hg : w.grownBy w' (some p)) : Runs B v done cur w' vs u where
  own := h.own.kept hg (Or.inr (Lib.ownBlock_ne h.own hp h2))
  len := h.len
  inner := fun i x Ps hx hP => run_kept (h.inner i x Ps hx hP) hg (Or.inr (run_block (h.inner i x Ps hx hP) hp h1))
  last := run_kept h.last hg (Or.inr (run_block h.last hp h1))
  apart := h.apart

theorem Runs.drew {B : Nat} {v : Value} {done : List (List Glob.CSet)} {cur : List Glob.CSet} {w : World} {vs : List Value} {u : Value} (h : Runs B v done cur w vs u) : Runs B v done cur w.drew vs u :=
  ⟨h.own, h.len, h.inner, h.last, h.apart⟩

/-- A star: a new run, nil. -/
theorem Runs.star {B : Nat} {v v' : Value} {done : List (List Glob.CSet)} {cur : List Glob.CSet} {w w' : World} {vs : List Value} {u : Value} (h : Runs B v done cur w vs u) (hg : w.grownBy w' v.ownBlock)
    (hown : w'.ownsRow B 38 1 v' (done.length + 1 + 1) ((vs ++ [u]) ++ [.slice none 0 0])) : Runs B v' (done ++ [cur]) [] w' (vs ++ [u]) (.slice none 0 0) := by
  obtain ⟨G, cap, cs, rfl, hBG, hG, _, _, _, _⟩ := h.form
  have hk : ∀ x Ps, RunAt B x Ps w → RunAt B x Ps w' := fun x Ps hx => run_kept hx hg (Or.inr (run_block hx hG (by decide)))
  refine ⟨by simpa using hown, by simp [h.len], ?_, run_nil B w', fun x _ => ?_⟩
  · intro i x Ps hx hP
    rcases Nat.lt_or_ge i vs.length with hi | hi
    · rw [List.getElem?_append_left hi] at hx
      rw [List.getElem?_append_left (by rw [← h.len]; exact hi)] at hP
      exact hk _ _ (h.inner i x Ps hx hP)
    · rw [List.getElem?_append_right hi] at hx
      rw [List.getElem?_append_right (by rw [← h.len]; exact hi)] at hP
      have hz : i - vs.length = 0 := by
        rcases Nat.eq_zero_or_pos (i - vs.length) with h0 | h0
        · exact h0
        · rw [List.getElem?_eq_none (by simp; omega)] at hx; cases hx
      rw [hz] at hx
      rw [← h.len, hz] at hP
      simp only [List.getElem?_cons_zero, Option.some.injEq] at hx hP
      subst hx hP
      exact hk _ _ h.last
  · cases hv : x.ownBlock with
    | none => exact Or.inl rfl
    | some k => exact Or.inr (by simp [Value.ownBlock])

theorem flat_snoc {Ps : List Glob.CSet} {xs : List Value} (h : Flat Ps xs) (P : Glob.CSet) (x0 x1 x2 x3 : Nat) (hW : Words P #[.int .u64 x0, .int .u64 x1, .int .u64 x2, .int .u64 x3]) :
    Flat (Ps ++ [P]) (xs ++ [.int .u64 x0, .int .u64 x1, .int .u64 x2, .int .u64 x3]) := by
  obtain ⟨hl, hF⟩ := h
  refine ⟨by simp [hl]; omega, fun i Q hQ => ?_⟩
  rcases Nat.lt_or_ge i Ps.length with hi | hi
  · rw [List.getElem?_append_left hi] at hQ
    obtain ⟨y0, y1, y2, y3, hY, e0, e1, e2, e3⟩ := hF i Q hQ
    exact ⟨y0, y1, y2, y3, hY, by rw [List.getElem?_append_left (by omega)]; exact e0, by rw [List.getElem?_append_left (by omega)]; exact e1, by rw [List.getElem?_append_left (by omega)]; exact e2, by rw [List.getElem?_append_left (by omega)]; exact e3⟩
  · rw [List.getElem?_append_right hi] at hQ
    have hz : i = Ps.length := by
      rcases Nat.eq_zero_or_pos (i - Ps.length) with h0 | h0
      · omega
      · rw [List.getElem?_eq_none (by simp; omega)] at hQ; cases hQ
    subst hz
    simp only [Nat.sub_self, List.getElem?_cons_zero, Option.some.injEq] at hQ
    subst hQ
    refine ⟨x0, x1, x2, x3, hW, ?_, ?_, ?_, ?_⟩
    · rw [← hl, List.getElem?_append_right (Nat.le_refl _), Nat.sub_self]; rfl
    · rw [← hl, List.getElem?_append_right (by omega), Nat.add_sub_cancel_left]; rfl
    · rw [← hl, List.getElem?_append_right (by omega), Nat.add_sub_cancel_left]; rfl
    · rw [← hl, List.getElem?_append_right (by omega), Nat.add_sub_cancel_left]; rfl

/-- The last run's new slice stored. -/
theorem Runs.put {B : Nat} {v : Value} {done : List (List Glob.CSet)} {cur : List Glob.CSet} {w w1 : World} {vs : List Value} {u : Value} (h : Runs B v done cur w vs u) (hg : w.grownBy w1 u.ownBlock)
    {cur' : List Glob.CSet} {g n cap : Nat} (hlast : RunAt B (.slice (some ⟨g, 0, none⟩) n cap) cur' w1) (hat : u.ownBlock = some g ∨ g = w.heap.size) {G c : Nat} (hv : v = .slice (some ⟨G, 0, none⟩) (done.length + 1) c) :
    Runs B v done cur' (w1.setCell ⟨G, done.length, none⟩ (.slice (some ⟨g, 0, none⟩) n cap)) vs (.slice (some ⟨g, 0, none⟩) n cap) := by
  obtain ⟨G', cap', cs, hv', hBG, hG, hn, hm, hsz, htk⟩ := h.form
  rw [hv] at hv'
  simp only [Value.slice.injEq, Option.some.injEq, Addr.mk.injEq, and_true, true_and] at hv'
  obtain ⟨rfl, rfl⟩ := hv'
  subst hv
  have hGl : G < w.heap.size := (Array.getElem?_eq_some_iff.1 hG).1
  have hu : u.ownBlock ≠ some G := run_block h.last hG (by decide)
  have hG1 : w1.heap[G]? = some (.cells cs 38 (0, 0)) := (hg.block G hGl (Ne.symm hu)).trans hG
  have hs : w1.grownBy (w1.setCell ⟨G, done.length, none⟩ (.slice (some ⟨g, 0, none⟩) n cap)) (some G) := grown_setp (grown_refl w1 (some G)) _ _
  have hin : ∀ x Ps, x ∈ vs → RunAt B x Ps w → RunAt B x Ps (w1.setCell ⟨G, done.length, none⟩ (.slice (some ⟨g, 0, none⟩) n cap)) := fun x Ps hx hR =>
    run_kept (run_kept hR hg (h.apart x hx)) hs (Or.inr (run_block hR hG (by decide)))
  refine ⟨⟨by simp [h.len], .inr ⟨G, c, cs.set! done.length (.slice (some ⟨g, 0, none⟩) n cap), rfl, hBG, heap_set hG1 _, hn, hm, by simp [hsz], ?_⟩⟩, h.len, fun i x Ps hx hP => hin x Ps (List.mem_of_getElem? hx) (h.inner i x Ps hx hP), ?_, ?_⟩
  · rw [Nat.mul_one]
    have e : (cs.set! done.length (.slice (some ⟨g, 0, none⟩) n cap)).toList = cs.toList.set done.length (.slice (some ⟨g, 0, none⟩) n cap) := by simp
    rw [e, List.take_set, htk, ← h.len]
    rw [List.set_append_right _ _ (Nat.le_refl _), Nat.sub_self]
    rfl
  · exact run_kept hlast hs (Or.inr (run_block hlast hG1 (by decide)))
  · intro x hx
    rcases h.apart x hx with h0 | h0
    · exact Or.inl h0
    · cases hxb : x.ownBlock with
      | none => exact Or.inl rfl
      | some k =>
        right
        simp only [Value.ownBlock]
        intro e
        simp only [Option.some.injEq] at e
        subst e
        rcases hat with ha | ha
        · exact h0 (by rw [hxb, ha])
        · obtain ⟨i, hi, rfl⟩ := List.mem_iff_getElem.1 hx
          have hd : i < done.length := by rw [← h.len]; exact hi
          have := (run_lt (h.inner i _ done[i] (List.getElem?_eq_getElem hi) (List.getElem?_eq_getElem hd)) _ hxb).2
          omega

set_option maxHeartbeats 2000000 in
theorem split_any (l : List UInt8) (hs : l.length ≤ 1099511627776) (w : World) :
    Calls Try.prog 12 #[.string (bs l)] w fun e w' => ∃ v done cur vs u, e = .returned v ∧ Glob.split l = done ++ [cur] ∧ Runs w.heap.size v done cur w' vs u ∧ done.length + cur.length ≤ l.length ∧ Below w.heap.size w w' := by
  obtain ⟨ic, hic, hcz, hcs, hcb⟩ := info_parts info_class
  obtain ⟨ir, hir, hrz, hrs, hrb⟩ := info_parts info_run
  go_enter Try.func12, Try.ntmps12
  go_wp2
  go_loopw [3] (fun t wr => ∃ (rest : List UInt8) (b : Bool) (done : List (List Glob.CSet)) (cur : List Glob.CSet) (vs : List Value) (u : Value), Runs w.heap.size t done cur wr vs u ∧ PartsAt (w.heap.size + 1) rest b wr ∧ Hid (Glob.split l = done ++ Glob.splitFrom rest b cur) ∧ done.length + cur.length + rest.length ≤ l.length ∧ Below w.heap.size w wr) (fun _ wr => partsLen (w.heap.size + 1) wr)
  case atStart =>
    have h0 : ((w.alloc (.cells #[.slice none 0 0] 38)).alloc (.cells #[.string (bs l), .bool false] 44)).heap[w.heap.size]? = some (.cells #[.slice none 0 0] 38 (0, 0)) := (Lib.alloc_old _ _ _ (by simp)).trans (heap_alloc_new _ _)
    refine ⟨l, false, [], [], [], .slice none 0 0, ⟨⟨rfl, .inr ⟨w.heap.size, 1, _, rfl, Nat.le_refl _, h0, Nat.le_refl _, by unfold maxLen; omega, rfl, rfl⟩⟩, rfl, fun i x Ps hx _ => by simp at hx, run_nil _ _, fun x hx => by simp at hx⟩, heap_alloc_new' _ _ _ (by simp), Lib.hid rfl, by simp, ((Below.refl _ _).alloc (Nat.le_refl _) _).alloc (by simp) _⟩
  case round =>
    obtain ⟨rest, b, done, cur, vs, u, HR, HP, HE, hlen, HB⟩ := hrel
    obtain ⟨G, cap, cs, rfl, hBG, hG, hn, hm, hcs', htk⟩ := HR.form
    have c0 : wr.cell? ⟨w.heap.size + 1, 0, none⟩ = some (.string (bs rest)) := by rw [Lib.cell_of_heap HP]; rfl
    cases rest with
    | nil =>
      have hn := bytes_nil
      go_wp2
      refine bodyPost_ret (v := .slice (some ⟨G, 0, none⟩) (done.length + 1) cap) (by simp [results, Try.results12, go_sem]) rfl ⟨_, done, cur, vs, u, rfl, HE.out, HR, by simp at hlen; omega, HB⟩
    | cons c r =>
      have hne := bytes_ne c r
      have hpos : 0 < (bs (c :: r)).size := by rw [bs_size]; simp
      have hfrom : (bs (c :: r)).extract 1 (bs (c :: r)).size = bs r := bs_from _ 1 _ (bs_size _)
      have fp := frozen4 HP
      have hb := byte_is c 42 (by omega)
      cases h42 : (c == 42) with
      | true =>
        have g1 : ((((bs (c :: r))[0]).toNat : Int) == 42) = true := hb.trans h42
        clear hb
        have hdl : done.length ≤ 1099511627776 := by simp at hlen; omega
        have HR1 := HR.kept HP (by decide) (by decide) (grown_setp (grown_refl wr (some (w.heap.size + 1))) 0 (.string (bs r)))
        have HP1 : PartsAt (w.heap.size + 1) r b (wr.setCell ⟨w.heap.size + 1, 0, none⟩ (.string (bs r))) := heap_set HP _
        have hsz := HB.size
        go_wp2_with (at_builtin; refine wpList_append_lies _ rfl _ _ _ rfl w.heap.size 38 ir (.slice none 0 0) 1 24 Try.underlying36 hir hrz hrs hrb rfl (by omega) _ _ _ rfl (HR1.own.alloc _) ⟨wr.heap.size, 0, none⟩ 1 1 [.slice none 0 0] rfl rfl ?c1 (by intro x hx; simp at hx; subst hx; rfl) (by omega) (by unfold maxLen; omega) (by omega) (by simp; omega) (wr.heap.size + 1) (by simp) ?_)
        case c1 => exact World.news_of_block (heap_alloc_new' _ (.cells #[.slice none 0 0] 38) _ (by simp))
        intro g' cap' w3 hown hgrow hat hlt
        have HR2 := Runs.star (HR1.kept (T := 44) (p := w.heap.size + 1) HP1 (by decide) (by decide) (World.grownBy_alloc _ (.cells #[.slice none 0 0] 38) _)) hgrow (by simpa using hown)
        have HP3 : PartsAt (w.heap.size + 1) r b w3 := (hgrow.block _ (by have := (Array.getElem?_eq_some_iff.1 HP).1; simp; omega) (fun e => by
          simp only [Value.ownBlock, Option.some.injEq] at e
          rw [← e, HP] at hG
          simp at hG)).trans ((Lib.alloc_old _ _ _ (by have := (Array.getElem?_eq_some_iff.1 HP).1; simp; omega)).trans HP1)
        have HB3 : Below w.heap.size w w3 := ((HB.setCell (p := ⟨w.heap.size + 1, 0, none⟩) (by simp) _).alloc (by simp; omega) _).grown hgrow (by simp; omega) (fun k hk => by simp only [Value.ownBlock, Option.some.injEq] at hk; omega)
        go_wp2
        go_roundw
        case rel =>
          refine ⟨r, b, done ++ [cur], [], vs ++ [u], .slice none 0 0, HR2, HP3, Lib.hid ?_, by simp at hlen ⊢; omega, HB3⟩
          have h := HE.out
          have hc : c = 42 := by simpa using h42
          rw [hc, Glob.splitFrom_star] at h
          rw [h]
          simp
        case measure => rw [partsLen_of HP3, partsLen_of HP]; simp
      | false =>
        have g1 : ((((bs (c :: r))[0]).toNat : Int) == 42) = false := hb.trans h42
        clear hb
        have hdl : done.length ≤ 1099511627776 := by simp at hlen; omega
        have hcl : cur.length ≤ 1099511627776 := by simp at hlen; omega
        have hrl : (c :: r).length ≤ 1099511627776 := by omega
        have hi0 : (0 : Int) ≤ (done.length : Int) := by omega
        have hi1 : (done.length : Int) < (done.length : Int) + 1 := by omega
        have cu : wr.cell? ⟨G, done.length, none⟩ = some u := by
          rw [Lib.cell_of_heap hG, ← Array.getElem?_toList]
          have h := congrArg (fun l : List Value => l[done.length]?) htk
          simp only [List.getElem?_take, Nat.lt_succ_self, if_true] at h
          rw [h, ← HR.len, List.getElem?_append_right (Nat.le_refl _), Nat.sub_self]
          rfl
        obtain ⟨xs, hux, hfx⟩ := HR.last
        have HPd : PartsAt (w.heap.size + 1) (c :: r) b wr.drew := HP
        go_wp2_with fail
        have hpG : w.heap.size + 1 ≠ G := by
          intro e
          rw [← e, HP] at hG
          simp at hG
        have hGl := (Array.getElem?_eq_some_iff.1 hG).1
        have huG : u.ownBlock ≠ some G := run_block HR.last hG (by decide)
        have hup : u.ownBlock ≠ some (w.heap.size + 1) := run_block HR.last HP (by decide)
        have huxd : wr.drew.ownsRow w.heap.size 47 4 u cur.length xs := hux
        have hGd : wr.drew.heap[G]? = some (.cells cs 38 (0, 0)) := hG
        have hGld : G < wr.drew.heap.size := hGl
        have fG := frozen4 hG
        go_region_law (first
          | (go_simp
             go_at_call 16
             refine (next_any (c :: r) (by simp) hrl b (w.heap.size + 1) wr.drew HPd).mono ?_
             rintro e w1 ⟨⟨x0, x1, x2, x3, rfl, hW⟩, HP1, hg1⟩
             have hG1 := (hg1.block G hGld (fun e => hpG (Option.some.inj e).symm)).trans hGd
             have hG1l := (Array.getElem?_eq_some_iff.1 hG1).1
             have hux1 := huxd.kept hg1 (Or.inr hup)
             have cu1 : w1.cell? ⟨G, done.length, none⟩ = some u := (World.cell?_of_block (w := wr) (hG1.trans hG.symm)).trans cu
             dsimp only)
          | (refine step_append_lies _ (by rfl) (.tmp 31) (.tmp 33) 38 (by rfl) w.heap.size 47 ic (.agg #[.int .u64 0, .int .u64 0, .int .u64 0, .int .u64 0]) 4 32 Try.underlying38 hic hcz hcs hcb (by rfl) (by omega) u cur.length xs (by rfl) (hux1.alloc _) ⟨w1.heap.size, 0, none⟩ 1 1 [.int .u64 x0, .int .u64 x1, .int .u64 x2, .int .u64 x3] (by rfl) (by rfl) (World.news_of_block (heap_alloc_new w1 (.cells #[.int .u64 x0, .int .u64 x1, .int .u64 x2, .int .u64 x3] 47))) (by intro x hx; simp at hx; rcases hx with rfl | rfl | rfl | rfl <;> rfl) (by omega) (by unfold maxLen; omega) (by omega) (by have := HB.size; simp; omega) (w1.heap.size + 1) (by simp) ?_
             intro g' cap' w3 hown hgrow hat hlt
             have hG3 := (hgrow.block G (by simp; omega) (Ne.symm huG)).trans ((Lib.alloc_old w1 (.cells #[.int .u64 x0, .int .u64 x1, .int .u64 x2, .int .u64 x3] 47) G hG1l).trans hG1)
             have f3 := frozen4 hG3
             have cu3 : w3.cell? ⟨G, done.length, none⟩ = some u := (World.cell?_of_block (w := wr) (hG3.trans hG.symm)).trans cu))
        all_goals
          have HR1 := HR.drew.kept HPd (by decide) (by decide) hg1
          have HR1a := HR1.kept HP1 (by decide) (by decide) (World.grownBy_alloc w1 (.cells #[.int .u64 x0, .int .u64 x1, .int .u64 x2, .int .u64 x3] 47) _)
          have hlast : RunAt w.heap.size (.slice (some ⟨g', 0, none⟩) (cur.length + 1) cap') (cur ++ [(Glob.next (c :: r) b).1]) w3 := ⟨_, by simpa using hown, flat_snoc hfx _ _ _ _ _ hW⟩
          have HR2 := HR1a.put hgrow hlast (hat.imp id (fun h => by simpa using h)) rfl
          have hp1l := (Array.getElem?_eq_some_iff.1 HP1).1
          have HP3 : PartsAt (w.heap.size + 1) (Glob.next (c :: r) b).2.1 (Glob.next (c :: r) b).2.2 (w3.setCell ⟨G, done.length, none⟩ (.slice (some ⟨g', 0, none⟩) (cur.length + 1) cap')) :=
            (Below.heap_setCell _ _ _ _ hpG).trans ((hgrow.block _ (by simp; omega) (Ne.symm hup)).trans ((Lib.alloc_old _ _ _ hp1l).trans HP1))
          have hsz := HB.size
          have hsz1 : wr.heap.size ≤ w1.heap.size := hg1.size
          have HB3 : Below w.heap.size w (w3.setCell ⟨G, done.length, none⟩ (.slice (some ⟨g', 0, none⟩) (cur.length + 1) cap')) :=
            (((((HB.drew.grown hg1 hsz (fun k hk => by have := Option.some.inj hk; omega)).alloc (by omega) (.cells #[.int .u64 x0, .int .u64 x1, .int .u64 x2, .int .u64 x3] 47)).grown hgrow (by simp; omega) (fun k hk => (run_lt HR.last k hk).1))).setCell (p := ⟨G, done.length, none⟩) hBG _)
          have hnl := Glob.next_len (c :: r) b (by simp)
          have HE2 : Hid (Glob.split l = done ++ Glob.splitFrom (Glob.next (c :: r) b).2.1 (Glob.next (c :: r) b).2.2 (cur ++ [(Glob.next (c :: r) b).1])) := by
            have h := HE.out
            rw [Glob.splitFrom_next _ _ _ (by simp) (by simpa using h42)] at h
            exact Lib.hid h
          clear HR1 HR1a hlast hown hgrow hat hW
          go_wp2
          go_roundw
          case rel => exact ⟨_, _, done, _, vs, _, HR2, HP3, HE2, by simp only [List.length_append, List.length_singleton] at hlen hnl ⊢; omega, HB3⟩
          case measure => rw [partsLen_of HP3, partsLen_of HP]; exact hnl

end Go.Proofs.Ytimnnldjmmdlmaa
