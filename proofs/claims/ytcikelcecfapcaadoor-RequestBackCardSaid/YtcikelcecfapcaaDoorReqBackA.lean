/-
  Commands one behind the other: plain; what holds in memory while they are fed in pieces.
-/
import Derived.Test.YtcikelcecfapcaaDoorReqOne
import Derived.Test.YtcikelcecfapcaaDoorReqPrint
import Derived.Test.YtcikelcecfapcaaDoorReqStrArg
namespace Go.Proofs.YtcikelcecfapcaaDoor
open Go.RowKit Rp Rq

/-! ### Plain -/
theorem printQ_enc {ws : List Wd} (h : printQ ws ≠ []) : printQ ws = encQ ws ∧ ws ≠ [] ∧ ws.length ≤ 128 ∧ ∀ w ∈ ws, w.length ≤ 4096 := by
  unfold printQ at h ⊢
  by_cases hc : ws = [] ∨ 128 < ws.length ∨ ∃ w ∈ ws, 4096 < w.length
  · rw [if_pos hc] at h
    exact absurd rfl h
  · rw [if_neg hc]
    refine ⟨rfl, fun e => hc (.inl e), ?_, fun w hw => ?_⟩
    · by_cases h1 : 128 < ws.length
      · exact absurd (.inr (.inl h1)) hc
      · omega
    · by_cases h1 : 4096 < w.length
      · exact absurd (.inr (.inr ⟨w, hw, h1⟩)) hc
      · omega
theorem printQ_len (ws : List Wd) : (printQ ws).length ≤ 1000000 := by
  by_cases h : printQ ws = []
  · rw [h]; simp
  · obtain ⟨h1, h2, h3, h4⟩ := printQ_enc h
    rw [h1]
    have h5 := flat_len ws h4
    have h6 := itoa_len (ws.length : Int) (by omega) (by omega)
    unfold encQ
    rw [List.length_cons, List.length_append, List.length_cons, List.length_cons]
    omega
def told (c : List Wd) : Bool := !(printQ c).isEmpty
theorem told_true {c : List Wd} (h : printQ c ≠ []) : told c = true := by
  unfold told
  cases hp : printQ c with
  | nil => exact absurd hp h
  | cons _ _ => rfl
theorem told_false {c : List Wd} (h : printQ c = []) : told c = false := by unfold told; rw [h]; rfl
/-- All that is fed. -/
def allQ (cs : List (List Wd)) : List UInt8 := (cs.map printQ).flatten
theorem go_all : ∀ cs : List (List Wd), Rq.Go (St.new (allQ cs)) (cs.filter told) (.more (St.new []))
  | [] => Rq.Go.stop (s := St.new []) (e := 11) rfl
  | c :: cs => by
    have ih := go_all cs
    have e : allQ (c :: cs) = printQ c ++ allQ cs := by simp [allQ]
    rw [e]
    by_cases h : printQ c = []
    · rw [h, List.nil_append, List.filter_cons_of_neg (by rw [told_false h]; simp)]
      exact ih
    · obtain ⟨h1, h2, h3, h4⟩ := printQ_enc h
      rw [List.filter_cons_of_pos (told_true h), h1]
      exact go_enc c h2 h3 h4 _ _ _ ih
theorem allQ_len : ∀ cs : List (List Wd), (allQ cs).length ≤ cs.length * 1000000
  | [] => by simp [allQ]
  | c :: cs => by
    have h1 := printQ_len c
    have h2 := allQ_len cs
    have e : allQ (c :: cs) = printQ c ++ allQ cs := by simp [allQ]
    rw [e, List.length_append, List.length_cons]
    omega
/-- Where command i begins. -/
def posQ (cs : List (List Wd)) (i : Nat) : Nat := (allQ (cs.take i)).length
theorem allQ_split (cs : List (List Wd)) (i : Nat) (h : i < cs.length) : allQ cs = allQ (cs.take i) ++ (printQ cs[i] ++ allQ (cs.drop (i + 1))) := by
  have e : cs = cs.take i ++ cs[i] :: cs.drop (i + 1) := by rw [List.getElem_cons_drop, List.take_append_drop]
  unfold allQ
  conv => lhs; rw [e]
  rw [List.map_append, List.flatten_append, List.map_cons, List.flatten_cons]
theorem posQ_next (cs : List (List Wd)) (i : Nat) (h : i < cs.length) : posQ cs (i + 1) = posQ cs i + (printQ cs[i]).length := by
  unfold posQ
  rw [List.take_succ_eq_append_getElem h]
  unfold allQ
  rw [List.map_append, List.flatten_append, List.length_append]
  simp
theorem posQ_le (cs : List (List Wd)) (i : Nat) (h : i < cs.length) : posQ cs i + (printQ cs[i]).length ≤ (allQ cs).length := by
  rw [allQ_split cs i h, List.length_append, List.length_append]
  unfold posQ
  omega
theorem posQ_end (cs : List (List Wd)) : (allQ cs).take (posQ cs cs.length) = allQ cs := by
  unfold posQ
  rw [List.take_length, List.take_length]
/-- A piece of command i, within all. -/
theorem piece_in (cs : List (List Wd)) (i : Nat) (h : i < cs.length) (k e : Nat) (hk : k ≤ e) (he : e ≤ (printQ cs[i]).length) : ((allQ cs).drop (posQ cs i + k)).take (posQ cs i + e - (posQ cs i + k)) = ((printQ cs[i]).drop k).take (e - k) := by
  have e1 : (allQ cs).drop (posQ cs i + k) = (printQ cs[i]).drop k ++ allQ (cs.drop (i + 1)) := by
    rw [allQ_split cs i h]
    unfold posQ
    rw [List.drop_append, List.drop_eq_nil_of_le (by omega), List.nil_append, show (allQ (cs.take i)).length + k - (allQ (cs.take i)).length = k by omega, List.drop_append_of_le_length (by omega)]
  rw [e1, show posQ cs i + e - (posQ cs i + k) = e - k by omega, List.take_append_of_le_length (by rw [List.length_drop]; omega)]
theorem two_pieces (l m : List UInt8) (k q e : Nat) (hk : k ≤ q) (hq : q ≤ e) (p1 p2 : Option Addr) (c1 c2 : Nat) : accA l [⟨p1, c1, (m.drop k).take (q - k)⟩, ⟨p2, c2, (m.drop q).take (e - q)⟩] 2 = l ++ (m.drop k).take (e - k) := by
  have h : (m.drop k).take (e - k) = (m.drop k).take (q - k) ++ (m.drop q).take (e - q) := by
    rw [show e - k = (q - k) + (e - q) by omega, List.take_add, List.drop_drop, show k + (q - k) = q by omega]
  rw [h]
  simp [accA]

/-! ### In memory -/
/-- append(all, l...) of rows of commands: where the row lies then. -/
theorem append_cmdsW {w : World} {ops : Array Oper} {rest : List Oper} {o : Oper} {a : Act} {Q : Exit → Act → World → Prop} (hgd : o.guard = none) (s x : Operand)
    (ho : o.op = .call { callee := .builtin .append, args := #[s, x], argTypes := #[41, 41] })
    (base : Nat) (v : Value) (n : Nat) (xs : List Value) (hs : a.eval s = v) (hown : w.ownsRow base 50 1 v n xs)
    (base2 : Nat) (v2 : Value) (ys : List Hc) (hx : a.eval x = v2) (hown2 : w.ownsRow base2 50 1 v2 ys.length (hCells ys))
    (hbytes : n + ys.length ≤ 1000000000) (hbase : base ≤ w.heap.size)
    (h : ∀ v' w', w'.ownsRow base 50 1 v' (n + ys.length) (xs ++ hCells ys) → w.grownBy w' v.ownBlock → (∀ k, v'.ownBlock = some k → v.ownBlock = some k ∨ w.heap.size ≤ k) → wpList Tryd.prog ops Q rest (a.put o.dst v') w') : wpList Tryd.prog ops Q (o :: rest) a w := by
  obtain ⟨i0, hi, hz0, hz1, hz2⟩ := info_parts info_row
  rcases hown2.2 with ⟨rfl, h0⟩ | ⟨g, cap, cur, rfl, _, _, hnc, hm, _⟩
  · obtain rfl : ys = [] := List.eq_nil_of_length_eq_zero h0
    refine wpList_append_own_none hgd s x 41 ho base 50 i0 1 Tryd.underlying41 hi v n xs hs hown hx ?_
    exact h v w (by simpa [hCells] using hown) (World.grownBy.refl w v.ownBlock) (fun k hk => .inl hk)
  · by_cases hz : ys = []
    · subst hz
      refine wpList_plain hgd fun K hK => ?_
      have hr := run_append_zeroC o.type hown ⟨g, 0, none⟩ cap
      unfold Oper.wp execOp
      simp only [ho, resolve, invoke, builtin, Sem.run_bind, Sem.run_pure, Result.andThen_ok, List.map_toArray, List.map_cons, List.map_nil, hs, hx, List.length_nil, hr]
      exact hK _ _ (h v w (by simpa [hCells] using hown) (World.grownBy.refl w v.ownBlock) (fun k hk => .inl hk))
    · have hpos : 0 < ys.length := List.length_pos_iff.2 hz
      refine wpList_append_lies _ hgd s x 41 ho base 50 i0 (.slice none 0 0) 1 24 Tryd.underlying41 hi hz0 hz1 hz2 rfl (by decide) v n xs hs hown ⟨g, 0, none⟩ ys.length cap (hCells ys) hx (by rw [hCells_len]; omega) ?_ ?_ hpos (by unfold maxLen; omega) (by omega) hbase w.heap.size rfl ?_
      · intro j u hj
        have hjl : j < ys.length := by
          have := (List.getElem?_eq_some_iff.1 hj).1
          rwa [hCells_len] at this
        rw [Lib.add_plain, Nat.zero_add, hown2.cellAt j (by omega), hj]
      · intro u hu
        obtain ⟨y, _, rfl⟩ := List.mem_map.1 hu
        rfl
      · intro g' cap' w' h1 h2 h3 _
        refine h _ w' h1 h2 (fun k hk => ?_)
        simp [Value.ownBlock] at hk
        subst hk
        exact h3.imp id (fun e => by omega)

/-- The commands that are wanted: slices of the argument's own. -/
abbrev Wt := Option Addr × Nat × List Wd
def wtCells (ys : List Wt) : List Value := ys.map fun y => .slice y.1 y.2.2.length y.2.1
theorem wtCells_len (ys : List Wt) : (wtCells ys).length = ys.length := by simp [wtCells]
structure WantI (cs : List (List Wd)) (w : World) (R i : Nat) (ys : List Wt) (v : Value) (wr : World) : Prop where
  row : wr.ownsRow (R + 1) 50 1 v ys.length (wtCells ys)
  words : ys.map (fun y => y.2.2) = (cs.take i).filter told
  ats : ∀ y ∈ ys, y.2.2 ≠ [] ∧ WIn w y.1 y.2.2
theorem WantI.start (cs : List (List Wd)) (w : World) (R : Nat) (wr : World) : WantI cs w R 0 [] (.slice none 0 0) wr := ⟨World.ownsRow_nil _ _ _ _, by simp, fun y hy => by simp at hy⟩
theorem WantI.few {cs : List (List Wd)} {w : World} {R i : Nat} {ys : List Wt} {v : Value} {wr : World} (H : WantI cs w R i ys v wr) : ys.length ≤ cs.length := by
  have h1 := congrArg List.length H.words
  rw [List.length_map] at h1
  have h2 := List.length_filter_le told (cs.take i)
  have h3 : (cs.take i).length ≤ cs.length := by rw [List.length_take]; omega
  omega
theorem WantI.skip {cs : List (List Wd)} {w : World} {R i : Nat} {ys : List Wt} {v : Value} {wr : World} (H : WantI cs w R i ys v wr) (hi : i < cs.length) (h : printQ cs[i] = []) : WantI cs w R (i + 1) ys v wr :=
  ⟨H.row, by rw [List.take_succ_eq_append_getElem hi, List.filter_append, H.words]; simp [told_false h], H.ats⟩
theorem WantI.chg {cs : List (List Wd)} {w : World} {R i : Nat} {ys : List Wt} {v : Value} {wr w' : World} (H : WantI cs w R i ys v wr) {ex : Nat → Prop} (hc : Chg ex wr w') (hn : ∀ k, v.ownBlock = some k → ¬ ex k) : WantI cs w R i ys v w' := ⟨hc.own H.row hn, H.words, H.ats⟩
theorem WantI.on {cs : List (List Wd)} {w : World} {R i : Nat} {ys : List Wt} {v : Value} {wr w' : World} (H : WantI cs w R i ys v wr) (hb : Below wr.heap.size wr w') : WantI cs w R i ys v w' := H.chg (Chg.below hb (fun _ => False)) (fun _ _ e => e)
theorem WantI.push {cs : List (List Wd)} {w : World} {R i : Nat} {ys : List Wt} {v v' : Value} {wr w' : World} (H : WantI cs w R i ys v wr) (hi : i < cs.length) (h : printQ cs[i] ≠ []) {q : Option Addr} {d : Nat} (hq : WIn w q cs[i]) (hown : w'.ownsRow (R + 1) 50 1 v' (ys.length + 1) (wtCells ys ++ [.slice q cs[i].length d])) : WantI cs w R (i + 1) (ys ++ [(q, d, cs[i])]) v' w' := by
  refine ⟨?_, ?_, fun y hy => ?_⟩
  · rw [List.length_append]
    simpa [wtCells] using hown
  · rw [List.take_succ_eq_append_getElem hi, List.filter_append, List.map_append, H.words]
    simp [told_true h]
  · rcases List.mem_append.1 hy with hy | hy
    · exact H.ats y hy
    · obtain rfl : y = (q, d, cs[i]) := by simpa using hy
      exact ⟨(printQ_enc h).2.1, hq⟩
theorem WantI.is {cs : List (List Wd)} {w : World} {R i : Nat} {ys : List Wt} {v : Value} {wr : World} (H : WantI cs w R i ys v wr) (hb : Below w.heap.size w wr) : IsC wr v ((cs.take i).filter told) := by
  rw [← H.words]
  rcases H.row.2 with ⟨rfl, h⟩ | ⟨g, cap, cur, rfl, rest⟩
  · obtain rfl : ys = [] := List.eq_nil_of_length_eq_zero h
    exact ⟨none, 0, rfl, .inl rfl⟩
  · refine ⟨some ⟨g, 0, none⟩, cap, by rw [List.length_map], .inr ⟨g, 0, rfl, fun j hj => ?_⟩⟩
    rw [List.length_map] at hj
    rw [List.getElem_map]
    obtain ⟨h1, h2⟩ := H.ats ys[j] (List.getElem_mem hj)
    rcases h2 with h2 | ⟨g', o', hp, h2⟩
    · exact absurd h2 h1
    · refine ⟨g', o', ys[j].2.1, ?_, h2.below hb⟩
      rw [Nat.zero_add, H.row.cellAt j (by omega), ← hp]
      simp [wtCells, hj]

/-- What is fed stays fed while the wanted row grows. -/
theorem FeI.wide {l : List UInt8} {w : World} {R q : Nat} {s : St} {pv wv : Value} {xs : List Hc} {v : Value} {wr w' : World} (H : FeI l w R q s pv wv xs v wr) (hwR : w.heap.size ≤ R) {vw : Value} {n : Nat} {cells : List Value} (hw : wr.ownsRow (R + 1) 50 1 vw n cells) (hap : ∀ k, vw.ownBlock = some k → v.ownBlock ≠ some k) (hg : wr.grownBy w' vw.ownBlock) : FeI l w R q s pv wv xs v w' := by
  have hc := Chg.grown hg
  refine ⟨H.le, H.go, H.rdr.chg hc (fun e => own_ne hw H.rdr.box (by decide) e.symm) (fun k hk e => own_apart hw H.rdr.rest (by decide) k e.symm hk) (fun k hk e => own_apart hw H.rdr.words (by decide) k e.symm hk), ?_, H.apart⟩
  refine ⟨hc.own H.row.row (fun k hk e => hap k e.symm hk), fun x hx => hc.own (H.row.own x hx) (fun k hk e => own_apart (H.row.own x hx) hw (by decide) k hk e.symm), hc.on H.row.below H.row.below.size (fun k e => ?_)⟩
  have := (hw.lt k e.symm).1
  omega
theorem FeI.on {l : List UInt8} {w : World} {R q : Nat} {s : St} {pv wv : Value} {xs : List Hc} {v : Value} {wr w' : World} (H : FeI l w R q s pv wv xs v wr) (hb : Below wr.heap.size wr w') : FeI l w R q s pv wv xs v w' := ⟨H.le, H.go, H.rdr.on hb, H.row.on hb, H.apart⟩
theorem tail_takeB {w : World} {p : Option Addr} {c : Nat} {l : List UInt8} (h : Tail w p c l) (E : Nat) : Tail w p c (l.take E) := by
  rcases h with h | ⟨rfl, h⟩
  · rcases h with ⟨h1, rfl, h2⟩ | ⟨b, o, hp, h1, h2, h3⟩
    · exact .inl (.inl ⟨h1, by simp, h2⟩)
    · refine .inl (.inr ⟨b, o, hp, by rw [List.length_take]; omega, h2, fun j hj => ?_⟩)
      rw [List.length_take] at hj
      rw [List.getElem_take]
      exact h3 j (by omega)
  · exact .inr ⟨by simp, h⟩
end Go.Proofs.YtcikelcecfapcaaDoor
