/-
  The reference: a log opened.
-/
import Derived.Test.YtgcifhhbhoafcaaRefRead
import Derived.Test.YtgcifhhbhoafcaaLogSame
import Derived.Test.YtgcifhhbhoafcaaLogCut
namespace Go.Proofs.Ytgcifhhbhoafcaa
open Go.RowKit Go.Shelf
attribute [local go_sem] Oper.semAt_some

theorem flatN (V : List Sec) (h : ∀ s ∈ V, s.length = 64) : V.flatten.length = V.length * 64 := by
  have := flatG_len (fun s : Sec => s) 64 V h
  simpa using this
theorem cut_flat (V : List Sec) (h : ∀ s ∈ V, s.length = 64) : cutS V.flatten = V := by
  have hl := flatN V h
  apply List.ext_getElem
  · rw [cutS_len, hl]; omega
  · intro k h1 h2
    have e : (cutS V.flatten)[k] = cutAt V.flatten k := by simp [cutS]
    have hk : V[k].length = 64 := h _ (List.getElem_mem h2)
    rw [e]
    unfold cutAt
    rw [hl, show 64 - (V.length * 64 - 64 * k) = 0 by omega, List.replicate_zero, List.append_nil]
    apply List.ext_getElem?
    intro j
    rw [List.getElem?_take]
    split
    · rename_i hj
      rw [List.getElem?_drop]
      have := flatG_at (fun s : Sec => s) 64 V k h2 h j hj
      rw [List.map_id'] at this
      rw [show 64 * k + j = k * 64 + j by omega]
      exact this
    · rw [List.getElem?_eq_none (by omega)]
def gC (R f N u l : Nat) : Array Value := #[.pointer (some ⟨R, 0, none⟩), .int .i64 f, .int .i64 N, .int .i64 u, .int .i64 l, .bool false]
def GAt (w : World) (P R f N u l : Nat) : Prop := w.heap[P]? = some (.cells (gC R f N u l) 44 (0, 0))
theorem GAt.cells {w : World} {P R f N u l : Nat} (H : GAt w P R f N u l) : w.cell? ⟨P, 3, none⟩ = some (.int .i64 (u : Nat)) ∧ w.cell? ⟨P, 4, none⟩ = some (.int .i64 (l : Nat)) := by
  refine ⟨?_, ?_⟩ <;> (rw [cell_in H]; rfl)
/-- An entry whose body is in new memory. -/
def EntG (w : World) (lo : Nat) (x : Ent) : Prop := ∃ g, x.p = some ⟨g, 0, none⟩ ∧ lo ≤ g ∧ w.rangeAt g 0 (bCells x.body)
theorem own_head {w : World} {lo : Nat} {v : Value} {E : List Ent} {k : Nat} (h : w.ownsRow lo 48 2 v E.length (eCells E)) (hE : 0 < E.length) (hk : v.ownBlock = some k) : ∃ z : Int, w.cell? ⟨k, 0, none⟩ = some (.int .i64 z) := by
  rcases h.2 with ⟨rfl, _⟩ | ⟨g, c, cur, rfl, hb, hg, _, _, hs, ht⟩
  · cases hk
  · cases hk
    cases E with
    | nil => simp at hE
    | cons x E =>
      refine ⟨x.st, ?_⟩
      rw [cell_in hg, ← Array.getElem?_toList]
      have h2 := congrArg (fun l : List Value => l[0]?) ht
      rw [List.getElem?_take_of_lt (by simp)] at h2
      rw [h2]
      rfl
structure GInv (w0 : World) (lo P R f N : Nat) (Bs : List Sec) (after : Nat) (wr : World) (v : Value) (E : List Ent) : Prop where
  row : wr.ownsRow lo 48 2 v E.length (eCells E)
  ents : ∀ x ∈ E, EntG wr lo x
  log : GAt wr P R f N (usedS (E.map (·.body))) (after + E.length)
  few : E.length ≤ usedS (E.map (·.body)) ∧ usedS (E.map (·.body)) ≤ N
  st : Stamps after E
  more : ∃ fuel, N - usedS (E.map (·.body)) < fuel ∧ scan (N + 1) Bs after = E.map (·.body) ++ scan fuel (Bs.drop (usedS (E.map (·.body)))) (after + E.length)
  below : Below w0.heap.size w0 wr
  plo : P < lo ∧ lo ≤ wr.heap.size ∧ w0.heap.size ≤ P
theorem EntG.chg {ex : Nat → Prop} {w w' : World} {lo : Nat} {x : Ent} (H : EntG w lo x) (hc : Chg ex w w') (hn : ∀ g, lo ≤ g → (0 < x.body.length → ∃ b : Int, w.cell? ⟨g, 0, none⟩ = some (.int .u8 b)) → 0 < x.body.length → ¬ ex g) : EntG w' lo x := by
  obtain ⟨g, h1, h2, h3⟩ := H
  refine ⟨g, h1, h2, ?_⟩
  by_cases h0 : 0 < x.body.length
  · refine hc.range h3 (hn g h2 (fun _ => ?_) h0)
    have := h3 0 (.int .u8 (x.body[0]'h0).toNat) (by unfold bCells; rw [List.getElem?_map, List.getElem?_eq_getElem h0]; rfl)
    exact ⟨_, this⟩
  · have e : x.body = [] := List.length_eq_zero_iff.1 (by omega)
    rw [e]
    exact fun j u hj => by simp [bCells] at hj
theorem GInv.on {w0 : World} {lo P R f N : Nat} {Bs : List Sec} {after : Nat} {wr w' : World} {v : Value} {E : List Ent} (H : GInv w0 lo P R f N Bs after wr v E) (hb : Below wr.heap.size wr w') : GInv w0 lo P R f N Bs after w' v E :=
  ⟨(Chg.below hb (fun _ => False)).own H.row (fun _ _ e => e), fun x hx => (H.ents x hx).chg (Chg.below hb (fun _ => False)) (fun _ _ _ _ e => e), (Chg.below hb (fun _ => False)).box H.log (fun e => e), H.few, H.st, H.more, H.below.trans (hb.mono H.below.size), ⟨H.plo.1, Nat.le_trans H.plo.2.1 hb.size, H.plo.2.2⟩⟩
theorem GInv.step {w0 : World} {lo P R f N : Nat} {Bs : List Sec} {after : Nat} {wr w4 w5 w7 : World} {v v' : Value} {E : List Ent} {body : List UInt8} {gb cp : Nat} (H : GInv w0 lo P R f N Bs after wr v E) (h64 : ∀ s ∈ Bs, s.length = 64) (hBl : Bs.length = N)
    (hb : Below wr.heap.size wr w4) (hg : w4.rangeAt gb 0 (bCells body)) (hgl : wr.heap.size ≤ gb)
    (hgr : w4.grownBy w5 v.ownBlock) (hrow : w5.ownsRow lo 48 2 v' (E.length + 1) (eCells E ++ eCell ⟨after + E.length + 1, some ⟨gb, 0, none⟩, cp, body⟩)) (hc : Chg (fun k => k = P) w5 w7) (hl : GAt w7 P R f N (usedS (E.map (·.body)) + secs body.length) (after + E.length + 1)) (hrec : rdRec (Bs.drop (usedS (E.map (·.body)))) (after + E.length + 1) = some body) (hmax : after + E.length < 1152921504606846975) :
    GInv w0 lo P R f N Bs after w7 v' (E ++ [⟨after + E.length + 1, some ⟨gb, 0, none⟩, cp, body⟩]) := by
  have hpl := H.plo
  have hown : ∀ k, v.ownBlock = some k → lo ≤ k ∧ k < wr.heap.size := fun k hk => H.row.lt k hk
  have c2 : Chg (fun k => v.ownBlock = some k) w4 w5 := (Chg.grown hgr).weaken (fun k _ e => e.symm)
  have c3 : Chg (fun k => v.ownBlock = some k) wr w5 := (Chg.below hb _).trans c2
  have hmap : (E ++ [(⟨after + E.length + 1, some ⟨gb, 0, none⟩, cp, body⟩ : Ent)]).map (·.body) = E.map (·.body) ++ [body] := by simp
  obtain ⟨_, rest, hrest⟩ := rdRec_some (fun s hs => h64 s (List.mem_of_mem_drop hs)) hrec
  have hfit : usedS (E.map (·.body)) + secs body.length ≤ N := by
    have h1 := congrArg List.length hrest
    rw [List.length_drop, hBl, List.length_cons, List.length_append, packed_len] at h1
    have := H.few.2
    unfold secs
    omega
  have hsp := secs_pos body.length
  refine ⟨?_, ?_, ?_, ?_, H.st.snoc _ (by show after + E.length + 1 = _; omega), ?_, ?_, ?_⟩
  · rw [eCells_snoc, List.length_append]
    refine hc.own hrow (fun k hk e => ?_)
    obtain ⟨h1, _⟩ := hrow.lt k hk
    omega
  · intro x hx
    rcases List.mem_append.1 hx with h | h
    · have hE : 0 < E.length := List.length_pos_of_mem h
      refine ((H.ents x h).chg c3 (fun g hgl2 h8 h0 e => ?_)).chg hc (fun g hgl2 _ _ e => by have e' : g = P := e; omega)
      obtain ⟨b, hb8⟩ := h8 h0
      obtain ⟨z, hz⟩ := own_head H.row hE e
      rw [hb8] at hz
      cases hz
    · rw [List.mem_singleton] at h
      subst h
      refine ⟨gb, rfl, by omega, ?_⟩
      refine hc.range (c2.range hg (fun e => ?_)) (by omega)
      have := (hown gb e).2
      omega
  · rw [hmap, usedS_snoc, List.length_append, List.length_cons, List.length_nil, ← Nat.add_assoc]
    exact hl
  · rw [hmap, usedS_snoc, List.length_append, List.length_cons, List.length_nil]
    have := H.few.1
    omega
  · obtain ⟨fuel, hf1, hf2⟩ := H.more
    have hfew := H.few
    cases fuel with
    | zero => omega
    | succ fuel =>
      refine ⟨fuel, by rw [hmap, usedS_snoc]; omega, ?_⟩
      rw [hf2, hmap, usedS_snoc, List.length_append, List.length_cons, List.length_nil, scan, if_pos hmax, hrec]
      show _ ++ (body :: scan fuel ((Bs.drop (usedS (E.map (·.body)))).drop (secs body.length)) (after + E.length + 1)) = _
      rw [List.drop_drop, List.append_assoc]
      rfl
  · refine hc.on (c3.on H.below H.below.size (fun k hk => ?_)) ((c3.on H.below H.below.size (fun k hk => ?_))).size (fun k hk => ?_)
    · have := (hown k hk).1; omega
    · have := (hown k hk).1; omega
    · have hk' : k = P := hk; omega
  · exact ⟨hpl.1, Nat.le_trans hpl.2.1 (Nat.le_trans c3.size hc.size), hpl.2.2⟩

set_option maxRecDepth 20000 in
set_option maxHeartbeats 8000000 in
theorem gopen_any {w : World} {R lo0 : Nat} {S : List Sec} {va vw : Value} {pos : List Nat} {B : List Sec} (H : RA w R lo0 S va vw pos B) (hpb : pos.length = B.length) (hbm : B.length ≤ 100000) (h64 : ∀ s ∈ S, s.length = 64) (h64B : ∀ s ∈ B, s.length = 64) (f N after : Nat) (h1N : 1 ≤ N) (hN : N ≤ 1000) (hfN : f + N ≤ S.length) (hS2 : S.length ≤ 100000) (ha : after ≤ 1152921504606846975) :
    Calls Try.prog 14 #[.pointer (some ⟨R, 0, none⟩), .int .i64 f, .int .i64 N, .int .i64 after] w fun e w' => ∃ lo P pv E cv, e = .returned (.tuple #[.pointer (some ⟨P, 0, none⟩), .slice pv E.length cv, .int .i64 0]) ∧ GInv w lo P R f N (partS (doneS S (pos.zip B)) f N) after w' (.slice pv E.length cv) E ∧ E.map (·.body) = scan (N + 1) (partS (doneS S (pos.zip B)) f N) after := by
  have hrd := refread_any H hpb hbm h64 h64B f N h1N hfN hS2
  obtain ⟨V, hV⟩ : ∃ V, partS (doneS S (pos.zip B)) f N = V := ⟨_, rfl⟩
  have hVl : V.length = N := by rw [← hV]; exact partS_len (by rw [doneS_len]; omega)
  have hV64 : ∀ s ∈ V, s.length = 64 := by rw [← hV]; exact partS_64 (doneS_64 h64 (fun x hx => h64B x.2 (List.of_mem_zip hx).2))
  rw [hV] at hrd ⊢
  have hfl := flatN V hV64
  obtain ⟨cap, W, hcv, hxr, hc1, hc2, hcb, hcz⟩ := conv_bytes w V.flatten (by rw [hfl]; omega)
  have hcut := cut_any w.heap.size 0 cap V.flatten (by rw [hfl]; omega) hc1 (by unfold maxLen at hc2; omega) W hxr hcz
  rw [cut_flat V hV64, hVl] at hcut
  obtain ⟨L, hL⟩ : ∃ L, V.flatten.length = L := ⟨_, rfl⟩
  rw [hL] at hcv hcut
  have hLb : L ≤ 64000 := by omega
  obtain ⟨st, hst⟩ : ∃ st, bs V.flatten = st := ⟨_, rfl⟩
  rw [hst] at hrd hcv
  obtain ⟨i0, hi, hz0, hz1, hz2⟩ := info_parts info_ent
  have d1 : decide ((after : Int) < 0) = false := decide_eq_false (by omega)
  have d2 : decide ((1152921504606846975 : Int) < (after : Int)) = false := decide_eq_false (by omega)
  have d2' : decide (1152921504606846975 < after) = false := decide_eq_false (by omega)
  have HVL := Lib.hid hVl
  have HV64 := Lib.hid hV64
  have HCB := Lib.hid hcb
  clear H hpb h64 h64B hV hVl hV64 hfl hxr hcb hL hst hfN
  go_enter Try.func14, Try.ntmps14
  go_wp2_with fail
  refine hrd.mono ?_
  clear hrd
  rintro e w1 ⟨rfl, hw1⟩
  obtain rfl := hw1
  go_wp2_with fail
  refine hcut.mono ?_
  clear hcut hcv
  rintro e w2 ⟨vl, rfl, hrow2, hb2⟩
  obtain ⟨gl, cl, rfl, hrl, hgl, hcl⟩ : ∃ gl cl, vl = .slice (some ⟨gl, 0, none⟩) N cl ∧ w2.rangeAt gl 0 (sCells V) ∧ gl < w2.heap.size ∧ N ≤ cl := by
    rcases hrow2.2 with ⟨_, h0⟩ | ⟨gl, cl, cur, rfl, hgl0, hgl1, hgl2, hgl3, hgl4, hgl5⟩
    · omega
    · refine ⟨gl, cl, rfl, fun j u hj => ?_, (Array.getElem?_eq_some_iff.1 hgl1).1, hgl2⟩
      rw [Nat.zero_add, cell_in hgl1, ← Array.getElem?_toList]
      rw [← hgl5, List.getElem?_take] at hj
      split at hj
      · exact hj
      · cases hj
  obtain ⟨P, hP⟩ : ∃ P, w2.heap.size = P := ⟨_, rfl⟩
  obtain ⟨w3, hw3⟩ : ∃ w3, w2.alloc (.cells #[.pointer (some ⟨R, 0, none⟩), .int .i64 (f : Int), .int .i64 (N : Int), .int .i64 0, .int .i64 (after : Int), .bool false] 44) = w3 := ⟨_, rfl⟩
  have hb3 : Below w2.heap.size w2 w3 := by rw [← hw3]; exact bA (Below.refl _ _) _
  have hG3 : GAt w3 P R f N 0 after := by rw [← hw3, ← hP]; exact heap_new w2 _
  have hlo : w3.heap.size = P + 1 := by rw [← hw3, ← hP]; simp
  have H0 := Lib.hid (show GInv w2 (P + 1) P R f N V after w3 (.slice none 0 0) [] from ⟨World.ownsRow_nil _ _ _ _, fun x hx => by simp at hx, hG3, ⟨Nat.zero_le _, Nat.zero_le _⟩, fun i h => by simp at h, ⟨N + 1, by simp [usedS], by simp [usedS]⟩, hb3, by omega⟩)
  have HRL := Lib.hid hrl
  have HGL := Lib.hid hgl
  have HB2 := Lib.hid (HCB.out.trans (hb2.mono (Nat.le_of_lt hcz)))
  have HP := Lib.hid hP
  have HW3 := Lib.hid hw3
  have hPw : w.heap.size ≤ P := by have := hb2.size; omega
  clear hrow2 hb2 hrl hgl hb3 hG3 hlo hw3 hcz hP
  go_wp2_with fail
  rw [HP.out]
  first | rw [HW3.out] | skip
  go_loopw [15] (fun s15 wr => ∃ E pv cv j, s15 = .slice pv j cv ∧ Hid (j = E.length) ∧ Hid (GInv w2 (P + 1) P R f N V after wr (.slice pv j cv) E)) (fun s15 _ => N - lenOf s15)
  case atStart => exact ⟨[], none, 0, 0, rfl, Lib.hid rfl, H0⟩
  case round =>
    clear H0
    obtain ⟨E, pv, cv, j, rfl, HJ, HI⟩ := hrel
    obtain ⟨u, hu⟩ : ∃ u, u = usedS (E.map (·.body)) := ⟨_, rfl⟩
    obtain ⟨l, hl⟩ : ∃ l, l = after + E.length := ⟨_, rfl⟩
    have hj := HJ.out
    have hlog := HI.out.log
    have hfew := HI.out.few
    rw [← hu, ← hl] at hlog
    rw [← hu, ← hj] at hfew
    obtain ⟨k3, k4⟩ := hlog.cells
    have hlb : l ≤ 1152921504606846975 + 1000 := by omega
    have HLG := Lib.hid hlog
    have HU := Lib.hid hu
    have HLE := Lib.hid hl
    clear hlog hu hl hj
    by_cases hmax : l < 1152921504606846975
    · have d3 : decide ((l : Int) < 1152921504606846975) = true := decide_eq_true (by omega)
      have d3' : decide (l < 1152921504606846975) = true := decide_eq_true hmax
      have hwl : IntKind.i64.wrap ((l : Int) + 1) = (l : Int) + 1 := by rw [IntKind.wrap_i64]; omega
      have hat : ∀ X, Below wr.heap.size wr X → Calls Try.prog 38 #[.slice (some ⟨gl, 0, none⟩) N cl, .int .i64 u, .int .i64 ((l : Int) + 1)] X fun e w' => AtR X (V.drop u) (l + 1) e w' := fun X hX => by
        have hbX := HI.out.below.trans (hX.mono HI.out.below.size)
        have hrX : X.rangeAt gl 0 (sCells V) := (Chg.below hbX (fun _ => False)).range HRL.out (fun e => e)
        have e1 : (l : Int) + 1 = ((l + 1 : Nat) : Int) := by omega
        rw [e1]
        by_cases hpast : N ≤ u
        · exact at_past gl 0 cl N u (l + 1) hpast V HVL.out X (by omega)
        · exact at_more gl 0 cl N u (l + 1) V HVL.out hN (by omega) (by omega) HV64.out X hrX (Nat.lt_of_lt_of_le HGL.out hbX.size)
      have HAT := Lib.hid hat
      have kk3 : ∀ X, Below wr.heap.size wr X → X.cell? ⟨P, 3, none⟩ = some (.int .i64 u) := fun X hX => (show GAt X P R f N u l from (Chg.below hX (fun _ => False)).box HLG.out (fun e => e)).cells.1
      have kk4 : ∀ X, Below wr.heap.size wr X → X.cell? ⟨P, 4, none⟩ = some (.int .i64 l) := fun X hX => (show GAt X P R f N u l from (Chg.below hX (fun _ => False)).box HLG.out (fun e => e)).cells.2
      have HK3 := Lib.hid kk3
      have HK4 := Lib.hid kk4
      clear hat kk3 kk4
      go_wp2
      refine wp_region_noPanic ?_
      refine wp_region_held_drew (S := fun X => Below wr.heap.size wr X ∧ X.cell? ⟨P, 3, none⟩ = some (.int .i64 u) ∧ X.cell? ⟨P, 4, none⟩ = some (.int .i64 l)) (by kernel_rfl) (⟨bD (Below.refl _ _), HK3.out _ (bD (Below.refl _ _)), HK4.out _ (bD (Below.refl _ _))⟩) (fun hHeld => ?_)
      refine wpAnyH_take (i := 0) (v := ?_) rfl (by kernel_rfl) (by kernel_rfl) (by kernel_rfl) (fun _ _ _ h => h) (Or.inl ⟨by rfl, ?_⟩) (by assumption) ?_
      rotate_left
      · (intro w hSw; (try dsimp only at hSw); go_simp; try (with_reducible rfl))
      try simp only [Act.put, List.setIfInBounds_toArray, List.set_cons_zero, List.set_cons_succ, List.getElem_toArray, List.getElem_cons_zero]
      refine wpAnyH_take (i := 1) (v := ?_) rfl (by kernel_rfl) (by kernel_rfl) (by kernel_rfl) (fun _ _ _ h => h) (Or.inl ⟨by rfl, ?_⟩) (by assumption) ?_
      rotate_left
      · (intro w hSw; (try dsimp only at hSw); go_simp; try (with_reducible rfl))
      try simp only [Act.put, List.setIfInBounds_toArray, List.set_cons_zero, List.set_cons_succ, List.getElem_toArray, List.getElem_cons_zero, List.getElem_cons_succ]
      refine wpAnyH_take (i := 2) (v := ?_) rfl (by kernel_rfl) (by kernel_rfl) (by kernel_rfl) (fun _ _ _ h => h) (Or.inl ⟨by rfl, ?_⟩) (by assumption) ?_
      rotate_left
      · (intro w hSw; (try dsimp only at hSw); go_simp; try (with_reducible rfl))
      try simp only [Act.put, List.setIfInBounds_toArray, List.set_cons_zero, List.set_cons_succ, List.getElem_toArray, List.getElem_cons_zero, List.getElem_cons_succ]
      refine wpAnyH_take (i := 3) (v := ?_) rfl (by kernel_rfl) (by kernel_rfl) (by kernel_rfl) (fun _ _ _ h => h) (Or.inl ⟨by rfl, ?_⟩) (by assumption) ?_
      rotate_left
      · (intro w hSw; (try dsimp only at hSw); go_simp; try (with_reducible rfl))
      try simp only [Act.put, List.setIfInBounds_toArray, List.set_cons_zero, List.set_cons_succ, List.getElem_toArray, List.getElem_cons_zero, List.getElem_cons_succ]
      refine wpAnyH_take (i := 4) (v := ?_) rfl (by kernel_rfl) (by kernel_rfl) (by kernel_rfl) (fun _ _ _ h => h) (Or.inl ⟨by rfl, ?_⟩) (by assumption) ?_
      rotate_left
      · (intro w hSw; (try dsimp only at hSw); go_simp; try (with_reducible rfl))
      try simp only [Act.put, List.setIfInBounds_toArray, List.set_cons_zero, List.set_cons_succ, List.getElem_toArray, List.getElem_cons_zero, List.getElem_cons_succ]
      refine wpAnyH_take (i := 5) (v := ?_) rfl (by kernel_rfl) (by kernel_rfl) (by kernel_rfl) (fun _ _ _ h => h) (Or.inl ⟨by rfl, ?_⟩) (by assumption) ?_
      rotate_left
      · (intro w hSw; (try dsimp only at hSw); go_simp; try (with_reducible rfl))
      try simp only [Act.put, List.setIfInBounds_toArray, List.set_cons_zero, List.set_cons_succ, List.getElem_toArray, List.getElem_cons_zero, List.getElem_cons_succ]
      refine wpAnyH_take (i := 6) (v := ?_) rfl (by kernel_rfl) (by kernel_rfl) (by kernel_rfl) (fun _ _ _ h => h) (Or.inl ⟨by rfl, ?_⟩) (by assumption) ?_
      rotate_left
      · (intro w hSw; (try dsimp only at hSw); go_simp; try (with_reducible rfl))
      try simp only [Act.put, List.setIfInBounds_toArray, List.set_cons_zero, List.set_cons_succ, List.getElem_toArray, List.getElem_cons_zero, List.getElem_cons_succ]
      refine wpAnyH_take (i := 7) (v := ?_) rfl (by kernel_rfl) (by kernel_rfl) (by kernel_rfl) (fun _ _ _ h => h) (Or.inl ⟨by rfl, ?_⟩) (by assumption) ?_
      rotate_left
      · (intro w hSw; (try dsimp only at hSw); go_simp; try (with_reducible rfl))
      try simp only [Act.put, List.setIfInBounds_toArray, List.set_cons_zero, List.set_cons_succ, List.getElem_toArray, List.getElem_cons_zero, List.getElem_cons_succ]
      refine wpAnyH_take (i := 8) (v := ?_) rfl (by kernel_rfl) (by kernel_rfl) (by kernel_rfl) (fun _ _ _ h => h) (Or.inl ⟨by rfl, ?_⟩) (by assumption) ?_
      rotate_left
      · (intro w hSw; (try dsimp only at hSw); go_simp; try (with_reducible rfl))
      try simp only [Act.put, List.setIfInBounds_toArray, List.set_cons_zero, List.set_cons_succ, List.getElem_toArray, List.getElem_cons_zero, List.getElem_cons_succ]
      refine wpAnyH_take (i := 9) (v := ?_) rfl (by kernel_rfl) (by kernel_rfl) (by kernel_rfl) (fun _ _ _ h => h) (Or.inl ⟨by rfl, ?_⟩) (by assumption) ?_
      rotate_left
      · (intro w hSw; (try dsimp only at hSw); go_simp; try (with_reducible rfl))
      try simp only [Act.put, List.setIfInBounds_toArray, List.set_cons_zero, List.set_cons_succ, List.getElem_toArray, List.getElem_cons_zero, List.getElem_cons_succ]
      refine wpAnyH_ready (rs := [10, 14]) (by kernel_rfl) (by simp) ?_
      refine AllReadyH.cons rfl (fun K hK => ?_) (AllReadyH.cons rfl (fun K hK => ?_) AllReadyH.nil)
      · go_simp
        go_at_call 38
        refine (HAT.out _ (bD (Below.refl _ _))).mono ?_
        rintro e2 w4 ⟨z4, p4, n4, c4, ok, rfl, hb4', hres⟩
        have hb4 : Below wr.heap.size wr w4 := (bD (Below.refl _ _)).trans hb4'
        refine hK.out _ _ (⟨hb4, HK3.out _ hb4, HK4.out _ hb4⟩) (fun hHeld2 => ?_)
        clear hK K hHeld
        have hHeld := hHeld2
        clear hHeld2
        try simp only [Act.put, List.setIfInBounds_toArray, List.set_cons_zero, List.set_cons_succ, List.getElem_toArray, List.getElem_cons_zero, List.getElem_cons_succ]
        refine wpAnyH_take (i := 11) (v := ?_) rfl (by kernel_rfl) (by kernel_rfl) (by kernel_rfl) (fun _ _ _ h => h) (Or.inl ⟨by rfl, ?_⟩) (by assumption) ?_
        rotate_left
        · (intro w hSw; (try dsimp only at hSw); go_simp; try (with_reducible rfl))
        try simp only [Act.put, List.setIfInBounds_toArray, List.set_cons_zero, List.set_cons_succ, List.getElem_toArray, List.getElem_cons_zero, List.getElem_cons_succ]
        refine wpAnyH_take (i := 12) (v := ?_) rfl (by kernel_rfl) (by kernel_rfl) (by kernel_rfl) (fun _ _ _ h => h) (Or.inl ⟨by rfl, ?_⟩) (by assumption) ?_
        rotate_left
        · (intro w hSw; (try dsimp only at hSw); go_simp; try (with_reducible rfl))
        try simp only [Act.put, List.setIfInBounds_toArray, List.set_cons_zero, List.set_cons_succ, List.getElem_toArray, List.getElem_cons_zero, List.getElem_cons_succ]
        refine wpAnyH_take (i := 13) (v := ?_) rfl (by kernel_rfl) (by kernel_rfl) (by kernel_rfl) (fun _ _ _ h => h) (Or.inl ⟨by rfl, ?_⟩) (by assumption) ?_
        rotate_left
        · (intro w hSw; (try dsimp only at hSw); go_simp; try (with_reducible rfl))
        try simp only [Act.put, List.setIfInBounds_toArray, List.set_cons_zero, List.set_cons_succ, List.getElem_toArray, List.getElem_cons_zero, List.getElem_cons_succ]
        have hbA : ∀ o, Below wr.heap.size wr (w4.alloc o) := fun o => bA hb4 o
        refine wpAnyH_ready (rs := [14]) (by kernel_rfl) (by simp) ?_
        refine AllReadyH.cons rfl (fun K hK => ?_) AllReadyH.nil
        go_simp
        refine hK.out _ _ (⟨hbA _, HK3.out _ (hbA _), HK4.out _ (hbA _)⟩) (fun hHeld2 => ?_)
        clear hK K hHeld
        have hHeld := hHeld2
        clear hHeld2
        try simp only [Act.put, List.setIfInBounds_toArray, List.set_cons_zero, List.set_cons_succ, List.getElem_toArray, List.getElem_cons_zero, List.getElem_cons_succ]
        have hX5 := heap_new w4 (.cells #[.int .i64 0, .slice none 0 0] 48)
        have hb5 := hbA (.cells #[.int .i64 0, .slice none 0 0] 48)
        have hb45 : Below w4.heap.size w4 (w4.alloc (.cells #[.int .i64 0, .slice none 0 0] 48)) := bA (Below.refl _ _) _
        obtain ⟨X, hX⟩ : ∃ X, w4.heap.size = X := ⟨_, rfl⟩
        have hXl : wr.heap.size ≤ X := by rw [← hX]; exact hb4.size
        obtain ⟨w5, hw5⟩ : ∃ w5, w4.alloc (.cells #[.int .i64 0, .slice none 0 0] 48) = w5 := ⟨_, rfl⟩
        rw [hw5] at hX5 hb5 hb45 hHeld ⊢
        rw [hX] at hX5 ⊢
        have ka0 : w5.cell? ⟨X, 0, none⟩ = some (.int .i64 0) := by rw [cell_in hX5]; rfl
        have ka1 : w5.cell? ⟨X, 1, none⟩ = some (.slice none 0 0) := by rw [cell_in hX5]; rfl
        have fa0 := frozen_in hX5 0
        have fa1 := frozen_in hX5 1
        have hX6 := set2_heap hX5 (.int .i64 z4) (.slice p4 n4 c4)
        have hc6 : Chg (fun k => k = X) w5 (set2 w5 X (.int .i64 z4) (.slice p4 n4 c4)) := (Chg.setCell w5 ⟨X, 0, none⟩ _).trans (Chg.setCell _ ⟨X, 1, none⟩ _)
        have hb6 : Below wr.heap.size wr (set2 w5 X (.int .i64 z4) (.slice p4 n4 c4)) := set2_below hb5 hXl (.int .i64 z4) (.slice p4 n4 c4)
        refine wpAnyH_ready (rs := [15]) (by kernel_rfl) (by simp) ?_
        refine AllReadyH.cons rfl (fun K hK => ?_) AllReadyH.nil
        go_simp
        show K _ (set2 w5 X (.int .i64 z4) (.slice p4 n4 c4))
        refine hK.out _ _ (⟨hb6, HK3.out _ hb6, HK4.out _ hb6⟩) (fun hHeld2 => ?_)
        clear hK K hHeld
        have hHeld := hHeld2
        clear hHeld2
        try simp only [Act.put, List.setIfInBounds_toArray, List.set_cons_zero, List.set_cons_succ, List.getElem_toArray, List.getElem_cons_zero, List.getElem_cons_succ]
        refine wpAnyH_ready (rs := [16]) (by kernel_rfl) (by simp) ?_
        refine AllReadyH.cons rfl (fun K hK => ?_) AllReadyH.nil
        go_simp
        refine hK.out _ _ (hHeld) (fun hHeld2 => ?_)
        clear hK K hHeld
        have hHeld := hHeld2
        clear hHeld2
        try simp only [Act.put, List.setIfInBounds_toArray, List.set_cons_zero, List.set_cons_succ, List.getElem_toArray, List.getElem_cons_zero, List.getElem_cons_succ]
        refine wpAnyH_done (by kernel_rfl) ?_ _
        refine NoPanic.normal ?_
        clear hHeld
        have hcs : wr.heap.size ≤ wr.drew.heap.size := Nat.le_refl _
        have hne : ∀ (body : List UInt8) (gb : Nat), wr.drew.heap.size ≤ gb → 0 < body.length → w4.rangeAt gb 0 (bCells body) → gb ≠ X := fun body gb _ h0 hr e => by
          have := hr 0 (.int .u8 (body[0]'h0).toNat) (by unfold bCells; rw [List.getElem?_map, List.getElem?_eq_getElem h0]; rfl)
          have h1 := World.block_lt_of_cell? w4 _ this
          have h2 : gb < w4.heap.size := h1
          omega
        clear hX
        obtain ⟨w6, hw6⟩ : ∃ w6, set2 w5 X (.int .i64 z4) (.slice p4 n4 c4) = w6 := ⟨_, rfl⟩
        rw [hw6] at hX6 hc6 hb6 ⊢
        rcases hdr : rdRec (V.drop u) (l + 1) with _ | body
        · rw [hdr] at hres
          obtain rfl := hres
          have hsc : scan (N + 1) V after = E.map (·.body) := by
            obtain ⟨fuel, hf1, hf2⟩ := HI.out.more
            rw [← HU.out, ← HLE.out] at hf2
            rw [hf2]
            cases fuel with
            | zero => simp [scan]
            | succ fuel => simp [scan, hdr]
          have HSC := Lib.hid hsc
          have HB6 := Lib.hid hb6
          clear hsc hb6 hdr hb4 hb4' hX6 hc6 hX5 hb5 hb45 hne hXl hw5 hw6 ka0 ka1 fa0 fa1
          go_wp2
          refine bodyPost_ret (results_tmp3 rfl _ _ _) rfl ?_
          refine ⟨P + 1, P, pv, E, cv, by rw [HJ.out]; rfl, ?_, HSC.out.symm⟩
          have h := HI.out.on HB6.out
          rw [HJ.out] at h
          exact ⟨h.row, h.ents, h.log, h.few, h.st, h.more, HB2.out.trans (h.below.mono HB2.out.size), ⟨h.plo.1, h.plo.2.1, hPw⟩⟩
        · rw [hdr] at hres
          obtain ⟨rfl, gb, rfl, rfl, rfl, hgb, hgl⟩ := hres
          have hgb6 : w6.rangeAt gb 0 (bCells body) := by
            by_cases h0 : 0 < body.length
            · exact hc6.range ((Chg.below hb45 (fun _ => False)).range hgb (fun e => e)) (hne body gb hgl h0 hgb)
            · have e : body = [] := List.length_eq_zero_iff.1 (by omega)
              rw [e]
              exact fun j u hj => by simp [bCells] at hj
          have hgl6 : wr.heap.size ≤ gb := Nat.le_trans hcs hgl
          obtain ⟨bl, hbl⟩ : ∃ bl, bl = body.length := ⟨_, rfl⟩
          have hbm := (rdRec_some (fun s hs => HV64.out s (List.mem_of_mem_drop hs)) hdr).1
          rw [← hbl] at hX6 hbm ⊢
          have hnd := fun W => need_big bl hbm W
          obtain ⟨sc, hsc⟩ : ∃ sc, secs bl = sc := ⟨_, rfl⟩
          have hscb : sc ≤ 20000 := by rw [← hsc]; unfold secs; omega
          rw [hsc] at hnd
          have e1 : ((l + 1 : Nat) : Int) = (l : Int) + 1 := by omega
          rw [e1] at hX6 ⊢
          have HBL := Lib.hid hbl
          have HSCE := Lib.hid hsc
          have HDR := Lib.hid hdr
          have HGB6 := Lib.hid hgb6
          have HB6 := Lib.hid hb6
          have HX6 := Lib.hid hX6
          have hj63 : j ≤ 1000 := by omega
          have hown6 : (w6.alloc (.cells #[.int .i64 ((l : Int) + 1), .slice (some ⟨gb, 0, none⟩) bl c4] 48)).ownsRow (P + 1) 48 2 (.slice pv j cv) j (eCells E) := by
            have h0 := HI.out.row
            rw [← HJ.out] at h0
            have h1 := (Chg.below hb6 (fun _ => False)).own h0 (fun _ _ e => e)
            exact (Chg.alloc (fun _ => False) w6 _).own h1 (fun _ _ e => e)
          have HROW := Lib.hid hown6
          have hbase : P + 1 ≤ w6.heap.size := Nat.le_trans HI.out.plo.2.1 hb6.size
          have kx0 : w6.cell? ⟨X, 0, none⟩ = some (.int .i64 ((l : Int) + 1)) := by rw [cell_in hX6]; rfl
          have kx1 : w6.cell? ⟨X, 1, none⟩ = some (.slice (some ⟨gb, 0, none⟩) bl c4) := by rw [cell_in hX6]; rfl
          clear hown6 hgb hgb6 hbl hsc hdr hb4 hb4' hX6 hc6 hX5 hb5 hb45 hne hw5 hw6 ka0 ka1 fa0 fa1 hgl hb6 hbm
          go_wp2_with (at_builtin; refine wpList_append_lies _ rfl (.tmp 64) (.tmp 66) 35 rfl (P + 1) 48 i0 (.agg #[.int .i64 0, .slice none 0 0]) 2 32 Try.underlying35 hi hz0 hz1 hz2 rfl (by decide) _ j _ rfl HROW.out ⟨w6.heap.size, 0, none⟩ 1 1 [.int .i64 ((l : Int) + 1), .slice (some ⟨gb, 0, none⟩) bl c4] rfl rfl ?c1 (by simp; exact ⟨rfl, rfl⟩) (by decide) (by unfold maxLen; omega) (by omega) (by simp; omega) _ rfl ?_)
          case c1 =>
            intro k u hk
            have hnew := heap_new w6 (.cells #[.int .i64 ((l : Int) + 1), .slice (some ⟨gb, 0, none⟩) bl c4] 48)
            rw [Addr.add_mid, Nat.zero_add, cell_in hnew, ← hk]
            match k with
            | 0 => rfl
            | 1 => rfl
            | k + 2 => rfl
          intro g2 cap2 w8 hown hgrow hgs hgl2
          have hv : ∀ k, (Value.slice pv j cv).ownBlock = some k → P + 1 ≤ k ∧ k < wr.heap.size := fun k hk => HI.out.row.lt k hk
          have hc8 : Chg (fun k => (Value.slice pv j cv).ownBlock = some k) w6 w8 := (Chg.alloc _ w6 _).trans ((Chg.grown hgrow).weaken (fun k _ e => e.symm))
          have hX8 := hc8.box HX6.out (fun e => by have := (hv X e).2; omega)
          have hG8 : GAt w8 P R f N u l := hc8.box ((Chg.below HB6.out (fun _ => False)).box HLG.out (fun e => e)) (fun e => by have := (hv P e).1; omega)
          obtain ⟨wd, hwd⟩ : ∃ wd, w8.drew = wd := ⟨_, rfl⟩
          have hbd : Below w8.heap.size w8 wd := by rw [← hwd]; exact bD (Below.refl _ _)
          have hXd := (Chg.below hbd (fun _ => False)).box hX8 (fun e => e)
          have hGd : GAt wd P R f N u l := (Chg.below hbd (fun _ => False)).box hG8 (fun e => e)
          obtain ⟨kp3, kp4⟩ := hGd.cells
          have fp3 := frozen_in hGd 3
          have k8p3 := hG8.cells.1
          have kx1'' : w8.cell? ⟨X, 1, none⟩ = some (.slice (some ⟨gb, 0, none⟩) bl c4) := by rw [cell_in hX8]; rfl
          have hS12 : (wd.setCell ⟨P, 3, none⟩ (.int .i64 ((u + sc : Nat) : Int))).cell? ⟨X, 1, none⟩ = some (.slice (some ⟨gb, 0, none⟩) bl c4) := by rw [cell_in ((Chg.setCell wd ⟨P, 3, none⟩ (.int .i64 ((u + sc : Nat) : Int))).box hXd (fun e => by have e' : X = P := e; have := HI.out.plo; omega))]; rfl
          have fp4 := frozen_in hGd 4
          have kx1' : wd.cell? ⟨X, 1, none⟩ = some (.slice (some ⟨gb, 0, none⟩) bl c4) := by rw [cell_in hXd]; rfl
          obtain ⟨u2, hu2⟩ : ∃ u2, u + sc = u2 := ⟨_, rfl⟩
          have q2 : (u : Int) + (sc : Int) = (u2 : Int) := by omega
          have hu2b : u2 ≤ 30000 := by omega
          have q2w : IntKind.i64.wrap (u2 : Int) = (u2 : Int) := by rw [IntKind.wrap_i64]; omega
          rw [hu2] at hS12
          have HU2 := Lib.hid hu2
          have HWD := Lib.hid hwd
          have HGD := Lib.hid hGd
          have HBD := Lib.hid hbd
          have HG := Lib.hid (show _ ∧ _ from ⟨hown, hgrow⟩)
          clear hown hgrow hgs hgl2 hX8 hG8 hXd hGd hbd hu2 hv hc8 kx0 kx1
          go_wp2
          refine wp_region_noPanic ?_
          refine wp_region_held_drew (S := fun W => W.cell? ⟨X, 1, none⟩ = some (.slice (some ⟨gb, 0, none⟩) bl c4)) (by kernel_rfl) (by first | exact kx1' | exact kx1'') (fun hHeld => ?_)
          refine wpAnyH_take (i := 0) (v := ?_) rfl (by kernel_rfl) (by kernel_rfl) (by kernel_rfl) (fun _ _ _ h => h) (Or.inl ⟨by rfl, ?_⟩) (by assumption) ?_
          rotate_left
          · (intro w hSw; (try dsimp only at hSw); go_simp; try (with_reducible rfl))
          try simp only [Act.put, List.setIfInBounds_toArray, List.set_cons_zero, List.set_cons_succ, List.getElem_toArray, List.getElem_cons_zero]
          refine wpAnyH_take (i := 1) (v := ?_) rfl (by kernel_rfl) (by kernel_rfl) (by kernel_rfl) (fun _ _ _ h => h) (Or.inl ⟨by rfl, ?_⟩) (by assumption) ?_
          rotate_left
          · (intro w hSw; (try dsimp only at hSw); go_simp; try (with_reducible rfl))
          try simp only [Act.put, List.setIfInBounds_toArray, List.set_cons_zero, List.set_cons_succ, List.getElem_toArray, List.getElem_cons_zero, List.getElem_cons_succ]
          refine wpAnyH_take (i := 2) (v := ?_) rfl (by kernel_rfl) (by kernel_rfl) (by kernel_rfl) (fun _ _ _ h => h) (Or.inl ⟨by rfl, ?_⟩) (by assumption) ?_
          rotate_left
          · (intro w hSw; (try dsimp only at hSw); go_simp; try (with_reducible rfl))
          try simp only [Act.put, List.setIfInBounds_toArray, List.set_cons_zero, List.set_cons_succ, List.getElem_toArray, List.getElem_cons_zero, List.getElem_cons_succ]
          refine wpAnyH_take (i := 3) (v := ?_) rfl (by kernel_rfl) (by kernel_rfl) (by kernel_rfl) (fun _ _ _ h => h) (Or.inl ⟨by rfl, ?_⟩) (by assumption) ?_
          rotate_left
          · (intro w hSw; (try dsimp only at hSw); go_simp; try (with_reducible rfl))
          try simp only [Act.put, List.setIfInBounds_toArray, List.set_cons_zero, List.set_cons_succ, List.getElem_toArray, List.getElem_cons_zero, List.getElem_cons_succ]
          refine wpAnyH_take (i := 5) (v := ?_) rfl (by kernel_rfl) (by kernel_rfl) (by kernel_rfl) (fun _ _ _ h => h) (Or.inl ⟨by rfl, ?_⟩) (by assumption) ?_
          rotate_left
          · (intro w hSw; (try dsimp only at hSw); go_simp; try (with_reducible rfl))
          try simp only [Act.put, List.setIfInBounds_toArray, List.set_cons_zero, List.set_cons_succ, List.getElem_toArray, List.getElem_cons_zero, List.getElem_cons_succ]
          refine wpAnyH_take (i := 6) (v := ?_) rfl (by kernel_rfl) (by kernel_rfl) (by kernel_rfl) (fun _ _ _ h => h) (Or.inl ⟨by rfl, ?_⟩) (by assumption) ?_
          rotate_left
          · (intro w hSw; (try dsimp only at hSw); go_simp; try (with_reducible rfl))
          try simp only [Act.put, List.setIfInBounds_toArray, List.set_cons_zero, List.set_cons_succ, List.getElem_toArray, List.getElem_cons_zero, List.getElem_cons_succ]
          refine wpAnyH_take (i := 7) (v := ?_) rfl (by kernel_rfl) (by kernel_rfl) (by kernel_rfl) (fun _ _ _ h => h) (Or.inl ⟨by rfl, ?_⟩) (by assumption) ?_
          rotate_left
          · (intro w hSw; (try dsimp only at hSw); go_simp; try (with_reducible rfl))
          try simp only [Act.put, List.setIfInBounds_toArray, List.set_cons_zero, List.set_cons_succ, List.getElem_toArray, List.getElem_cons_zero, List.getElem_cons_succ]
          refine wpAnyH_ready (rs := [4, 8]) (by kernel_rfl) (by simp) ?_
          refine AllReadyH.cons rfl (fun K hK => ?_) (AllReadyH.cons rfl (fun K hK => ?_) AllReadyH.nil)
          · (first | rw [HWD.out] | skip)
            go_simp
            refine hK.out _ _ ((by first | exact hHeld | exact kx1')) (fun hHeld2 => ?_)
            clear hK K hHeld
            have hHeld := hHeld2
            clear hHeld2
            try simp only [Act.put, List.setIfInBounds_toArray, List.set_cons_zero, List.set_cons_succ, List.getElem_toArray, List.getElem_cons_zero, List.getElem_cons_succ]
            refine wpAnyH_ready (rs := [8]) (by kernel_rfl) (by simp) ?_
            refine AllReadyH.cons rfl (fun K hK => ?_) AllReadyH.nil
            go_simp
            go_at_call 39
            refine (hnd _).mono ?_
            rintro e9 w9 ⟨rfl, rfl⟩
            refine hK.out _ _ ((by first | exact hHeld | exact kx1')) (fun hHeld2 => ?_)
            clear hK K hHeld
            have hHeld := hHeld2
            clear hHeld2
            try simp only [Act.put, List.setIfInBounds_toArray, List.set_cons_zero, List.set_cons_succ, List.getElem_toArray, List.getElem_cons_zero, List.getElem_cons_succ]
            refine wpAnyH_take (i := 9) (v := ?_) rfl (by kernel_rfl) (by kernel_rfl) (by kernel_rfl) (fun _ _ _ h => h) (Or.inl ⟨by rfl, ?_⟩) (by assumption) ?_
            rotate_left
            · (intro w hSw; (try dsimp only at hSw); go_simp; try (with_reducible rfl))
            try simp only [Act.put, List.setIfInBounds_toArray, List.set_cons_zero, List.set_cons_succ, List.getElem_toArray, List.getElem_cons_zero, List.getElem_cons_succ]
            refine wpAnyH_take (i := 10) (v := ?_) rfl (by kernel_rfl) (by kernel_rfl) (by kernel_rfl) (fun _ _ _ h => h) (Or.inl ⟨by rfl, ?_⟩) (by assumption) ?_
            rotate_left
            · (intro w hSw; (try dsimp only at hSw); go_simp; try (with_reducible rfl))
            try simp only [Act.put, List.setIfInBounds_toArray, List.set_cons_zero, List.set_cons_succ, List.getElem_toArray, List.getElem_cons_zero, List.getElem_cons_succ]
            refine wpAnyH_take (i := 11) (v := ?_) rfl (by kernel_rfl) (by kernel_rfl) (by kernel_rfl) (fun _ _ _ h => h) (Or.inl ⟨by rfl, ?_⟩) (by assumption) ?_
            rotate_left
            · (intro w hSw; (try dsimp only at hSw); go_simp; try (with_reducible rfl))
            try simp only [Act.put, List.setIfInBounds_toArray, List.set_cons_zero, List.set_cons_succ, List.getElem_toArray, List.getElem_cons_zero, List.getElem_cons_succ]
            refine wpAnyH_ready (rs := [12]) (by kernel_rfl) (by simp) ?_
            refine AllReadyH.cons rfl (fun K hK => ?_) AllReadyH.nil
            go_simp
            (first | rw [HWD.out] | skip)
            refine hK.out _ _ ((by first | exact hHeld | exact hS12)) (fun hHeld2 => ?_)
            clear hK K hHeld
            have hHeld := hHeld2
            clear hHeld2
            try simp only [Act.put, List.setIfInBounds_toArray, List.set_cons_zero, List.set_cons_succ, List.getElem_toArray, List.getElem_cons_zero, List.getElem_cons_succ]
            refine wpAnyH_done (by kernel_rfl) ?_ _
            refine NoPanic.normal ?_
            clear hHeld
            (first | rw [HWD.out] | skip)
            go_wp2_with fail
            have hgA : GAt (wd.setCell ⟨P, 3, none⟩ (.int .i64 (u2 : Int))) P R f N u2 l := heap_set HGD.out (.int .i64 (u2 : Int))
            have hgB : GAt ((wd.setCell ⟨P, 3, none⟩ (.int .i64 (u2 : Int))).setCell ⟨P, 4, none⟩ (.int .i64 ((l : Int) + 1))) P R f N u2 (l + 1) := heap_set hgA (.int .i64 ((l : Int) + 1))
            have hcc : Chg (fun k => k = P) w8 ((wd.setCell ⟨P, 3, none⟩ (.int .i64 (u2 : Int))).setCell ⟨P, 4, none⟩ (.int .i64 ((l : Int) + 1))) := (Chg.below HBD.out _).trans ((Chg.setCell wd ⟨P, 3, none⟩ _).trans (Chg.setCell _ ⟨P, 4, none⟩ _))
            have hstep := HI.out.step (v' := .slice (some ⟨g2, 0, none⟩) (j + 1) cap2) (cp := c4) (body := body) (gb := gb) HV64.out HVL.out (bA HB6.out (.cells #[.int .i64 ((l : Int) + 1), .slice (some ⟨gb, 0, none⟩) bl c4] 48)) ((Chg.alloc (fun _ => False) w6 _).range HGB6.out (fun e => e)) hgl6 HG.out.2 (by
              have hown := HG.out.1
              rw [HBL.out, HLE.out, HJ.out] at hown
              rw [HJ.out]
              exact hown) hcc (by
              have h := hgB
              rw [← HU2.out, ← HSCE.out, HU.out, HLE.out, HBL.out] at h
              rw [← HU2.out, ← HSCE.out, HU.out, HLE.out, HBL.out]
              exact h) (by
              have h := HDR.out
              rw [HU.out, HLE.out] at h
              exact h) (by rw [← HLE.out]; exact hmax)
            have HST := Lib.hid hstep
            have HJL := Lib.hid (show E.length = j from HJ.out.symm)
            clear hgA hgB hcc hstep
            go_roundw
            case rel => exact ⟨_, some ⟨g2, 0, none⟩, cap2, j + 1, rfl, Lib.hid (by rw [List.length_append, HJL.out]; rfl), HST⟩
            case measure =>
              have := HST.out.few
              rw [List.length_append, HJL.out] at this
              simp at this
              simp [lenOf]
              omega
          · go_simp
            go_at_call 39
            refine (hnd _).mono ?_
            rintro e9 w9 ⟨rfl, rfl⟩
            refine hK.out _ _ ((by first | exact hHeld | exact kx1')) (fun hHeld2 => ?_)
            clear hK K hHeld
            have hHeld := hHeld2
            clear hHeld2
            try simp only [Act.put, List.setIfInBounds_toArray, List.set_cons_zero, List.set_cons_succ, List.getElem_toArray, List.getElem_cons_zero, List.getElem_cons_succ]
            refine wpAnyH_ready (rs := [4]) (by kernel_rfl) (by simp) ?_
            refine AllReadyH.cons rfl (fun K hK => ?_) AllReadyH.nil
            (first | rw [HWD.out] | skip)
            go_simp
            refine hK.out _ _ ((by first | exact hHeld | exact kx1')) (fun hHeld2 => ?_)
            clear hK K hHeld
            have hHeld := hHeld2
            clear hHeld2
            try simp only [Act.put, List.setIfInBounds_toArray, List.set_cons_zero, List.set_cons_succ, List.getElem_toArray, List.getElem_cons_zero, List.getElem_cons_succ]
            refine wpAnyH_take (i := 9) (v := ?_) rfl (by kernel_rfl) (by kernel_rfl) (by kernel_rfl) (fun _ _ _ h => h) (Or.inl ⟨by rfl, ?_⟩) (by assumption) ?_
            rotate_left
            · (intro w hSw; (try dsimp only at hSw); go_simp; try (with_reducible rfl))
            try simp only [Act.put, List.setIfInBounds_toArray, List.set_cons_zero, List.set_cons_succ, List.getElem_toArray, List.getElem_cons_zero, List.getElem_cons_succ]
            refine wpAnyH_take (i := 10) (v := ?_) rfl (by kernel_rfl) (by kernel_rfl) (by kernel_rfl) (fun _ _ _ h => h) (Or.inl ⟨by rfl, ?_⟩) (by assumption) ?_
            rotate_left
            · (intro w hSw; (try dsimp only at hSw); go_simp; try (with_reducible rfl))
            try simp only [Act.put, List.setIfInBounds_toArray, List.set_cons_zero, List.set_cons_succ, List.getElem_toArray, List.getElem_cons_zero, List.getElem_cons_succ]
            refine wpAnyH_take (i := 11) (v := ?_) rfl (by kernel_rfl) (by kernel_rfl) (by kernel_rfl) (fun _ _ _ h => h) (Or.inl ⟨by rfl, ?_⟩) (by assumption) ?_
            rotate_left
            · (intro w hSw; (try dsimp only at hSw); go_simp; try (with_reducible rfl))
            try simp only [Act.put, List.setIfInBounds_toArray, List.set_cons_zero, List.set_cons_succ, List.getElem_toArray, List.getElem_cons_zero, List.getElem_cons_succ]
            refine wpAnyH_ready (rs := [12]) (by kernel_rfl) (by simp) ?_
            refine AllReadyH.cons rfl (fun K hK => ?_) AllReadyH.nil
            go_simp
            (first | rw [HWD.out] | skip)
            refine hK.out _ _ ((by first | exact hHeld | exact hS12)) (fun hHeld2 => ?_)
            clear hK K hHeld
            have hHeld := hHeld2
            clear hHeld2
            try simp only [Act.put, List.setIfInBounds_toArray, List.set_cons_zero, List.set_cons_succ, List.getElem_toArray, List.getElem_cons_zero, List.getElem_cons_succ]
            refine wpAnyH_done (by kernel_rfl) ?_ _
            refine NoPanic.normal ?_
            clear hHeld
            (first | rw [HWD.out] | skip)
            go_wp2_with fail
            have hgA : GAt (wd.setCell ⟨P, 3, none⟩ (.int .i64 (u2 : Int))) P R f N u2 l := heap_set HGD.out (.int .i64 (u2 : Int))
            have hgB : GAt ((wd.setCell ⟨P, 3, none⟩ (.int .i64 (u2 : Int))).setCell ⟨P, 4, none⟩ (.int .i64 ((l : Int) + 1))) P R f N u2 (l + 1) := heap_set hgA (.int .i64 ((l : Int) + 1))
            have hcc : Chg (fun k => k = P) w8 ((wd.setCell ⟨P, 3, none⟩ (.int .i64 (u2 : Int))).setCell ⟨P, 4, none⟩ (.int .i64 ((l : Int) + 1))) := (Chg.below HBD.out _).trans ((Chg.setCell wd ⟨P, 3, none⟩ _).trans (Chg.setCell _ ⟨P, 4, none⟩ _))
            have hstep := HI.out.step (v' := .slice (some ⟨g2, 0, none⟩) (j + 1) cap2) (cp := c4) (body := body) (gb := gb) HV64.out HVL.out (bA HB6.out (.cells #[.int .i64 ((l : Int) + 1), .slice (some ⟨gb, 0, none⟩) bl c4] 48)) ((Chg.alloc (fun _ => False) w6 _).range HGB6.out (fun e => e)) hgl6 HG.out.2 (by
              have hown := HG.out.1
              rw [HBL.out, HLE.out, HJ.out] at hown
              rw [HJ.out]
              exact hown) hcc (by
              have h := hgB
              rw [← HU2.out, ← HSCE.out, HU.out, HLE.out, HBL.out] at h
              rw [← HU2.out, ← HSCE.out, HU.out, HLE.out, HBL.out]
              exact h) (by
              have h := HDR.out
              rw [HU.out, HLE.out] at h
              exact h) (by rw [← HLE.out]; exact hmax)
            have HST := Lib.hid hstep
            have HJL := Lib.hid (show E.length = j from HJ.out.symm)
            clear hgA hgB hcc hstep
            go_roundw
            case rel => exact ⟨_, some ⟨g2, 0, none⟩, cap2, j + 1, rfl, Lib.hid (by rw [List.length_append, HJL.out]; rfl), HST⟩
            case measure =>
              have := HST.out.few
              rw [List.length_append, HJL.out] at this
              simp at this
              simp [lenOf]
              omega
      · go_simp
        have hbB : Below wr.heap.size wr (wr.alloc (.cells #[.int .i64 0, .slice none 0 0] 48)).drew := bD (bA (Below.refl _ _) _)
        refine hK.out _ _ (⟨hbB, HK3.out _ hbB, HK4.out _ hbB⟩) (fun hHeld2 => ?_)
        clear hK K hHeld
        have hHeld := hHeld2
        clear hHeld2
        try simp only [Act.put, List.setIfInBounds_toArray, List.set_cons_zero, List.set_cons_succ, List.getElem_toArray, List.getElem_cons_zero, List.getElem_cons_succ]
        refine wpAnyH_ready (rs := [10]) (by kernel_rfl) (by simp) ?_
        refine AllReadyH.cons rfl (fun K hK => ?_) AllReadyH.nil
        go_simp
        go_at_call 38
        have hX0 : (wr.alloc (.cells #[.int .i64 0, .slice none 0 0] 48)).drew.heap[wr.heap.size]? = some (.cells #[.int .i64 0, .slice none 0 0] 48 (0, 0)) := heap_new wr (.cells #[.int .i64 0, .slice none 0 0] 48)
        obtain ⟨wB, hwB⟩ : ∃ wB, (wr.alloc (.cells #[.int .i64 0, .slice none 0 0] 48)).drew = wB := ⟨_, rfl⟩
        rw [hwB] at hbB hX0 ⊢
        refine (HAT.out _ hbB).mono ?_
        rintro e2 w4 ⟨z4, p4, n4, c4, ok, rfl, hb4', hres⟩
        have hb4 : Below wr.heap.size wr w4 := hbB.trans (hb4'.mono hbB.size)
        have hX4 := (Chg.below hb4' (fun _ => False)).box hX0 (fun e => e)
        refine hK.out _ _ (⟨hb4, HK3.out _ hb4, HK4.out _ hb4⟩) (fun hHeld2 => ?_)
        clear hK K hHeld
        have hHeld := hHeld2
        clear hHeld2
        try simp only [Act.put, List.setIfInBounds_toArray, List.set_cons_zero, List.set_cons_succ, List.getElem_toArray, List.getElem_cons_zero, List.getElem_cons_succ]
        refine wpAnyH_take (i := 11) (v := ?_) rfl (by kernel_rfl) (by kernel_rfl) (by kernel_rfl) (fun _ _ _ h => h) (Or.inl ⟨by rfl, ?_⟩) (by assumption) ?_
        rotate_left
        · (intro w hSw; (try dsimp only at hSw); go_simp; try (with_reducible rfl))
        try simp only [Act.put, List.setIfInBounds_toArray, List.set_cons_zero, List.set_cons_succ, List.getElem_toArray, List.getElem_cons_zero, List.getElem_cons_succ]
        refine wpAnyH_take (i := 12) (v := ?_) rfl (by kernel_rfl) (by kernel_rfl) (by kernel_rfl) (fun _ _ _ h => h) (Or.inl ⟨by rfl, ?_⟩) (by assumption) ?_
        rotate_left
        · (intro w hSw; (try dsimp only at hSw); go_simp; try (with_reducible rfl))
        try simp only [Act.put, List.setIfInBounds_toArray, List.set_cons_zero, List.set_cons_succ, List.getElem_toArray, List.getElem_cons_zero, List.getElem_cons_succ]
        refine wpAnyH_take (i := 13) (v := ?_) rfl (by kernel_rfl) (by kernel_rfl) (by kernel_rfl) (fun _ _ _ h => h) (Or.inl ⟨by rfl, ?_⟩) (by assumption) ?_
        rotate_left
        · (intro w hSw; (try dsimp only at hSw); go_simp; try (with_reducible rfl))
        try simp only [Act.put, List.setIfInBounds_toArray, List.set_cons_zero, List.set_cons_succ, List.getElem_toArray, List.getElem_cons_zero, List.getElem_cons_succ]
        have hXl : wr.heap.size ≤ wr.heap.size := Nat.le_refl _
        obtain ⟨X, hX⟩ : ∃ X, wr.heap.size = X := ⟨_, rfl⟩
        have hXl : wr.heap.size ≤ X := by omega
        have hX5 := hX4
        have hb5 := hb4
        obtain ⟨w5, hw5⟩ : ∃ w5, w4 = w5 := ⟨_, rfl⟩
        have hb45 : Below w4.heap.size w4 w5 := by rw [hw5]; exact Below.refl _ _
        rw [hw5] at hX5 hb5 hHeld ⊢
        rw [hX] at hX5 ⊢
        have ka0 : w5.cell? ⟨X, 0, none⟩ = some (.int .i64 0) := by rw [cell_in hX5]; rfl
        have ka1 : w5.cell? ⟨X, 1, none⟩ = some (.slice none 0 0) := by rw [cell_in hX5]; rfl
        have fa0 := frozen_in hX5 0
        have fa1 := frozen_in hX5 1
        have hX6 := set2_heap hX5 (.int .i64 z4) (.slice p4 n4 c4)
        have hc6 : Chg (fun k => k = X) w5 (set2 w5 X (.int .i64 z4) (.slice p4 n4 c4)) := (Chg.setCell w5 ⟨X, 0, none⟩ _).trans (Chg.setCell _ ⟨X, 1, none⟩ _)
        have hb6 : Below wr.heap.size wr (set2 w5 X (.int .i64 z4) (.slice p4 n4 c4)) := set2_below hb5 hXl (.int .i64 z4) (.slice p4 n4 c4)
        refine wpAnyH_ready (rs := [15]) (by kernel_rfl) (by simp) ?_
        refine AllReadyH.cons rfl (fun K hK => ?_) AllReadyH.nil
        go_simp
        show K _ (set2 w5 X (.int .i64 z4) (.slice p4 n4 c4))
        refine hK.out _ _ (⟨by have h := hb6; rw [hX] at h; exact h, HK3.out _ hb6, HK4.out _ hb6⟩) (fun hHeld2 => ?_)
        clear hK K hHeld
        have hHeld := hHeld2
        clear hHeld2
        try simp only [Act.put, List.setIfInBounds_toArray, List.set_cons_zero, List.set_cons_succ, List.getElem_toArray, List.getElem_cons_zero, List.getElem_cons_succ]
        refine wpAnyH_ready (rs := [16]) (by kernel_rfl) (by simp) ?_
        refine AllReadyH.cons rfl (fun K hK => ?_) AllReadyH.nil
        go_simp
        refine hK.out _ _ (hHeld) (fun hHeld2 => ?_)
        clear hK K hHeld
        have hHeld := hHeld2
        clear hHeld2
        try simp only [Act.put, List.setIfInBounds_toArray, List.set_cons_zero, List.set_cons_succ, List.getElem_toArray, List.getElem_cons_zero, List.getElem_cons_succ]
        refine wpAnyH_done (by kernel_rfl) ?_ _
        refine NoPanic.normal ?_
        clear hHeld
        have hcs : wr.heap.size ≤ wB.heap.size := hbB.size
        have hne : ∀ (body : List UInt8) (gb : Nat), wB.heap.size ≤ gb → 0 < body.length → w4.rangeAt gb 0 (bCells body) → gb ≠ X := fun body gb h1 _ _ e => by
          have h2 : wr.heap.size < wB.heap.size := (Array.getElem?_eq_some_iff.1 hX0).1
          omega
        clear hX0 hX4 hbB hwB hX
        obtain ⟨w6, hw6⟩ : ∃ w6, set2 w5 X (.int .i64 z4) (.slice p4 n4 c4) = w6 := ⟨_, rfl⟩
        rw [hw6] at hX6 hc6 hb6 ⊢
        rcases hdr : rdRec (V.drop u) (l + 1) with _ | body
        · rw [hdr] at hres
          obtain rfl := hres
          have hsc : scan (N + 1) V after = E.map (·.body) := by
            obtain ⟨fuel, hf1, hf2⟩ := HI.out.more
            rw [← HU.out, ← HLE.out] at hf2
            rw [hf2]
            cases fuel with
            | zero => simp [scan]
            | succ fuel => simp [scan, hdr]
          have HSC := Lib.hid hsc
          have HB6 := Lib.hid hb6
          clear hsc hb6 hdr hb4 hb4' hX6 hc6 hX5 hb5 hb45 hne hXl hw5 hw6 ka0 ka1 fa0 fa1
          go_wp2
          refine bodyPost_ret (results_tmp3 rfl _ _ _) rfl ?_
          refine ⟨P + 1, P, pv, E, cv, by rw [HJ.out]; rfl, ?_, HSC.out.symm⟩
          have h := HI.out.on HB6.out
          rw [HJ.out] at h
          exact ⟨h.row, h.ents, h.log, h.few, h.st, h.more, HB2.out.trans (h.below.mono HB2.out.size), ⟨h.plo.1, h.plo.2.1, hPw⟩⟩
        · rw [hdr] at hres
          obtain ⟨rfl, gb, rfl, rfl, rfl, hgb, hgl⟩ := hres
          have hgb6 : w6.rangeAt gb 0 (bCells body) := by
            by_cases h0 : 0 < body.length
            · exact hc6.range ((Chg.below hb45 (fun _ => False)).range hgb (fun e => e)) (hne body gb hgl h0 hgb)
            · have e : body = [] := List.length_eq_zero_iff.1 (by omega)
              rw [e]
              exact fun j u hj => by simp [bCells] at hj
          have hgl6 : wr.heap.size ≤ gb := Nat.le_trans hcs hgl
          obtain ⟨bl, hbl⟩ : ∃ bl, bl = body.length := ⟨_, rfl⟩
          have hbm := (rdRec_some (fun s hs => HV64.out s (List.mem_of_mem_drop hs)) hdr).1
          rw [← hbl] at hX6 hbm ⊢
          have hnd := fun W => need_big bl hbm W
          obtain ⟨sc, hsc⟩ : ∃ sc, secs bl = sc := ⟨_, rfl⟩
          have hscb : sc ≤ 20000 := by rw [← hsc]; unfold secs; omega
          rw [hsc] at hnd
          have e1 : ((l + 1 : Nat) : Int) = (l : Int) + 1 := by omega
          rw [e1] at hX6 ⊢
          have HBL := Lib.hid hbl
          have HSCE := Lib.hid hsc
          have HDR := Lib.hid hdr
          have HGB6 := Lib.hid hgb6
          have HB6 := Lib.hid hb6
          have HX6 := Lib.hid hX6
          have hj63 : j ≤ 1000 := by omega
          have hown6 : (w6.alloc (.cells #[.int .i64 ((l : Int) + 1), .slice (some ⟨gb, 0, none⟩) bl c4] 48)).ownsRow (P + 1) 48 2 (.slice pv j cv) j (eCells E) := by
            have h0 := HI.out.row
            rw [← HJ.out] at h0
            have h1 := (Chg.below hb6 (fun _ => False)).own h0 (fun _ _ e => e)
            exact (Chg.alloc (fun _ => False) w6 _).own h1 (fun _ _ e => e)
          have HROW := Lib.hid hown6
          have hbase : P + 1 ≤ w6.heap.size := Nat.le_trans HI.out.plo.2.1 hb6.size
          have kx0 : w6.cell? ⟨X, 0, none⟩ = some (.int .i64 ((l : Int) + 1)) := by rw [cell_in hX6]; rfl
          have kx1 : w6.cell? ⟨X, 1, none⟩ = some (.slice (some ⟨gb, 0, none⟩) bl c4) := by rw [cell_in hX6]; rfl
          clear hown6 hgb hgb6 hbl hsc hdr hb4 hb4' hX6 hc6 hX5 hb5 hb45 hne hw5 hw6 ka0 ka1 fa0 fa1 hgl hb6 hbm
          go_wp2_with (at_builtin; refine wpList_append_lies _ rfl (.tmp 64) (.tmp 66) 35 rfl (P + 1) 48 i0 (.agg #[.int .i64 0, .slice none 0 0]) 2 32 Try.underlying35 hi hz0 hz1 hz2 rfl (by decide) _ j _ rfl HROW.out ⟨w6.heap.size, 0, none⟩ 1 1 [.int .i64 ((l : Int) + 1), .slice (some ⟨gb, 0, none⟩) bl c4] rfl rfl ?c1 (by simp; exact ⟨rfl, rfl⟩) (by decide) (by unfold maxLen; omega) (by omega) (by simp; omega) _ rfl ?_)
          case c1 =>
            intro k u hk
            have hnew := heap_new w6 (.cells #[.int .i64 ((l : Int) + 1), .slice (some ⟨gb, 0, none⟩) bl c4] 48)
            rw [Addr.add_mid, Nat.zero_add, cell_in hnew, ← hk]
            match k with
            | 0 => rfl
            | 1 => rfl
            | k + 2 => rfl
          intro g2 cap2 w8 hown hgrow hgs hgl2
          have hv : ∀ k, (Value.slice pv j cv).ownBlock = some k → P + 1 ≤ k ∧ k < wr.heap.size := fun k hk => HI.out.row.lt k hk
          have hc8 : Chg (fun k => (Value.slice pv j cv).ownBlock = some k) w6 w8 := (Chg.alloc _ w6 _).trans ((Chg.grown hgrow).weaken (fun k _ e => e.symm))
          have hX8 := hc8.box HX6.out (fun e => by have := (hv X e).2; omega)
          have hG8 : GAt w8 P R f N u l := hc8.box ((Chg.below HB6.out (fun _ => False)).box HLG.out (fun e => e)) (fun e => by have := (hv P e).1; omega)
          obtain ⟨wd, hwd⟩ : ∃ wd, w8.drew = wd := ⟨_, rfl⟩
          have hbd : Below w8.heap.size w8 wd := by rw [← hwd]; exact bD (Below.refl _ _)
          have hXd := (Chg.below hbd (fun _ => False)).box hX8 (fun e => e)
          have hGd : GAt wd P R f N u l := (Chg.below hbd (fun _ => False)).box hG8 (fun e => e)
          obtain ⟨kp3, kp4⟩ := hGd.cells
          have fp3 := frozen_in hGd 3
          have k8p3 := hG8.cells.1
          have kx1'' : w8.cell? ⟨X, 1, none⟩ = some (.slice (some ⟨gb, 0, none⟩) bl c4) := by rw [cell_in hX8]; rfl
          have hS12 : (wd.setCell ⟨P, 3, none⟩ (.int .i64 ((u + sc : Nat) : Int))).cell? ⟨X, 1, none⟩ = some (.slice (some ⟨gb, 0, none⟩) bl c4) := by rw [cell_in ((Chg.setCell wd ⟨P, 3, none⟩ (.int .i64 ((u + sc : Nat) : Int))).box hXd (fun e => by have e' : X = P := e; have := HI.out.plo; omega))]; rfl
          have fp4 := frozen_in hGd 4
          have kx1' : wd.cell? ⟨X, 1, none⟩ = some (.slice (some ⟨gb, 0, none⟩) bl c4) := by rw [cell_in hXd]; rfl
          obtain ⟨u2, hu2⟩ : ∃ u2, u + sc = u2 := ⟨_, rfl⟩
          have q2 : (u : Int) + (sc : Int) = (u2 : Int) := by omega
          have hu2b : u2 ≤ 30000 := by omega
          have q2w : IntKind.i64.wrap (u2 : Int) = (u2 : Int) := by rw [IntKind.wrap_i64]; omega
          rw [hu2] at hS12
          have HU2 := Lib.hid hu2
          have HWD := Lib.hid hwd
          have HGD := Lib.hid hGd
          have HBD := Lib.hid hbd
          have HG := Lib.hid (show _ ∧ _ from ⟨hown, hgrow⟩)
          clear hown hgrow hgs hgl2 hX8 hG8 hXd hGd hbd hu2 hv hc8 kx0 kx1
          go_wp2
          refine wp_region_noPanic ?_
          refine wp_region_held_drew (S := fun W => W.cell? ⟨X, 1, none⟩ = some (.slice (some ⟨gb, 0, none⟩) bl c4)) (by kernel_rfl) (by first | exact kx1' | exact kx1'') (fun hHeld => ?_)
          refine wpAnyH_take (i := 0) (v := ?_) rfl (by kernel_rfl) (by kernel_rfl) (by kernel_rfl) (fun _ _ _ h => h) (Or.inl ⟨by rfl, ?_⟩) (by assumption) ?_
          rotate_left
          · (intro w hSw; (try dsimp only at hSw); go_simp; try (with_reducible rfl))
          try simp only [Act.put, List.setIfInBounds_toArray, List.set_cons_zero, List.set_cons_succ, List.getElem_toArray, List.getElem_cons_zero]
          refine wpAnyH_take (i := 1) (v := ?_) rfl (by kernel_rfl) (by kernel_rfl) (by kernel_rfl) (fun _ _ _ h => h) (Or.inl ⟨by rfl, ?_⟩) (by assumption) ?_
          rotate_left
          · (intro w hSw; (try dsimp only at hSw); go_simp; try (with_reducible rfl))
          try simp only [Act.put, List.setIfInBounds_toArray, List.set_cons_zero, List.set_cons_succ, List.getElem_toArray, List.getElem_cons_zero, List.getElem_cons_succ]
          refine wpAnyH_take (i := 2) (v := ?_) rfl (by kernel_rfl) (by kernel_rfl) (by kernel_rfl) (fun _ _ _ h => h) (Or.inl ⟨by rfl, ?_⟩) (by assumption) ?_
          rotate_left
          · (intro w hSw; (try dsimp only at hSw); go_simp; try (with_reducible rfl))
          try simp only [Act.put, List.setIfInBounds_toArray, List.set_cons_zero, List.set_cons_succ, List.getElem_toArray, List.getElem_cons_zero, List.getElem_cons_succ]
          refine wpAnyH_take (i := 3) (v := ?_) rfl (by kernel_rfl) (by kernel_rfl) (by kernel_rfl) (fun _ _ _ h => h) (Or.inl ⟨by rfl, ?_⟩) (by assumption) ?_
          rotate_left
          · (intro w hSw; (try dsimp only at hSw); go_simp; try (with_reducible rfl))
          try simp only [Act.put, List.setIfInBounds_toArray, List.set_cons_zero, List.set_cons_succ, List.getElem_toArray, List.getElem_cons_zero, List.getElem_cons_succ]
          refine wpAnyH_take (i := 5) (v := ?_) rfl (by kernel_rfl) (by kernel_rfl) (by kernel_rfl) (fun _ _ _ h => h) (Or.inl ⟨by rfl, ?_⟩) (by assumption) ?_
          rotate_left
          · (intro w hSw; (try dsimp only at hSw); go_simp; try (with_reducible rfl))
          try simp only [Act.put, List.setIfInBounds_toArray, List.set_cons_zero, List.set_cons_succ, List.getElem_toArray, List.getElem_cons_zero, List.getElem_cons_succ]
          refine wpAnyH_take (i := 6) (v := ?_) rfl (by kernel_rfl) (by kernel_rfl) (by kernel_rfl) (fun _ _ _ h => h) (Or.inl ⟨by rfl, ?_⟩) (by assumption) ?_
          rotate_left
          · (intro w hSw; (try dsimp only at hSw); go_simp; try (with_reducible rfl))
          try simp only [Act.put, List.setIfInBounds_toArray, List.set_cons_zero, List.set_cons_succ, List.getElem_toArray, List.getElem_cons_zero, List.getElem_cons_succ]
          refine wpAnyH_take (i := 7) (v := ?_) rfl (by kernel_rfl) (by kernel_rfl) (by kernel_rfl) (fun _ _ _ h => h) (Or.inl ⟨by rfl, ?_⟩) (by assumption) ?_
          rotate_left
          · (intro w hSw; (try dsimp only at hSw); go_simp; try (with_reducible rfl))
          try simp only [Act.put, List.setIfInBounds_toArray, List.set_cons_zero, List.set_cons_succ, List.getElem_toArray, List.getElem_cons_zero, List.getElem_cons_succ]
          refine wpAnyH_ready (rs := [4, 8]) (by kernel_rfl) (by simp) ?_
          refine AllReadyH.cons rfl (fun K hK => ?_) (AllReadyH.cons rfl (fun K hK => ?_) AllReadyH.nil)
          · (first | rw [HWD.out] | skip)
            go_simp
            refine hK.out _ _ ((by first | exact hHeld | exact kx1')) (fun hHeld2 => ?_)
            clear hK K hHeld
            have hHeld := hHeld2
            clear hHeld2
            try simp only [Act.put, List.setIfInBounds_toArray, List.set_cons_zero, List.set_cons_succ, List.getElem_toArray, List.getElem_cons_zero, List.getElem_cons_succ]
            refine wpAnyH_ready (rs := [8]) (by kernel_rfl) (by simp) ?_
            refine AllReadyH.cons rfl (fun K hK => ?_) AllReadyH.nil
            go_simp
            go_at_call 39
            refine (hnd _).mono ?_
            rintro e9 w9 ⟨rfl, rfl⟩
            refine hK.out _ _ ((by first | exact hHeld | exact kx1')) (fun hHeld2 => ?_)
            clear hK K hHeld
            have hHeld := hHeld2
            clear hHeld2
            try simp only [Act.put, List.setIfInBounds_toArray, List.set_cons_zero, List.set_cons_succ, List.getElem_toArray, List.getElem_cons_zero, List.getElem_cons_succ]
            refine wpAnyH_take (i := 9) (v := ?_) rfl (by kernel_rfl) (by kernel_rfl) (by kernel_rfl) (fun _ _ _ h => h) (Or.inl ⟨by rfl, ?_⟩) (by assumption) ?_
            rotate_left
            · (intro w hSw; (try dsimp only at hSw); go_simp; try (with_reducible rfl))
            try simp only [Act.put, List.setIfInBounds_toArray, List.set_cons_zero, List.set_cons_succ, List.getElem_toArray, List.getElem_cons_zero, List.getElem_cons_succ]
            refine wpAnyH_take (i := 10) (v := ?_) rfl (by kernel_rfl) (by kernel_rfl) (by kernel_rfl) (fun _ _ _ h => h) (Or.inl ⟨by rfl, ?_⟩) (by assumption) ?_
            rotate_left
            · (intro w hSw; (try dsimp only at hSw); go_simp; try (with_reducible rfl))
            try simp only [Act.put, List.setIfInBounds_toArray, List.set_cons_zero, List.set_cons_succ, List.getElem_toArray, List.getElem_cons_zero, List.getElem_cons_succ]
            refine wpAnyH_take (i := 11) (v := ?_) rfl (by kernel_rfl) (by kernel_rfl) (by kernel_rfl) (fun _ _ _ h => h) (Or.inl ⟨by rfl, ?_⟩) (by assumption) ?_
            rotate_left
            · (intro w hSw; (try dsimp only at hSw); go_simp; try (with_reducible rfl))
            try simp only [Act.put, List.setIfInBounds_toArray, List.set_cons_zero, List.set_cons_succ, List.getElem_toArray, List.getElem_cons_zero, List.getElem_cons_succ]
            refine wpAnyH_ready (rs := [12]) (by kernel_rfl) (by simp) ?_
            refine AllReadyH.cons rfl (fun K hK => ?_) AllReadyH.nil
            go_simp
            (first | rw [HWD.out] | skip)
            refine hK.out _ _ ((by first | exact hHeld | exact hS12)) (fun hHeld2 => ?_)
            clear hK K hHeld
            have hHeld := hHeld2
            clear hHeld2
            try simp only [Act.put, List.setIfInBounds_toArray, List.set_cons_zero, List.set_cons_succ, List.getElem_toArray, List.getElem_cons_zero, List.getElem_cons_succ]
            refine wpAnyH_done (by kernel_rfl) ?_ _
            refine NoPanic.normal ?_
            clear hHeld
            (first | rw [HWD.out] | skip)
            go_wp2_with fail
            have hgA : GAt (wd.setCell ⟨P, 3, none⟩ (.int .i64 (u2 : Int))) P R f N u2 l := heap_set HGD.out (.int .i64 (u2 : Int))
            have hgB : GAt ((wd.setCell ⟨P, 3, none⟩ (.int .i64 (u2 : Int))).setCell ⟨P, 4, none⟩ (.int .i64 ((l : Int) + 1))) P R f N u2 (l + 1) := heap_set hgA (.int .i64 ((l : Int) + 1))
            have hcc : Chg (fun k => k = P) w8 ((wd.setCell ⟨P, 3, none⟩ (.int .i64 (u2 : Int))).setCell ⟨P, 4, none⟩ (.int .i64 ((l : Int) + 1))) := (Chg.below HBD.out _).trans ((Chg.setCell wd ⟨P, 3, none⟩ _).trans (Chg.setCell _ ⟨P, 4, none⟩ _))
            have hstep := HI.out.step (v' := .slice (some ⟨g2, 0, none⟩) (j + 1) cap2) (cp := c4) (body := body) (gb := gb) HV64.out HVL.out (bA HB6.out (.cells #[.int .i64 ((l : Int) + 1), .slice (some ⟨gb, 0, none⟩) bl c4] 48)) ((Chg.alloc (fun _ => False) w6 _).range HGB6.out (fun e => e)) hgl6 HG.out.2 (by
              have hown := HG.out.1
              rw [HBL.out, HLE.out, HJ.out] at hown
              rw [HJ.out]
              exact hown) hcc (by
              have h := hgB
              rw [← HU2.out, ← HSCE.out, HU.out, HLE.out, HBL.out] at h
              rw [← HU2.out, ← HSCE.out, HU.out, HLE.out, HBL.out]
              exact h) (by
              have h := HDR.out
              rw [HU.out, HLE.out] at h
              exact h) (by rw [← HLE.out]; exact hmax)
            have HST := Lib.hid hstep
            have HJL := Lib.hid (show E.length = j from HJ.out.symm)
            clear hgA hgB hcc hstep
            go_roundw
            case rel => exact ⟨_, some ⟨g2, 0, none⟩, cap2, j + 1, rfl, Lib.hid (by rw [List.length_append, HJL.out]; rfl), HST⟩
            case measure =>
              have := HST.out.few
              rw [List.length_append, HJL.out] at this
              simp at this
              simp [lenOf]
              omega
          · go_simp
            go_at_call 39
            refine (hnd _).mono ?_
            rintro e9 w9 ⟨rfl, rfl⟩
            refine hK.out _ _ ((by first | exact hHeld | exact kx1')) (fun hHeld2 => ?_)
            clear hK K hHeld
            have hHeld := hHeld2
            clear hHeld2
            try simp only [Act.put, List.setIfInBounds_toArray, List.set_cons_zero, List.set_cons_succ, List.getElem_toArray, List.getElem_cons_zero, List.getElem_cons_succ]
            refine wpAnyH_ready (rs := [4]) (by kernel_rfl) (by simp) ?_
            refine AllReadyH.cons rfl (fun K hK => ?_) AllReadyH.nil
            (first | rw [HWD.out] | skip)
            go_simp
            refine hK.out _ _ ((by first | exact hHeld | exact kx1')) (fun hHeld2 => ?_)
            clear hK K hHeld
            have hHeld := hHeld2
            clear hHeld2
            try simp only [Act.put, List.setIfInBounds_toArray, List.set_cons_zero, List.set_cons_succ, List.getElem_toArray, List.getElem_cons_zero, List.getElem_cons_succ]
            refine wpAnyH_take (i := 9) (v := ?_) rfl (by kernel_rfl) (by kernel_rfl) (by kernel_rfl) (fun _ _ _ h => h) (Or.inl ⟨by rfl, ?_⟩) (by assumption) ?_
            rotate_left
            · (intro w hSw; (try dsimp only at hSw); go_simp; try (with_reducible rfl))
            try simp only [Act.put, List.setIfInBounds_toArray, List.set_cons_zero, List.set_cons_succ, List.getElem_toArray, List.getElem_cons_zero, List.getElem_cons_succ]
            refine wpAnyH_take (i := 10) (v := ?_) rfl (by kernel_rfl) (by kernel_rfl) (by kernel_rfl) (fun _ _ _ h => h) (Or.inl ⟨by rfl, ?_⟩) (by assumption) ?_
            rotate_left
            · (intro w hSw; (try dsimp only at hSw); go_simp; try (with_reducible rfl))
            try simp only [Act.put, List.setIfInBounds_toArray, List.set_cons_zero, List.set_cons_succ, List.getElem_toArray, List.getElem_cons_zero, List.getElem_cons_succ]
            refine wpAnyH_take (i := 11) (v := ?_) rfl (by kernel_rfl) (by kernel_rfl) (by kernel_rfl) (fun _ _ _ h => h) (Or.inl ⟨by rfl, ?_⟩) (by assumption) ?_
            rotate_left
            · (intro w hSw; (try dsimp only at hSw); go_simp; try (with_reducible rfl))
            try simp only [Act.put, List.setIfInBounds_toArray, List.set_cons_zero, List.set_cons_succ, List.getElem_toArray, List.getElem_cons_zero, List.getElem_cons_succ]
            refine wpAnyH_ready (rs := [12]) (by kernel_rfl) (by simp) ?_
            refine AllReadyH.cons rfl (fun K hK => ?_) AllReadyH.nil
            go_simp
            (first | rw [HWD.out] | skip)
            refine hK.out _ _ ((by first | exact hHeld | exact hS12)) (fun hHeld2 => ?_)
            clear hK K hHeld
            have hHeld := hHeld2
            clear hHeld2
            try simp only [Act.put, List.setIfInBounds_toArray, List.set_cons_zero, List.set_cons_succ, List.getElem_toArray, List.getElem_cons_zero, List.getElem_cons_succ]
            refine wpAnyH_done (by kernel_rfl) ?_ _
            refine NoPanic.normal ?_
            clear hHeld
            (first | rw [HWD.out] | skip)
            go_wp2_with fail
            have hgA : GAt (wd.setCell ⟨P, 3, none⟩ (.int .i64 (u2 : Int))) P R f N u2 l := heap_set HGD.out (.int .i64 (u2 : Int))
            have hgB : GAt ((wd.setCell ⟨P, 3, none⟩ (.int .i64 (u2 : Int))).setCell ⟨P, 4, none⟩ (.int .i64 ((l : Int) + 1))) P R f N u2 (l + 1) := heap_set hgA (.int .i64 ((l : Int) + 1))
            have hcc : Chg (fun k => k = P) w8 ((wd.setCell ⟨P, 3, none⟩ (.int .i64 (u2 : Int))).setCell ⟨P, 4, none⟩ (.int .i64 ((l : Int) + 1))) := (Chg.below HBD.out _).trans ((Chg.setCell wd ⟨P, 3, none⟩ _).trans (Chg.setCell _ ⟨P, 4, none⟩ _))
            have hstep := HI.out.step (v' := .slice (some ⟨g2, 0, none⟩) (j + 1) cap2) (cp := c4) (body := body) (gb := gb) HV64.out HVL.out (bA HB6.out (.cells #[.int .i64 ((l : Int) + 1), .slice (some ⟨gb, 0, none⟩) bl c4] 48)) ((Chg.alloc (fun _ => False) w6 _).range HGB6.out (fun e => e)) hgl6 HG.out.2 (by
              have hown := HG.out.1
              rw [HBL.out, HLE.out, HJ.out] at hown
              rw [HJ.out]
              exact hown) hcc (by
              have h := hgB
              rw [← HU2.out, ← HSCE.out, HU.out, HLE.out, HBL.out] at h
              rw [← HU2.out, ← HSCE.out, HU.out, HLE.out, HBL.out]
              exact h) (by
              have h := HDR.out
              rw [HU.out, HLE.out] at h
              exact h) (by rw [← HLE.out]; exact hmax)
            have HST := Lib.hid hstep
            have HJL := Lib.hid (show E.length = j from HJ.out.symm)
            clear hgA hgB hcc hstep
            go_roundw
            case rel => exact ⟨_, some ⟨g2, 0, none⟩, cap2, j + 1, rfl, Lib.hid (by rw [List.length_append, HJL.out]; rfl), HST⟩
            case measure =>
              have := HST.out.few
              rw [List.length_append, HJL.out] at this
              simp at this
              simp [lenOf]
              omega
    · have d3 : decide ((l : Int) < 1152921504606846975) = false := decide_eq_false (by omega)
      have d3' : decide (l < 1152921504606846975) = false := decide_eq_false hmax
      have hsc : scan (N + 1) V after = E.map (·.body) := by
        obtain ⟨fuel, hf1, hf2⟩ := HI.out.more
        rw [← HU.out, ← HLE.out] at hf2
        rw [hf2]
        cases fuel with
        | zero => simp [scan]
        | succ fuel => simp [scan, hmax]
      have HSC := Lib.hid hsc
      clear hsc
      go_wp2
      refine bodyPost_ret (results_tmp3 rfl _ _ _) rfl ?_
      refine ⟨P + 1, P, pv, E, cv, by rw [HJ.out]; rfl, ?_, HSC.out.symm⟩
      have h := HI.out
      rw [HJ.out] at h
      exact ⟨h.row, h.ents, h.log, h.few, h.st, h.more, HB2.out.trans (h.below.mono HB2.out.size), ⟨h.plo.1, h.plo.2.1, hPw⟩⟩
end Go.Proofs.Ytgcifhhbhoafcaa
