/-
  Write: pieces of 64 bytes appended to the pending writes.
-/
import Derived.Test.YtgcifhhbhoafcaaDiskChunk
import Derived.Great.BuildSlice
import Derived.Great.FillDense
namespace Go.Proofs.Ytgcifhhbhoafcaa
open Go.RowKit Go.Shelf
attribute [local go_sem] Oper.semAt_some

theorem build_wr (at_ : Int) (w : World) : (Instr.build 84 #[(0, .int .i64 at_)]).run Try.prog w = .ok (.agg (Value.int .i64 at_ :: bCells (List.replicate 64 0)).toArray) w := by kernel_rfl
theorem fill_wr (z : Array Value) (x : Wq) (hx : x.2.length = 64) : Instr.fill (fun i => some (i * 65, 65)) ((Array.range (1 * 65)).map (z[· % z.size]!)) [(0, .agg (wCell x).toArray)] = some (wCell x).toArray := by
  have := Go.Great.fill_whole (s := 65) (by decide) [Value.agg (wCell x).toArray] ((Array.range (1 * 65)).map (z[· % z.size]!)) (fun v hv => by
    rw [List.mem_singleton.1 hv]
    show (wCell x).toArray.size = 65
    rw [List.size_toArray, wCell_len hx]) (by simp)
  refine this.trans ?_
  show some (List.toArray ((wCell x).toArray.toList ++ [])) = _
  simp

theorem wp_buildS_wr {op : Oper} {a : Act} {w : World} {K : Act → World → Prop} {Q : Exit → Act → World → Prop} (y : Operand) (ho : op.op = .buildSlice 72 1 #[(0, y)]) (x : Wq) (hx : x.2.length = 64) (hy : a.eval y = .agg (wCell x).toArray) (h : K (a.put op.dst (.slice (some ⟨w.heap.size, 0, none⟩) 1 1)) (w.alloc (.cells (wCell x).toArray 84))) : op.wp Try.prog a w K Q := by
  obtain ⟨i0, hi, hz0, hz1, hz2⟩ := info_parts info_wr
  refine wp_buildSlice 72 84 1 #[(0, y)] ho (wCell x).toArray i0 _ Try.underlying72 hi hz0 (by rw [hz1]; decide) (by rw [hz1]; decide) ?_ h
  rw [hz1]
  simp only [List.map_toArray, List.map_cons, List.map_nil, hy]
  exact fill_wr _ x hx
theorem wp_build_wr {op : Oper} {a : Act} {w : World} {K : Act → World → Prop} {Q : Exit → Act → World → Prop} (x : Operand) (ho : op.op = .build 84 #[(0, x)]) (n : Int) (hx : a.eval x = .int .i64 n) (h : K (a.put op.dst (.agg (Value.int .i64 n :: bCells (List.replicate 64 0)).toArray)) w) : op.wp Try.prog a w K Q := by
  unfold Oper.wp execOp
  simp only [ho, Sem.run_bind, List.map_toArray, List.map_cons, List.map_nil, hx, build_wr n w, Result.andThen_ok]
  exact h

/-- A piece as it becomes a write. -/
def pieceW (at_ : Nat) (data : List UInt8) {L : Nat} (k : Nat) (x : Pc L) : Wq := (at_ + k, (data.drop x.1.1).take x.1.2 ++ List.replicate (64 - x.1.2) 0)
def piecesW (at_ : Nat) (data : List UInt8) : List Wq := (pcs data.length).mapIdx (pieceW at_ data)
theorem pieceW_len {at_ : Nat} {data : List UInt8} (k : Nat) (x : Pc data.length) : (pieceW at_ data k x).2.length = 64 := by
  have := x.2
  simp only [pieceW, List.length_append, List.length_take, List.length_drop, List.length_replicate]
  omega

structure WInv (D g N at_ : Nat) (lc : Int) (v : Value) (ws : List Wq) (data : List UInt8) (B : Nat) (w5 : World) (L : Nat) (pre : List (Pc L)) (W : World) : Prop where
  pos : W.heap[B + 1]? = some (.cells #[.int .i64 ((at_ + pre.length : Nat) : Int)] 3 (0, 0))
  chg : Chg (fun k => k = D ∨ k = B + 1 ∨ v.ownBlock = some k) w5 W
  row : ∃ v', Rec W D g N v' lc ∧ W.ownsRow (D + 1) 84 65 v' (ws.length + pre.length) (wCells (ws ++ pre.mapIdx (pieceW at_ data))) ∧ (∀ k, v'.ownBlock = some k → v.ownBlock = some k ∨ w5.heap.size ≤ k)
theorem WInv.own (D g N at_ : Nat) (lc : Int) (v : Value) (ws : List Wq) (data : List UInt8) (B : Nat) (w5 : World) (L : Nat) : OwnFrom w5.heap.size (WInv D g N at_ lc v ws data B w5 L) := fun pre W W' row hs hg hr => by
  have hk : ∀ {k : Nat} {c : Array Value} {t : TypeId} {fr : Nat × Nat}, W.heap[k]? = some (.cells c t fr) → W'.heap[k]? = some (.cells c t fr) := fun {k c t fr} h => by
    refine (hg.block k (Array.getElem?_eq_some_iff.1 h).1 (fun e => ?_)).trans h
    obtain ⟨_, o, ho, hc⟩ := hr k e.symm
    rw [h] at ho
    cases ho
    cases hc
  obtain ⟨v', h1, h2, h3⟩ := hs.row
  refine ⟨hk hs.pos, ownFrom_chg (β := Unit) (Nat.le_refl _) () W W' row hs.chg hg hr, v', hk h1, ⟨h2.1, ?_⟩, h3⟩
  rcases h2.2 with h0 | ⟨gr, cap, cur, rfl, hb, hgr, rest⟩
  · exact .inl h0
  · exact .inr ⟨gr, cap, cur, rfl, hb, hk hgr, rest⟩

theorem Chg.range {ex : Nat → Prop} {w w' : World} (h : Chg ex w w') {b o : Nat} {vs : List Value} (hr : w.rangeAt b o vs) (hn : ¬ ex b) : w'.rangeAt b o vs := fun j u hj => by
  have h1 := hr j u hj
  exact (World.cell?_of_block (w := w) (a := ⟨b, o + j, none⟩) (h.block b (World.block_lt_of_cell? w _ h1) hn)).trans h1

set_option maxRecDepth 100000 in
set_option maxHeartbeats 2000000 in
theorem write_on (D g : Nat) (S : List Sec) (v : Value) (ws : List Wq) (lc : Int) (hl : -9223372036854775808 ≤ lc ∧ lc ≤ 9223372036854775807) (hcz : lc ≠ 0) (at_ b o c : Nat) (data : List UInt8) (h1 : 1 ≤ data.length) (hc0 : data.length ≤ c) (hc : c ≤ 9223372036854775807) (hat : at_ + (data.length + 63) / 64 ≤ S.length) (hws : ws.length + (data.length + 63) / 64 ≤ 10000) (w0 w : World) (H0 : DiskAt w0 D g S v ws lc) (hwt : tick w0 D lc = w) (H : DiskAt w D g S v ws (less lc)) (hDg : D ≠ g)
    (hb : w.rangeAt b o (bCells data)) (hbD : b ≠ D) (hbV : v.ownBlock ≠ some b) :
    Calls Try.prog 11 #[.pointer (some ⟨D, 0, none⟩), .int .i64 at_, .slice (some ⟨b, o, none⟩) data.length c] w0 fun e w' => e = .returned (.int .i64 0) ∧ ∃ v', DiskAt w' D g S v' (ws ++ piecesW at_ data) (less lc) ∧ Chg (fun k => k = D ∨ v.ownBlock = some k) w w' ∧ (∀ k, v'.ownBlock = some k → v.ownBlock = some k ∨ w.heap.size ≤ k) := by
  have HH := Lib.hid H
  have hD0 : D < w0.heap.size := (Array.getElem?_eq_some_iff.1 H0.box).1
  have hst : w.heap.size = w0.heap.size := by rw [← hwt]; exact tick_size w0 D lc
  have hDl : D < w.heap.size := by rw [hst]; exact hD0
  have hgl : g < w.heap.size := (Array.getElem?_eq_some_iff.1 H.dur).1
  have hbl : b < w.heap.size := (by
    obtain ⟨x, xs, e⟩ : ∃ x xs, data = x :: xs := by
      cases data with
      | nil => simp at h1
      | cons x xs => exact ⟨x, xs, rfl⟩
    exact World.block_lt_of_cell? w _ (hb 0 _ (by rw [e]; rfl)))
  have hNf := H.few
  have HREC0 : Hid (∀ X : World, Below w0.heap.size w0 X → Rec X D g S.length v lc) := Lib.hid (fun X hX => (H0.on hX).box)
  have HBL := Lib.hid hb
  have HWT := Lib.hid hwt
  have HST := Lib.hid hst
  obtain ⟨L, hL⟩ : ∃ L, L = data.length := ⟨_, rfl⟩
  obtain ⟨N, hN⟩ : ∃ N, N = S.length := ⟨_, rfl⟩
  obtain ⟨M, hM⟩ : ∃ M, M = (L + 63) / 64 := ⟨_, rfl⟩
  have HN := Lib.hid hN
  have HL := Lib.hid hL
  have HM := Lib.hid hM
  rw [← hL, ← hM, ← hN] at hat
  rw [← hL, ← hM] at hws
  rw [← hL] at h1 hc0 ⊢
  rw [← hN] at hNf HREC0
  have q1 : IntKind.i64.wrap ((L : Int) + 64) = (L : Int) + 64 := by rw [IntKind.wrap_i64]; omega
  have q2 : IntKind.i64.wrap ((L : Int) + 64 - 1) = (L : Int) + 64 - 1 := by rw [IntKind.wrap_i64]; omega
  have q3 : ((L : Int) + 64 - 1).tdiv 64 = (M : Int) := by rw [Int.tdiv_eq_ediv_of_nonneg (by omega)]; omega
  have q4 : IntKind.i64.wrap (M : Int) = (M : Int) := by rw [IntKind.wrap_i64]; omega
  have hM1 : 1 ≤ M := by omega
  have hLb : L ≤ 1000000 := by omega
  clear H H0 hwt hst hN hL hM hb
  refine (callsIn_wide (n := 5)).1 ?_
  refine callsIn_of_wp_marks Try.func11 rfl trivial ?_ rfl
  simp only [Try.ntmps11, List.size_toArray, List.length_cons, List.length_nil, Nat.reduceAdd, Nat.reduceSub, Array.replicate_succ, Array.replicate_zero, List.push_toArray, List.append_toArray, List.nil_append, List.cons_append]
  gi_wp2_with fail
  refine ⟨trivial, (callsIn_wide.2 (has_any D g N v lc at_ M hM1 hat hNf _ (HREC0.out _ (bA (bA (Below.refl w0.heap.size w0) (.cells #[.pointer (some ⟨D, 0, none⟩)] 26)) (.cells #[.int .i64 at_] 3))))).mono ?_⟩
  rintro e w2 ⟨rfl, rfl⟩
  have hm1 : ((w0.alloc (.cells #[.pointer (some ⟨D, 0, none⟩)] 26)).alloc (.cells #[.int .i64 at_] 3)).cell? ⟨w0.heap.size, 0, none⟩ = some (.pointer (some ⟨D, 0, none⟩)) := by
    rw [cell_in ((Below.heap_alloc _ _ _ (by simp)).trans (heap_new w0 _))]
    rfl
  gi_wp2_with fail
  refine ⟨trivial, (callsIn_wide.2 (call_any D g N v lc hl hcz _ (HREC0.out _ (bA (bA (Below.refl w0.heap.size w0) (.cells #[.pointer (some ⟨D, 0, none⟩)] 26)) (.cells #[.int .i64 at_] 3))))).mono ?_⟩
  rintro e w1 ⟨rfl, hw1⟩
  rw [tick_alloc _ D lc _ (by rw [World.size_alloc]; omega), tick_alloc w0 D lc _ hD0, HWT.out] at hw1
  rw [← HST.out]
  clear hm1 hD0 HREC0 HWT HST
  replace hw1 := hw1.symm
  have hb1 : Below w.heap.size w w1 := by rw [← hw1]; exact bA (bA (Below.refl _ _) _) _
  have hs1 : w1.heap.size = w.heap.size + 2 := by rw [← hw1]; simp
  have hD1 : w1.heap[w.heap.size]? = some (.cells #[.pointer (some ⟨D, 0, none⟩)] 26 (0, 0)) := by rw [← hw1]; exact (Below.heap_alloc _ _ _ (by simp)).trans (heap_new w _)
  have hA1 : w1.heap[w.heap.size + 1]? = some (.cells #[.int .i64 at_] 3 (0, 0)) := by
    rw [← hw1]
    simpa using heap_new (w.alloc (.cells #[.pointer (some ⟨D, 0, none⟩)] 26)) (.cells #[.int .i64 at_] 3)
  clear hw1
  have kD1 : w1.cell? ⟨w.heap.size, 0, none⟩ = some (.pointer (some ⟨D, 0, none⟩)) := by rw [cell_in hD1]; rfl
  have HD1 := Lib.hid hD1
  have HA1 := Lib.hid hA1
  have HB1 := Lib.hid hb1
  clear hA1 hb1 hD1
  gi_wp2_with fail
  refine ⟨trivial, (callsIn_wide.2 (chunk_any (some ⟨b, o, none⟩) L c w1)).mono ?_⟩
  rintro e w5 ⟨rfl, hw5⟩
  have hb5 : Below w1.heap.size w1 w5 := by rw [hw5]; exact bA (bA (Below.refl _ _) _) _
  have hs5 : w5.heap.size = w1.heap.size + 2 := by rw [hw5]; simp
  have hS5 : w5.heap[w1.heap.size]? = some (.cells #[.slice (some ⟨b, o, none⟩) L c] 22 (0, 0)) := by rw [hw5]; exact (Below.heap_alloc _ _ _ (by simp)).trans (heap_new w1 _)
  have hN5 : w5.heap[w1.heap.size + 1]? = some (.cells #[.int .i64 64] 3 (0, 0)) := by
    rw [hw5]
    simpa using heap_new (w1.alloc (.cells #[.slice (some ⟨b, o, none⟩) L c] 22)) (.cells #[.int .i64 64] 3)
  have hb05 := bT HB1.out hb5
  have hc5 := Chg.below hb5 (fun _ => False)
  have HD5 := Lib.hid (HH.out.on hb05)
  have HDB := Lib.hid (hc5.box HD1.out (fun e => e))
  have HA5 := Lib.hid (hc5.box HA1.out (fun e => e))
  have HBL5 := Lib.hid ((Chg.below hb05 (fun _ => False)).range HBL.out (fun e => e))
  have HB5 := Lib.hid hb05
  obtain ⟨B, hB⟩ : ∃ B, w.heap.size = B := ⟨_, rfl⟩
  rw [hs1] at hs5 hS5 hN5 ⊢
  clear hw5 hb5 hb05 hc5 kD1 hs1 HD1 HA1 HB1
  have HBE := Lib.hid hB
  rw [hB] at hDl hgl hbl HDB HA5 hs5 hS5 hN5 ⊢
  clear hB
  have HS5 := Lib.hid hS5
  have HN5 := Lib.hid hN5
  clear hS5 hN5
  gi_wp2
  have hvw : ∀ k, v.ownBlock = some k → k < B := fun k hk => by
    have := (HH.out.row.lt k hk).2
    rw [HBE.out] at this
    exact this
  refine wpIn_rangeFunc_ownH (n := 5) (α := Pc L) rfl (by decide) (gf := 50) (lb := #[.pointer (some ⟨B + 2, 0, none⟩), .pointer (some ⟨B + 2 + 1, 0, none⟩)]) rfl trivial (enters_of Try.func50 (by kernel_rfl) rfl)
    (chunk_stops 4 (B + 2) (B + 2 + 1) b o L c hLb hc0 hc w5 HS5.out HN5.out) KeepB.trans
    (fun W l o o' hl ho _ _ => ⟨by simp, fun k hk => World.putObj_heap_other (fun e => by omega)⟩) (Below.refl _ _) (fun _ => rfl)
    (WInv D g N at_ (less lc) v ws data B w5 L)
    (fun _ _ _ => False)
    (WInv.own D g N at_ (less lc) v ws data B w5 L)
    (fun _ _ _ _ _ hs _ _ => hs)
    ⟨HA5.out, Chg.refl _ _, v, by have h := HD5.out.box; rw [← HN.out] at h; exact h, by simpa using HD5.out.row, fun k hk => .inl hk⟩
    (fun x a' W => a' = { tmps := #[.pointer (some ⟨D, 0, none⟩), .int .i64 at_, .slice (some ⟨b, o, none⟩) L c, .pointer (some ⟨B, 0, none⟩), .pointer (some ⟨B + 1, 0, none⟩), undef, .int .i64 0, .slice (some ⟨b, o + x.1.1, none⟩) x.1.2 x.1.2, undef, .pointer (some ⟨D, 0, none⟩), .int .i64 at_, .slice (some ⟨b, o, none⟩) L c, .int .i64 L, .int .i64 ((L : Int) + 64), .int .i64 ((L : Int) + 64 - 1), .int .i64 M, .bool true, .bool false, .pointer (some ⟨D, 0, none⟩), .bool true, .bool false, .slice (some ⟨b, o, none⟩) L c, .func (.func 50) #[] #[.pointer (some ⟨B + 2, 0, none⟩), .pointer (some ⟨B + 2 + 1, 0, none⟩)], .slice (some ⟨b, o + x.1.1, none⟩) x.1.2 x.1.2, undef, undef, undef, undef, undef, undef, undef, undef, undef, undef, undef, undef, undef, undef, undef, undef, undef, undef], defers := [] })
    (fun x a' _ W W' row hs hg hr => hs) ?assign ?body ?done ?stop
  case assign =>
    intro l pre x W K hI hK
    have HK := Lib.hid hK
    have HI := Lib.hid hI
    clear hK hI
    simp only [encC]
    gi_wp2
    exact HK.out _ _ ((KeepsOthers.refl _).from _) (KeepB.refl _ _) HI.out rfl
  case body =>
    rintro l pre x a' W hl hr HI rfl hlt
    obtain ⟨⟨off, e⟩, hx1, hx2, hx3⟩ := x
    have hoe : off + e ≤ L := hx1
    have he1 : 1 ≤ e := hx2
    have he2 : e ≤ 64 := hx3
    obtain ⟨j, hj⟩ : ∃ j, j = pre.length := ⟨_, rfl⟩
    obtain ⟨v', hR', hrow', hown'⟩ := HI.row
    have hpos := HI.pos
    have hchg := HI.chg
    rw [← hj] at hpos hrow'
    obtain ⟨n, hn⟩ : ∃ n, n = at_ + j := ⟨_, rfl⟩
    rw [← hn] at hpos
    have hn1 : n + 1 ≤ 65536 := by have := HM.out; omega
    obtain ⟨Z, hZs, hz⟩ := zero_wr
    have hxc : (Value.int .i64 (n : Int) :: bCells (List.replicate 64 0)).length = 65 := by simp [bCells_len]
    have hi65 := size_wr
    have hall : (Value.int .i64 (n : Int) :: bCells (List.replicate 64 0)).toArray.all (·.oneCell') = true := all_oneCell_toArray (fun u hu => by
      rcases List.mem_cons.1 hu with rfl | hu
      · rfl
      · exact bCells_one _ u hu)
    obtain ⟨xs0, hxs0⟩ : ∃ xs0, (Value.int .i64 (n : Int) :: bCells (List.replicate 64 0)) = xs0 := ⟨_, rfl⟩
    simp only [hxs0] at hxc hall
    have HXS := Lib.hid hxs0
    have HXC := Lib.hid hxc
    have HALL := Lib.hid hall
    have HI65 := Lib.hid hi65
    have HZS := Lib.hid hZs
    have kA : W.cell? ⟨B + 1, 0, none⟩ = some (.int .i64 (n : Int)) := by rw [cell_in hpos]; rfl
    have HP := Lib.hid hpos
    have HC := Lib.hid hchg
    have HR' := Lib.hid hR'
    have HROW' := Lib.hid hrow'
    have HOWN' := Lib.hid hown'
    have HJ := Lib.hid hj
    have HN' := Lib.hid hn
    have HII := Lib.hid HI
    clear hpos hchg hR' hrow' hown' hj hn HI hall hi65 hxs0 hxc hZs
    have HBW := Lib.hid (HC.out.range HBL5.out (by
      rintro (h | h | h)
      · exact hbD h
      · omega
      · exact hbV h))
    obtain ⟨pc, hpc⟩ : ∃ pc, pc = (data.drop off).take e := ⟨_, rfl⟩
    have hpl : pc.length = e := by rw [hpc, List.length_take, List.length_drop, ← HL.out]; omega
    have HSRC := Lib.hid (show ∀ i u, (bCells pc)[i]? = some u → (W.alloc (.cells xs0.toArray 84)).cell? ((⟨b, o + off, none⟩ : Addr).add i) = some u from fun i u hi => by
      have hil : i < e := by
        have := (List.getElem?_eq_some_iff.1 hi).1
        rwa [bCells_len, hpl] at this
      rw [Addr.add_mid, Nat.add_assoc]
      refine (Chg.alloc (fun _ => False) W _).range HBW.out (fun e => e) (off + i) u ?_
      rw [← hi, hpc]
      unfold bCells
      rw [List.getElem?_map, List.getElem?_map, List.getElem?_take_of_lt hil, List.getElem?_drop])
    have hnew := heap_new W (.cells xs0.toArray 84)
    have HTH := Lib.hid (show (W.alloc (.cells xs0.toArray 84)).there W.heap.size 1 (bCells pc).length from there_in hnew 1 _ (by rw [List.size_toArray, HXC.out, bCells_len, hpl]; omega))
    obtain ⟨x, hx⟩ : ∃ x : Wq, x = (n, pc ++ List.replicate (64 - e) 0) := ⟨_, rfl⟩
    have hx64 : x.2.length = 64 := by rw [hx]; simp [hpl]; omega
    have hset : ((W.alloc (.cells xs0.toArray 84)).setCells W.heap.size 1 (bCells pc)).heap[W.heap.size]? = some (.cells (wCell x).toArray 84 (0, 0)) := by
      rw [heap_setCells W.heap.size (bCells pc) 1 _ _ _ _ hnew (by rw [List.size_toArray, HXC.out, bCells_len, hpl]; omega), bCells_len, hpl, ← HXS.out, hx]
      congr 3
      simp only [wCell, bCells_app, Nat.add_comm 1 e, List.drop_succ_cons, List.take_succ_cons, List.take_zero, List.cons_append, List.nil_append]
      congr 2
      simp only [bCells, List.map_replicate, List.drop_replicate]
    have hc2 := (Chg.alloc (fun k => k = W.heap.size) W (.cells xs0.toArray 84)).trans (chg_setCells W.heap.size (bCells pc) 1 _)
    have hk2 := (KeepsOthers.alloc W (.cells xs0.toArray 84)).trans (keeps_setCells W.heap.size (bCells pc) 1 _)
    have hs2 : W.heap.size < ((W.alloc (.cells xs0.toArray 84)).setCells W.heap.size 1 (bCells pc)).heap.size := (Array.getElem?_eq_some_iff.1 hset).1
    have HSET := Lib.hid hset
    have HC2 := Lib.hid hc2
    have HK2 := Lib.hid hk2
    have HS2 := Lib.hid hs2
    have HPL := Lib.hid hpl
    have HX := Lib.hid hx
    have HX64 := Lib.hid hx64
    have HPC := Lib.hid hpc
    clear hset hc2 hk2 hs2 hnew hpl hx hx64 hpc
    gi_wp2_with (first
      | (refine list_in (ro := some l) (by simp) rfl (fun K hK => ?_); refine wp_build_wr (.tmp 24) rfl (n : Int) rfl ?_; rw [HXS.out]; refine hK _ _ ?_)
      | (refine list_in (ro := some l) (by simp) rfl (fun K hK => ?_); refine wp_store_new 84 (.tmp 8) (.tmp 25) rfl Z xs0.toArray rfl rfl (by rw [HI65.out]; simp [HXC.out]) (by rw [HZS.out]; simp [HXC.out]) HALL.out (hK _ _ ?_))
      | (refine list_in (ro := some l) (by simp) rfl (fun K hK => ?_); refine wp_copy_cells (.tmp 27) (.tmp 28) 22 22 5 rfl W.heap.size 1 64 64 ⟨b, o + off, none⟩ e e (bCells pc) rfl rfl Try.underlying22 size_u8 (by rw [bCells_len, HPL.out]; exact (Nat.min_eq_left he2).symm) HSRC.out HTH.out (bCells_one _) ?_; refine hK _ _ ?_; simp only [Act.put, goInt, List.setIfInBounds_toArray, List.set_cons_zero, List.set_cons_succ]))
    generalize ((W.alloc (.cells xs0.toArray 84)).setCells W.heap.size 1 (bCells pc)) = W2 at *
    have hR2 : Rec W2 D g N v' (less lc) := HC2.out.box HR'.out (by have h := (Array.getElem?_eq_some_iff.1 HR'.out).1; omega)
    have kB : W2.drew.cell? ⟨B, 0, none⟩ = some (.pointer (some ⟨D, 0, none⟩)) := by
      show W2.cell? _ = _
      rw [cell_in (HC2.out.box (HC.out.box HDB.out (by
        rintro (h | h | h)
        · omega
        · omega
        · have := hvw _ h
          omega)) (by have := HC.out.size; omega))]
      rfl
    have kV : W2.drew.cell? ⟨D, 1, none⟩ = some v' := hR2.cells.2.1
    have kR : W2.drew.rangeAt W.heap.size 0 (wCell x) := fun i u hi => by
      show W2.cell? _ = _
      rw [Nat.zero_add, cell_in HSET.out, List.getElem?_toArray]
      exact hi
    have hWs : w5.heap.size ≤ W.heap.size := HC.out.size
    have hS2 := HS2.out
    have hown1 : ∀ k, v'.ownBlock = some k → k < W.heap.size := fun k hk => (HROW'.out.lt k hk).2
    have FIN : ∀ g4 cap4 w4, w4.ownsRow (D + 1) 84 65 (.slice (some ⟨g4, 0, none⟩) (ws.length + j + 1) cap4) (ws.length + j + 1) (wCells (ws ++ pre.mapIdx (pieceW at_ data)) ++ wCell x) → (W2.drew.alloc (.cells (wCell x).toArray 84)).grownBy w4 v'.ownBlock → (v'.ownBlock = some g4 ∨ g4 = W2.heap.size + 1) →
        (w4.cell? ⟨B, 0, none⟩ = some (.pointer (some ⟨D, 0, none⟩)) ∧ w4.rangeAt W.heap.size 0 (wCell x)) ∧ w4.cell? ⟨D, 1, none⟩ = some v' ∧ w4.frozen? ⟨D, 1, none⟩ = false ∧ ((w4.setCell ⟨D, 1, none⟩ (.slice (some ⟨g4, 0, none⟩) (ws.length + j + 1) cap4)).cell? ⟨B, 0, none⟩ = some (.pointer (some ⟨D, 0, none⟩)) ∧ (w4.setCell ⟨D, 1, none⟩ (.slice (some ⟨g4, 0, none⟩) (ws.length + j + 1) cap4)).rangeAt W.heap.size 0 (wCell x)) ∧ (w4.setCell ⟨D, 1, none⟩ (.slice (some ⟨g4, 0, none⟩) (ws.length + j + 1) cap4)).cell? ⟨B + 1, 0, none⟩ = some (.int .i64 (n : Int)) ∧ (w4.setCell ⟨D, 1, none⟩ (.slice (some ⟨g4, 0, none⟩) (ws.length + j + 1) cap4)).frozen? ⟨B + 1, 0, none⟩ = false ∧
        ∀ W6, W6 = (w4.setCell ⟨D, 1, none⟩ (.slice (some ⟨g4, 0, none⟩) (ws.length + j + 1) cap4)).setCell ⟨B + 1, 0, none⟩ (.int .i64 ((n : Int) + 1)) → KeepsOthers W W6 ∧ KeepB (fun k => k = B + 2 ∨ k = B + 2 + 1) W W6 ∧ WInv D g N at_ (less lc) v ws data B w5 L (pre ++ [⟨(off, e), hx1, hx2, hx3⟩]) W6 := fun g4 cap4 w4 hown4 hgrow hat4 => by
      have cA : Chg (fun k => k = D ∨ k = B + 1 ∨ v'.ownBlock = some k) W W2 := HC2.out.weaken (fun k hk e => by omega)
      have cB := (Chg.drew (fun k => k = D ∨ k = B + 1 ∨ v'.ownBlock = some k) W2).trans (Chg.alloc _ W2.drew (.cells (wCell x).toArray 84))
      have cC := (Chg.grown hgrow)
      have cABC : Chg (fun k => k = D ∨ k = B + 1 ∨ v'.ownBlock = some k) W w4 := (cA.trans cB).trans2 cC (fun k _ e => .inr (.inr e.symm))
      have cABC' : Chg (fun k => v'.ownBlock = some k) W w4 := ((HC2.out.weaken (fun k hk e => by omega)).trans ((Chg.drew _ W2).trans (Chg.alloc _ W2.drew (.cells (wCell x).toArray 84)))).trans2 cC (fun k _ e => e.symm)
      have hR4 : Rec w4 D g N v' (less lc) := cABC'.box HR'.out (own_ne HROW'.out HR'.out (by decide))
      have hP4 : w4.heap[B + 1]? = some (.cells #[.int .i64 (n : Int)] 3 (0, 0)) := cABC'.box HP.out (own_ne HROW'.out HP.out (by decide))
      have hgD : D ≠ g4 := fun h => own_ne hown4 hR4 (by decide) (by rw [h]; rfl)
      have hgA : B + 1 ≠ g4 := fun h => own_ne hown4 hP4 (by decide) (by rw [h]; rfl)
      have cD := Chg.setCell w4 ⟨D, 1, none⟩ (.slice (some ⟨g4, 0, none⟩) (ws.length + j + 1) cap4)
      have hR5 := rec_set hR4 (.slice (some ⟨g4, 0, none⟩) (ws.length + j + 1) cap4)
      have hP5 := cD.box hP4 (by show ¬ (B + 1 = D); omega)
      have hO5 := cD.own hown4 (fun k hk => by cases hk; exact fun e => hgD e.symm)
      have hkp : KeepsOthers W (w4.setCell ⟨D, 1, none⟩ (.slice (some ⟨g4, 0, none⟩) (ws.length + j + 1) cap4)) := by
        refine (((HK2.out.trans (KeepsOthers.drew W2)).trans (KeepsOthers.alloc _ _)).trans (KeepsOthers.of_grownBy hgrow (fun k o hk ho => ?_))).trans (KeepsOthers.setCell _ _ _)
        rcases HROW'.out.2 with ⟨h, _⟩ | ⟨gr, cap, cur, h, _, hg, _⟩
        · rw [h] at hk
          cases hk
        · rw [h] at hk
          cases hk
          have h2 := ((HC2.out.trans (Chg.drew _ W2)).trans (Chg.alloc _ W2.drew (.cells (wCell x).toArray 84))).box hg (by have := (Array.getElem?_eq_some_iff.1 hg).1; omega)
          rw [h2] at ho
          cases ho
          rfl
      have hB4 : w4.heap[B]? = some (.cells #[.pointer (some ⟨D, 0, none⟩)] 26 (0, 0)) := by
        have hBW : W.heap[B]? = some (.cells #[.pointer (some ⟨D, 0, none⟩)] 26 (0, 0)) := HC.out.box HDB.out (by
          rintro (h | h | h)
          · omega
          · omega
          · have := hvw _ h
            omega)
        exact cABC'.box hBW (own_ne HROW'.out hBW (by decide))
      have hX4 : w4.heap[W.heap.size]? = some (.cells (wCell x).toArray 84 (0, 0)) := cC.box ((Chg.alloc (fun _ => False) W2.drew (.cells (wCell x).toArray 84)).box (show W2.drew.heap[W.heap.size]? = _ from HSET.out) (fun e => e)) (fun e => by have := hown1 _ e.symm; omega)
      have hB5 := cD.box hB4 (by show ¬ (B = D); omega)
      have hX5 := cD.box hX4 (by show ¬ (W.heap.size = D); omega)
      have hr4 : w4.rangeAt W.heap.size 0 (wCell x) := fun i u hi => by
        rw [Nat.zero_add, cell_in hX4, List.getElem?_toArray]
        exact hi
      have hr5 : (w4.setCell ⟨D, 1, none⟩ (.slice (some ⟨g4, 0, none⟩) (ws.length + j + 1) cap4)).rangeAt W.heap.size 0 (wCell x) := fun i u hi => by
        rw [Nat.zero_add, cell_in hX5, List.getElem?_toArray]
        exact hi
      refine ⟨⟨by rw [cell_in hB4]; rfl, hr4⟩, hR4.cells.2.1, frozen_in hR4 _, ?_⟩
      generalize w4.setCell ⟨D, 1, none⟩ (.slice (some ⟨g4, 0, none⟩) (ws.length + j + 1) cap4) = w45 at *
      refine ⟨⟨by rw [cell_in hB5]; rfl, hr5⟩, by rw [cell_in hP5]; rfl, frozen_in hP5 _, ?_⟩
      rintro W6 rfl
      have cE := Chg.setCell w45 ⟨B + 1, 0, none⟩ (.int .i64 ((n : Int) + 1))
      have hR6 := cE.box hR5 (by show ¬ (D = B + 1); omega)
      have hO6 := cE.own hO5 (fun k hk => by cases hk; exact fun e => hgA e.symm)
      have hP6 : (w45.setCell ⟨B + 1, 0, none⟩ (.int .i64 ((n : Int) + 1))).heap[B + 1]? = some (.cells #[.int .i64 ((at_ + (pre ++ [(⟨(off, e), hx1, hx2, hx3⟩ : Pc L)]).length : Nat) : Int)] 3 (0, 0)) := by
        have e1 : ((n : Int) + 1) = ((at_ + (pre ++ [(⟨(off, e), hx1, hx2, hx3⟩ : Pc L)]).length : Nat) : Int) := by
          rw [List.length_append, List.length_singleton, ← HJ.out, HN'.out]
          omega
        rw [setCell_eq_setRow w45 (B + 1) 0 _ _ _ _ hP5, setRow_heap w45 (B + 1) _ _ _ _ hP5, ← e1]
        rfl
      have cAll : Chg (fun k => k = D ∨ k = B + 1 ∨ v'.ownBlock = some k) W (w45.setCell ⟨B + 1, 0, none⟩ (.int .i64 ((n : Int) + 1))) := (cABC.trans2 cD (fun k _ e => .inl e)).trans2 cE (fun k _ e => .inr (.inl e))
      have hkeep : KeepsOthers W (w45.setCell ⟨B + 1, 0, none⟩ (.int .i64 ((n : Int) + 1))) := hkp.trans (KeepsOthers.setCell _ _ _)
      refine ⟨hkeep, KeepB.chg cAll (fun k hk => ⟨by omega, ?_⟩), hP6, HC.out.trans2 cAll (fun k hk e => ?_), _, hR6, ?_, fun k hk => ?_⟩
      · rintro (h | h | h)
        · omega
        · omega
        · rcases HOWN'.out k h with h2 | h2
          · have := hvw k h2
            omega
          · omega
      · rcases e with h | h | h
        · exact .inl h
        · exact .inr (.inl h)
        · rcases HOWN'.out k h with h2 | h2
          · exact .inr (.inr h2)
          · omega
      · rw [List.mapIdx_concat, ← List.append_assoc, List.length_append, List.length_singleton, ← HJ.out]
        have e2 : pieceW at_ data j (⟨(off, e), hx1, hx2, hx3⟩ : Pc L) = x := by
          rw [HX.out, HN'.out, HPC.out]
          rfl
        rw [e2]
        have e3 : wCells (ws ++ pre.mapIdx (pieceW at_ data) ++ [x]) = wCells (ws ++ pre.mapIdx (pieceW at_ data)) ++ wCell x := by simp [wCells]
        rw [e3, ← Nat.add_assoc]
        exact hO6
      · simp [Value.ownBlock] at hk
        subst hk
        rcases hat4 with h | h
        · exact HOWN'.out g4 h
        · right
          omega
    have wn : IntKind.i64.wrap ((n : Int) + 1) = (n : Int) + 1 := by rw [IntKind.wrap_i64]; omega
    have kB2 : (W2.drew.alloc (.cells (wCell x).toArray 84)).cell? ⟨B, 0, none⟩ = some (.pointer (some ⟨D, 0, none⟩)) := (World.cell?_alloc_some _ _ _ (by rw [kB]; rfl)).trans kB
    have kV2 : (W2.drew.alloc (.cells (wCell x).toArray 84)).cell? ⟨D, 1, none⟩ = some v' := (World.cell?_alloc_some _ _ _ (by rw [kV]; rfl)).trans kV
    have kR2 : (W2.drew.alloc (.cells (wCell x).toArray 84)).rangeAt W.heap.size 0 (wCell x) := World.rangeAt_alloc kR _
    have hrowB : (W2.drew.alloc (.cells (wCell x).toArray 84)).ownsRow (D + 1) 84 65 v' (ws.length + j) (wCells (ws ++ pre.mapIdx (pieceW at_ data))) := ((HC2.out.trans (Chg.drew _ W2)).trans (Chg.alloc _ W2.drew (.cells (wCell x).toArray 84))).own HROW'.out (fun k hk => by have := hown1 k hk; omega)
    obtain ⟨i0, hi, hz0, hz1, hz2⟩ := info_parts info_wr
    have hnews := World.news_of_block (heap_new W2.drew (.cells (wCell x).toArray 84))
    have kV3 : (W2.alloc (.cells (wCell x).toArray 84)).cell? ⟨D, 1, none⟩ = some v' := kV2
    have hwl : (wCell x).length = 1 * 65 := wCell_len HX64.out
    have hjM : ws.length + j + 1 ≤ 10001 := by have := HM.out; have := HJ.out; omega
    refine region_round (S := fun X => X.cell? ⟨B, 0, none⟩ = some (.pointer (some ⟨D, 0, none⟩)) ∧ X.rangeAt W.heap.size 0 (wCell x)) (by kernel_rfl) (by rintro ⟨_, _, h⟩; exact h) (by kernel_rfl) (⟨kB, kR⟩) (fun hHeld => ?_)
    refine wpAnyH_take (i := 0) (v := ?_) rfl (by kernel_rfl) (by kernel_rfl) (by kernel_rfl) (fun _ _ _ h => h) (Or.inl ⟨by rfl, ?_⟩) (by assumption) ?_
    rotate_left
    · (intro w hSw; (try dsimp only at hSw); go_simp; try (with_reducible rfl))
    try simp only [Act.put, List.setIfInBounds_toArray, List.set_cons_zero, List.set_cons_succ, List.getElem_toArray, List.getElem_cons_zero]
    refine wpAnyH_take (i := 1) (v := ?_) rfl (by kernel_rfl) (by kernel_rfl) (by kernel_rfl) (fun _ _ _ h => h) (Or.inl ⟨by rfl, ?_⟩) (by assumption) ?_
    rotate_left
    · (intro w hSw; (try dsimp only at hSw); go_simp; try (with_reducible rfl))
    try simp only [Act.put, List.setIfInBounds_toArray, List.set_cons_zero, List.set_cons_succ, List.getElem_toArray, List.getElem_cons_zero, List.getElem_cons_succ]
    refine wpAnyH_take (i := 2) (v := ?_) rfl (by kernel_rfl) (by kernel_rfl) (by kernel_rfl) (fun _ _ _ h => h) (Or.inl ⟨by rfl, ?_⟩) (by assumption) ?_
    rotate_left
    · (intro w hSw; (try dsimp only at hSw); go_simp; try (with_reducible rfl))
    try simp only [Act.put, List.setIfInBounds_toArray, List.set_cons_zero, List.set_cons_succ, List.getElem_toArray, List.getElem_cons_zero, List.getElem_cons_succ]
    refine wpAnyH_take (i := 3) (v := ?_) rfl (by kernel_rfl) (by kernel_rfl) (by kernel_rfl) (fun _ _ _ h => h) (Or.inl ⟨by rfl, ?_⟩) (by assumption) ?_
    rotate_left
    · (intro w hSw; (try dsimp only at hSw); go_simp; try (with_reducible rfl))
    try simp only [Act.put, List.setIfInBounds_toArray, List.set_cons_zero, List.set_cons_succ, List.getElem_toArray, List.getElem_cons_zero, List.getElem_cons_succ]
    refine wpAnyH_take (i := 5) (v := .agg (wCell x).toArray) rfl (by kernel_rfl) (by kernel_rfl) (by kernel_rfl) (fun _ _ _ h => h) (yieldsIf_load_mid (by rfl) 84 (.tmp 8) rfl W.heap.size (0) rfl (wCell x) _ (fun X hX => hX.2) Try.underlying84 rfl (by rw [hwl]; exact size_wr)) (by assumption) ?_
    try simp only [Act.put, List.setIfInBounds_toArray, List.set_cons_zero, List.set_cons_succ, List.getElem_toArray, List.getElem_cons_zero, List.getElem_cons_succ]
    refine wpAnyH_ready (rs := [4, 6]) (by kernel_rfl) (by simp) ?_
    refine AllReadyH.cons rfl (fun K hK => ?_) (AllReadyH.cons rfl (fun K hK => ?_) AllReadyH.nil)
    · go_simp
      refine hK.out _ _ ⟨kB, kR⟩ (fun hHeld2 => ?_)
      clear hK K hHeld
      have hHeld := hHeld2
      clear hHeld2
      try simp only [Act.put, List.setIfInBounds_toArray, List.set_cons_zero, List.set_cons_succ, List.getElem_toArray, List.getElem_cons_zero, List.getElem_cons_succ]
      refine wpAnyH_ready (rs := [6]) (by kernel_rfl) (by simp) ?_
      refine AllReadyH.cons rfl (fun K hK => ?_) AllReadyH.nil
      rw [if_pos (by rfl)]
      refine wp_buildS_wr (.tmp 35) rfl x HX64.out rfl ?_
      refine hK.out _ _ (⟨kB2, kR2⟩) (fun hHeld2 => ?_)
      clear hK K hHeld
      have hHeld := hHeld2
      clear hHeld2
      try simp only [Act.put, List.setIfInBounds_toArray, List.set_cons_zero, List.set_cons_succ, List.getElem_toArray, List.getElem_cons_zero, List.getElem_cons_succ]
      refine wpAnyH_ready (rs := [7]) (by kernel_rfl) (by simp) ?_
      refine AllReadyH.cons rfl (fun K hK => ?_) AllReadyH.nil
      rw [if_pos (by rfl)]
      refine wp_append_lies _ (.tmp 34) (.tmp 36) 72 rfl (D + 1) 84 i0 _ 65 72 Try.underlying72 hi hz0 hz1 hz2 (by rfl) (by decide) v' (ws.length + j) _ rfl hrowB ⟨W2.heap.size, 0, none⟩ 1 1 (wCell x) rfl hwl hnews (wCell_one x) (by decide) (by unfold maxLen; omega) (by omega) (by simp; omega) (W2.heap.size + 1) (by simp) ?_
      intro g4 cap4 w4 hown4 hgrow4 hat4 hlt4
      obtain ⟨hS4, hV4, hF4, hS5, hP5, hFz5, hF⟩ := FIN g4 cap4 w4 hown4 hgrow4 hat4
      refine hK.out _ _ (hS4) (fun hHeld2 => ?_)
      clear hK K hHeld
      have hHeld := hHeld2
      clear hHeld2
      try simp only [Act.put, List.setIfInBounds_toArray, List.set_cons_zero, List.set_cons_succ, List.getElem_toArray, List.getElem_cons_zero, List.getElem_cons_succ]
      refine wpAnyH_take (i := 8) (v := ?_) rfl (by kernel_rfl) (by kernel_rfl) (by kernel_rfl) (fun _ _ _ h => h) (Or.inl ⟨by rfl, ?_⟩) (by assumption) ?_
      rotate_left
      · (intro w hSw; (try dsimp only at hSw); go_simp; try (with_reducible rfl))
      try simp only [Act.put, List.setIfInBounds_toArray, List.set_cons_zero, List.set_cons_succ, List.getElem_toArray, List.getElem_cons_zero, List.getElem_cons_succ]
      refine wpAnyH_take (i := 9) (v := ?_) rfl (by kernel_rfl) (by kernel_rfl) (by kernel_rfl) (fun _ _ _ h => h) (Or.inl ⟨by rfl, ?_⟩) (by assumption) ?_
      rotate_left
      · (intro w hSw; (try dsimp only at hSw); go_simp; try (with_reducible rfl))
      try simp only [Act.put, List.setIfInBounds_toArray, List.set_cons_zero, List.set_cons_succ, List.getElem_toArray, List.getElem_cons_zero, List.getElem_cons_succ]
      refine wpAnyH_ready (rs := [10]) (by kernel_rfl) (by simp) ?_
      refine AllReadyH.cons rfl (fun K hK => ?_) AllReadyH.nil
      go_simp
      refine hK.out _ _ (hS5) (fun hHeld2 => ?_)
      clear hK K hHeld
      have hHeld := hHeld2
      clear hHeld2
      try simp only [Act.put, List.setIfInBounds_toArray, List.set_cons_zero, List.set_cons_succ, List.getElem_toArray, List.getElem_cons_zero, List.getElem_cons_succ]
      refine wpAnyH_done (by kernel_rfl) ?_ _
      clear hHeld
      gi_wp2
      obtain ⟨f1, f2, f3⟩ := hF _ rfl
      exact ⟨f1.from _, f2, f3⟩
    · rw [if_pos (by rfl)]
      refine wp_buildS_wr (.tmp 35) rfl x HX64.out rfl ?_
      refine hK.out _ _ ⟨kB2, kR2⟩ (fun hHeld2 => ?_)
      clear hK K hHeld
      have hHeld := hHeld2
      clear hHeld2
      try simp only [Act.put, List.setIfInBounds_toArray, List.set_cons_zero, List.set_cons_succ, List.getElem_toArray, List.getElem_cons_zero, List.getElem_cons_succ]
      refine wpAnyH_ready (rs := [4]) (by kernel_rfl) (by simp) ?_
      refine AllReadyH.cons rfl (fun K hK => ?_) AllReadyH.nil
      go_simp
      refine hK.out _ _ (⟨kB2, kR2⟩) (fun hHeld2 => ?_)
      clear hK K hHeld
      have hHeld := hHeld2
      clear hHeld2
      try simp only [Act.put, List.setIfInBounds_toArray, List.set_cons_zero, List.set_cons_succ, List.getElem_toArray, List.getElem_cons_zero, List.getElem_cons_succ]
      refine wpAnyH_ready (rs := [7]) (by kernel_rfl) (by simp) ?_
      refine AllReadyH.cons rfl (fun K hK => ?_) AllReadyH.nil
      rw [if_pos (by rfl)]
      refine wp_append_lies _ (.tmp 34) (.tmp 36) 72 rfl (D + 1) 84 i0 _ 65 72 Try.underlying72 hi hz0 hz1 hz2 (by rfl) (by decide) v' (ws.length + j) _ rfl hrowB ⟨W2.heap.size, 0, none⟩ 1 1 (wCell x) rfl hwl hnews (wCell_one x) (by decide) (by unfold maxLen; omega) (by omega) (by simp; omega) (W2.heap.size + 1) (by simp) ?_
      intro g4 cap4 w4 hown4 hgrow4 hat4 hlt4
      obtain ⟨hS4, hV4, hF4, hS5, hP5, hFz5, hF⟩ := FIN g4 cap4 w4 hown4 hgrow4 hat4
      refine hK.out _ _ (hS4) (fun hHeld2 => ?_)
      clear hK K hHeld
      have hHeld := hHeld2
      clear hHeld2
      try simp only [Act.put, List.setIfInBounds_toArray, List.set_cons_zero, List.set_cons_succ, List.getElem_toArray, List.getElem_cons_zero, List.getElem_cons_succ]
      refine wpAnyH_take (i := 8) (v := ?_) rfl (by kernel_rfl) (by kernel_rfl) (by kernel_rfl) (fun _ _ _ h => h) (Or.inl ⟨by rfl, ?_⟩) (by assumption) ?_
      rotate_left
      · (intro w hSw; (try dsimp only at hSw); go_simp; try (with_reducible rfl))
      try simp only [Act.put, List.setIfInBounds_toArray, List.set_cons_zero, List.set_cons_succ, List.getElem_toArray, List.getElem_cons_zero, List.getElem_cons_succ]
      refine wpAnyH_take (i := 9) (v := ?_) rfl (by kernel_rfl) (by kernel_rfl) (by kernel_rfl) (fun _ _ _ h => h) (Or.inl ⟨by rfl, ?_⟩) (by assumption) ?_
      rotate_left
      · (intro w hSw; (try dsimp only at hSw); go_simp; try (with_reducible rfl))
      try simp only [Act.put, List.setIfInBounds_toArray, List.set_cons_zero, List.set_cons_succ, List.getElem_toArray, List.getElem_cons_zero, List.getElem_cons_succ]
      refine wpAnyH_ready (rs := [10]) (by kernel_rfl) (by simp) ?_
      refine AllReadyH.cons rfl (fun K hK => ?_) AllReadyH.nil
      go_simp
      refine hK.out _ _ (hS5) (fun hHeld2 => ?_)
      clear hK K hHeld
      have hHeld := hHeld2
      clear hHeld2
      try simp only [Act.put, List.setIfInBounds_toArray, List.set_cons_zero, List.set_cons_succ, List.getElem_toArray, List.getElem_cons_zero, List.getElem_cons_succ]
      refine wpAnyH_done (by kernel_rfl) ?_ _
      clear hHeld
      gi_wp2
      obtain ⟨f1, f2, f3⟩ := hF _ rfl
      exact ⟨f1.from _, f2, f3⟩
  case done =>
    rintro Dd zs W hD rfl HI hKd
    have HII := Lib.hid HI
    have HKD := Lib.hid hKd
    clear HI hKd
    gi_wp2
    refine ⟨by simp, .inl ⟨_, _, rfl, run_takeDeferred HKD.out, ?_⟩⟩
    have hc1 : Chg (fun k => k = Dd) W (W.putObj Dd (.deferred none)) := (Chg.grown (grownBy_putObj' _ Dd _)).weaken (fun k _ e => by cases e; rfl)
    obtain ⟨v', hR', hrow', hown'⟩ := HII.out.row
    have hchg := HII.out.chg
    have hWs := hchg.size
    have hplen : (pcs L).length = M := by rw [pcs_len, HM.out]
    have hDW := (Array.getElem?_eq_some_iff.1 hR').1
    have hKk := HKD.out
    have hdW : W.heap[g]? = some (.cells (dCells S).toArray 82 (0, 0)) := hchg.box HD5.out.dur (by
      rintro (h | h | h)
      · exact hDg h.symm
      · omega
      · exact own_ne HD5.out.row HD5.out.dur (by decide) h)
    have hnD : ∀ k, v'.ownBlock = some k → ¬ (k = Dd) := fun k hk e => by
      rcases hrow'.2 with ⟨h, _⟩ | ⟨gr, cap, cur, h, _, hg, _⟩
      · rw [h] at hk
        cases hk
      · rw [h] at hk
        cases hk
        have e' : gr = Dd := e
        rw [e', hKk] at hg
        cases hg
    have hbe := HBE.out
    refine ⟨_, results_tmp rfl _ _ _, rfl, v', ⟨?_, ?_, ?_, HH.out.s64, ?_, HH.out.few⟩, ?_, fun k hk => ?_⟩
    · rw [← HN.out]
      exact hc1.box hR' (by omega)
    · exact hc1.box hdW (by omega)
    · have h := hc1.own hrow' hnD
      rw [hplen] at h
      have e1 : (ws ++ piecesW at_ data).length = ws.length + M := by
        unfold piecesW
        rw [List.length_append, List.length_mapIdx, pcs_len, ← HL.out, HM.out]
      rw [e1]
      have e2 : (pcs L).mapIdx (pieceW at_ data) = piecesW at_ data := by
        unfold piecesW
        rw [HL.out]
      rw [← e2]
      exact h
    · intro y hy
      rcases List.mem_append.1 hy with h | h
      · exact HH.out.a64 y h
      · unfold piecesW at h
        obtain ⟨i, hi, rfl⟩ := List.mem_mapIdx.1 h
        refine ⟨?_, pieceW_len i _⟩
        rw [pcs_len, ← HL.out, ← HM.out] at hi
        show at_ + i < S.length
        have := HN.out
        omega
    · exact ((Chg.below HB5.out (fun k => k = D ∨ v.ownBlock = some k)).trans2 hchg (fun k hk e => by
        rcases e with h | h | h
        · exact .inl h
        · omega
        · exact .inr h)).trans2 hc1 (fun k hk e => by omega)
    · rcases hown' k hk with h | h
      · exact .inl h
      · right
        omega
  case stop =>
    rintro Dd cc pre W _ _ h _
    exact h.elim
/-- Write with the power on. -/
theorem write_any (D g : Nat) (S : List Sec) (v : Value) (ws : List Wq) (lc : Int) (hl : -9223372036854775808 ≤ lc ∧ lc ≤ 9223372036854775807) (hcz : lc ≠ 0) (at_ b o c : Nat) (data : List UInt8) (h1 : 1 ≤ data.length) (hc0 : data.length ≤ c) (hc : c ≤ 9223372036854775807) (hat : at_ + (data.length + 63) / 64 ≤ S.length) (hws : ws.length + (data.length + 63) / 64 ≤ 10000) (w : World) (H : DiskAt w D g S v ws lc) (hDg : D ≠ g)
    (hb : w.rangeAt b o (bCells data)) (hbD : b ≠ D) (hbV : v.ownBlock ≠ some b) :
    Calls Try.prog 11 #[.pointer (some ⟨D, 0, none⟩), .int .i64 at_, .slice (some ⟨b, o, none⟩) data.length c] w fun e w' => e = .returned (.int .i64 0) ∧ ∃ v', DiskAt w' D g S v' (ws ++ piecesW at_ data) (less lc) ∧ Chg (fun k => k = D ∨ v.ownBlock = some k) w w' ∧ (∀ k, v'.ownBlock = some k → v.ownBlock = some k ∨ w.heap.size ≤ k) := by
  refine (write_on D g S v ws lc hl hcz at_ b o c data h1 hc0 hc hat hws w _ H rfl (tick_disk H hDg) hDg ((tick_chg w D lc).range hb hbD) hbD hbV).mono ?_
  rintro e w' ⟨rfl, v', h2, h3, h4⟩
  rw [tick_size] at h4
  exact ⟨rfl, v', h2, ((tick_chg w D lc).weaken (fun k _ e => .inl e)).trans h3, h4⟩
set_option maxRecDepth 100000 in
/-- Write with the power off. -/
theorem write_off (D g : Nat) (n : Nat) (v : Value) (at_ : Nat) (p : Option Addr) (L c : Nat) (h1 : 1 ≤ L) (hL : L ≤ 1000000) (hat : at_ + (L + 63) / 64 ≤ n) (hn : n ≤ 65536) (w : World) (H : Rec w D g n v 0) :
    Calls Try.prog 11 #[.pointer (some ⟨D, 0, none⟩), .int .i64 at_, .slice p L c] w fun e w' => e = .returned (.int .i64 20) ∧ Below w.heap.size w w' := by
  have hD0 : D < w.heap.size := (Array.getElem?_eq_some_iff.1 H).1
  have hb1 := bA (bA (Below.refl w.heap.size w) (.cells #[.pointer (some ⟨D, 0, none⟩)] 26)) (.cells #[.int .i64 at_] 3)
  have hR : Rec ((w.alloc (.cells #[.pointer (some ⟨D, 0, none⟩)] 26)).alloc (.cells #[.int .i64 at_] 3)) D g n v 0 := (Chg.below hb1 (fun _ => False)).box H (fun e => e)
  obtain ⟨M, hM⟩ : ∃ M, M = (L + 63) / 64 := ⟨_, rfl⟩
  rw [← hM] at hat
  have q1 : IntKind.i64.wrap ((L : Int) + 64) = (L : Int) + 64 := by rw [IntKind.wrap_i64]; omega
  have q2 : IntKind.i64.wrap ((L : Int) + 64 - 1) = (L : Int) + 64 - 1 := by rw [IntKind.wrap_i64]; omega
  have q3 : ((L : Int) + 64 - 1).tdiv 64 = (M : Int) := by rw [Int.tdiv_eq_ediv_of_nonneg (by omega)]; omega
  have q4 : IntKind.i64.wrap (M : Int) = (M : Int) := by rw [IntKind.wrap_i64]; omega
  have hM1 : 1 ≤ M := by omega
  have hm1 : ((w.alloc (.cells #[.pointer (some ⟨D, 0, none⟩)] 26)).alloc (.cells #[.int .i64 at_] 3)).cell? ⟨w.heap.size, 0, none⟩ = some (.pointer (some ⟨D, 0, none⟩)) := by
    rw [cell_in ((Below.heap_alloc _ _ _ (by simp)).trans (heap_new w _))]
    rfl
  have HB1 := Lib.hid hb1
  clear hM hb1 H
  refine (callsIn_wide (n := 5)).1 ?_
  refine callsIn_of_wp_marks Try.func11 rfl trivial ?_ rfl
  simp only [Try.ntmps11, List.size_toArray, List.length_cons, List.length_nil, Nat.reduceAdd, Nat.reduceSub, Array.replicate_succ, Array.replicate_zero, List.push_toArray, List.append_toArray, List.nil_append, List.cons_append]
  gi_wp2_with fail
  refine ⟨trivial, (callsIn_wide.2 (has_any D g n v 0 at_ M hM1 hat hn _ hR)).mono ?_⟩
  rintro e w2 ⟨rfl, rfl⟩
  gi_wp2_with fail
  refine ⟨trivial, (callsIn_wide.2 (call_off D g n v _ hR)).mono ?_⟩
  rintro e w1 ⟨rfl, rfl⟩
  gi_wp2
  exact ⟨_, results_tmp rfl _ _ _, rfl, HB1.out⟩
end Go.Proofs.Ytgcifhhbhoafcaa
