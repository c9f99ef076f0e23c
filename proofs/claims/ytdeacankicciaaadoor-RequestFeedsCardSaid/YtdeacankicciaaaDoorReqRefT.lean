/-
  The reference's list: the words of an array.
-/
import Derived.Test.YtdeacankicciaaaDoorReqRefC
namespace Go.Proofs.YtdeacankicciaaaDoor
open Go.RowKit Rp Rq

/-- The words of a list. -/
def takeN : Nat → List UInt8 → Except Int (List Wd × List UInt8)
  | 0, l => .ok ([], l)
  | n + 1, l => match wordQ l with | .error e => .error e | .ok (w, r) => (match takeN n r with | .error e => .error e | .ok (ws, r') => .ok (w :: ws, r'))
def pref (ws : List Wd) : Except Int (List Wd × List UInt8) → Except Int (List Wd × List UInt8)
  | .error e => .error e
  | .ok (us, r) => .ok (ws ++ us, r)
theorem pref_err {n : Nat} {ws : List Wd} {l : List UInt8} {x : Int} (h : wordQ l = .error x) : pref ws (takeN (n + 1) l) = .error x := by rw [takeN, h]; rfl
theorem pref_ok {n : Nat} {ws : List Wd} {l r : List UInt8} {w : Wd} (h : wordQ l = .ok (w, r)) : pref ws (takeN (n + 1) l) = pref (ws ++ [w]) (takeN n r) := by
  rw [takeN, h]
  simp only
  cases takeN n r with
  | error e => rfl
  | ok y =>
    obtain ⟨us, r'⟩ := y
    simp [pref]

theorem wordQ_eq (l : List UInt8) : wordQ l = match lineQ l with | .error e => .error e | .ok (t, r) => (match numS t 36 0 4096 with | .error e => .error e | .ok n => bodyQ n.toNat r) := by
  unfold wordQ
  cases hl : lineQ l with
  | error e => rfl
  | ok y =>
    obtain ⟨t, r⟩ := y
    cases t with
    | nil => rfl
    | cons x s =>
      simp only [numS]
      by_cases hx : x = 36
      · subst hx
        rfl
      · rw [if_neg hx, if_neg]
        intro h
        refine hx (UInt8.toNat_inj.1 ?_)
        show x.toNat = 36
        omega
theorem lineQ_code {l : List UInt8} {x : Int} (h : lineQ l = .error x) : x = 10 ∨ x = 11 ∨ x = 12 := by
  unfold lineQ at h
  repeat' split at h
  all_goals (cases h <;> simp)
theorem numS_code {t : List UInt8} {g a b x : Int} (h : numS t g a b = .error x) : x = 10 ∨ x = 12 := by
  unfold numS at h
  split at h
  · cases h; exact .inl rfl
  · split at h
    · exact numQ_err h
    · cases h; exact .inl rfl
theorem numS_ok {t : List UInt8} {g a b n : Int} (h : numS t g a b = .ok n) : a ≤ n ∧ n ≤ b := by
  unfold numS at h
  split at h
  · cases h
  · split at h
    · obtain ⟨h1, h2, _⟩ := numQ_ok h
      exact ⟨h1, h2⟩
    · cases h
theorem line_next {l : List UInt8} {a : Nat} {t r : List UInt8} (h : lineQ (l.drop a) = .ok (t, r)) : ∃ nx, nx ≤ l.length ∧ a + 2 ≤ nx ∧ r = l.drop nx ∧ l.length - r.length = nx := by
  have h0 := lineQ_len h
  obtain ⟨h1, h2, h3, h4, h5, h6⟩ := lineQ_ok h
  rw [List.drop_drop] at h6
  rw [List.length_drop] at h1 h0
  refine ⟨a + (lfAt (l.drop a) + 1), by omega, by omega, h6, ?_⟩
  rw [h6, List.length_drop]
  omega
theorem crlf_at {l : List UInt8} {j : Nat} (h : j + 1 < l.length) : crlf (l.drop j) = true ↔ l[j] = 13 ∧ l[j + 1] = 10 := by
  rw [List.drop_eq_getElem_cons (by omega : j < l.length), List.drop_eq_getElem_cons h]
  unfold crlf
  simp [List.isPrefixOf]
  constructor
  · rintro ⟨h1, h2⟩; exact ⟨h1.symm, h2.symm⟩
  · rintro ⟨h1, h2⟩; exact ⟨h1.symm, h2.symm⟩

theorem cellBelow {w w1 : World} (h : Below w.heap.size w w1) {p : Addr} {v : Value} (hc : w.cell? p = some v) : w1.cell? p = some v := (h.cell (World.block_lt_of_cell? w _ hc)).trans hc
theorem GRow.on {e : TypeId} {w0 w w' : World} {v : Value} {xs : List Value} (H : GRow e w0 w v xs) (hb : Below w.heap.size w w') : GRow e w0 w' v xs := ⟨(Chg.below hb (fun _ => False)).own H.own (fun _ _ h => h), bT H.below hb⟩

/-- What the reference's list answers. -/
def ListV (l : List UInt8) (w : World) (e : Ending) (w' : World) (a : Except Int (List Wd × List UInt8)) : Prop :=
  match a with
  | .ok (ws, r) => ∃ v, e = .returned (.tuple #[v, .int .i64 ((l.length - r.length : Nat) : Int), .int .i64 0]) ∧ GRow 9 w w' v (wCells ws)
  | .error x => e = .returned (.tuple #[.slice none 0 0, .int .i64 0, .int .i64 x]) ∧ Below w.heap.size w w'

structure ListI (l : List UInt8) (a n : Nat) (w : World) (k : Nat) (ws : List Wd) (q : Nat) (v : Value) (wr : World) : Prop where
  le : k ≤ n
  len : ws.length = k
  at_le : q ≤ l.length
  row : GRow 9 w wr v (wCells ws)
  goal : takeN n (l.drop a) = pref ws (takeN (n - k) (l.drop q))
theorem ListI.start (l : List UInt8) (a n : Nat) (ha : a ≤ l.length) (w : World) : ListI l a n w 0 [] a (.slice none 0 0) w := by
  refine ⟨Nat.zero_le _, rfl, ha, GRow.nil _ _, ?_⟩
  show _ = pref [] (takeN n (l.drop a))
  cases takeN n (l.drop a) with
  | error e => rfl
  | ok y => rfl
theorem ListI.err {l : List UInt8} {a n : Nat} {w : World} {k : Nat} {ws : List Wd} {q : Nat} {v : Value} {wr : World} (H : ListI l a n w k ws q v wr) (hk : k < n) {x : Int} (h : wordQ (l.drop q) = .error x) {w' : World} (hb : Below wr.heap.size wr w') :
    ListV l w (.returned (.tuple #[.slice none 0 0, .int .i64 0, .int .i64 x])) w' (takeN n (l.drop a)) := by
  rw [H.goal, show n - k = (n - k - 1) + 1 by omega, pref_err h]
  exact ⟨rfl, bT H.row.below hb⟩
theorem ListI.next {l : List UInt8} {a n : Nat} {w : World} {k : Nat} {ws : List Wd} {q : Nat} {v : Value} {wr : World} (H : ListI l a n w k ws q v wr) (hk : k < n) {x : Wd} {q' : Nat} (hq : q' ≤ l.length) (h : wordQ (l.drop q) = .ok (x, l.drop q')) {w1 : World} (hb : Below wr.heap.size wr w1) {o : Obj} {w2 : World} {g cap : Nat}
    (hown : w2.ownsRow w.heap.size 9 1 (.slice (some ⟨g, 0, none⟩) (k + 1) cap) (k + 1) (wCells ws ++ [.string (bs x)])) (hgr : (w1.alloc o).grownBy w2 v.ownBlock) :
    ListI l a n w (k + 1) (ws ++ [x]) q' (.slice (some ⟨g, 0, none⟩) (k + 1) cap) w2 := by
  refine ⟨hk, by rw [List.length_append, H.len]; rfl, hq, ?_, ?_⟩
  · rw [wCells_snoc]
    have := (H.row.on hb).push (x := .string (bs x)) (by rw [wCells_len, H.len]; exact hown) hgr
    rw [wCells_len, H.len] at this
    exact this
  · rw [H.goal, show n - k = (n - (k + 1)) + 1 by omega, pref_ok h]
theorem ListI.stop {l : List UInt8} {a n : Nat} {w : World} {k : Nat} {ws : List Wd} {q : Nat} {v : Value} {wr : World} (H : ListI l a n w k ws q v wr) (hk : ¬ k < n) :
    ListV l w (.returned (.tuple #[v, .int .i64 q, .int .i64 0])) wr (takeN n (l.drop a)) := by
  have h1 := H.le
  rw [H.goal, show n - k = 0 by omega]
  refine ⟨v, ?_, ?_⟩
  · have := H.at_le
    rw [List.length_drop, show l.length - (l.length - q) = q by omega]
  · rw [List.append_nil]
    exact H.row

set_option maxRecDepth 20000 in
set_option maxHeartbeats 4000000 in
theorem list_any (l : List UInt8) (hl : l.length ≤ 1000000000) (a : Nat) (ha : a ≤ l.length) (n : Nat) (hn : n ≤ 1000) (b o c : Nat) (w : World) (h : Rest w (some ⟨b, o, none⟩) c l) :
    Calls Tryd.prog 44 #[.slice (some ⟨b, o, none⟩) l.length c, .int .i64 a, .int .i64 n] w fun e w' => ListV l w e w' (takeN n (l.drop a)) := by
  obtain ⟨i0, hi, hz0, hz1, hz2⟩ := info_parts info_str
  have H3 := Lib.hid (rest_cell h)
  have hmx := h.len
  have hcap := h.bin.cap
  have hcm := h.bin.max
  have HH := Lib.hid h
  unfold maxLen at hcm
  clear h
  have HNUM := Lib.hid (show l.length ≤ 1000000000 from hl)
  go_enter Tryd.func44, Tryd.ntmps44
  go_wp2_with fail
  go_loopw [1, 9, 10] (fun s1 s9 s10 wr => ∃ (k : Nat) (ws : List Wd) (q : Nat), k ≤ n ∧ s1 = .int .i64 q ∧ s10 = .int .i64 k ∧ Hid (ListI l a n w k ws q s9 wr)) (fun s1 s9 s10 _ => n - (intOf s10).toNat)
  case atStart => exact ⟨0, [], a, Nat.zero_le _, rfl, rfl, Lib.hid (ListI.start l a n ha w)⟩
  case round =>
    obtain ⟨k, ws, q, hkn, rfl, rfl, HI⟩ := hrel
    by_cases hlt : k < n
    · have hqle := HI.out.at_le
      have HBW := Lib.hid HI.out.row.below
      have HR := Lib.hid (Rest.below HH.out HBW.out)
      have HLN := Lib.hid (rline_any l hl q hqle (some ⟨b, o, none⟩) c wr (.inl HR.out))
      have hdl : decide ((k : Int) < (n : Int)) = true := decide_eq_true (by omega)
      go_wp2_with fail
      refine HLN.out.mono ?_
      rintro e w1 ⟨hv, rfl⟩
      unfold RLineV at hv
      cases hlq : lineQ (l.drop q) with
      | error x =>
        rw [hlq] at hv
        subst hv
        have hx0 : (x != 0) = true := by
          rw [bne_iff_ne]
          rcases lineQ_code hlq with rfl | rfl | rfl <;> decide
        have HE := Lib.hid (HI.out.err hlt (x := x) (by rw [wordQ_eq, hlq]) (Below.refl _ _))
        clear hlq
        go_wp2
        go_ret3
        exact HE.out
      | ok y =>
        obtain ⟨t, r⟩ := y
        rw [hlq] at hv
        simp only at hv
        subst hv
        obtain ⟨nx, hnx, hnx2, hr, hnl⟩ := line_next hlq
        rw [hnl]
        have htl : t.length ≤ 281474976710656 := by
          have := lineQ_len hlq
          rw [List.length_drop] at this
          omega
        have HNB := Lib.hid (rnum_any t htl 36 0 4096 wr)
        have HLQ := Lib.hid hlq
        have HRR := Lib.hid hr
        clear hlq hr hnl
        go_wp2_with fail
        refine HNB.out.mono ?_
        rintro e w1 ⟨hv, hb1⟩
        have HB1 := Lib.hid hb1
        cases hnq : numS t 36 0 4096 with
        | error x =>
          rw [hnq] at hv
          have hv2 : e = .returned (.tuple #[.int .i64 0, .int .i64 x]) := hv
          subst hv2
          have hx0 : (x != 0) = true := by
            rw [bne_iff_ne]
            rcases numS_code hnq with rfl | rfl <;> decide
          have HE := Lib.hid (HI.out.err hlt (x := x) (by rw [wordQ_eq, HLQ.out]; simp only [hnq]) hb1)
          clear hnq hb1 hv
          go_wp2
          go_ret3
          exact HE.out
        | ok m =>
          rw [hnq] at hv
          have hv2 : e = .returned (.tuple #[.int .i64 m, .int .i64 0]) := hv
          subst hv2
          obtain ⟨hm0, hm1⟩ := numS_ok hnq
          obtain ⟨kk, rfl⟩ : ∃ kk : Nat, m = (kk : Int) := ⟨m.toNat, by omega⟩
          have HWQ := Lib.hid (show wordQ (l.drop q) = bodyQ kk (l.drop nx) by rw [wordQ_eq, HLQ.out]; simp only [hnq]; rw [HRR.out]; rfl)
          have hkk : kk ≤ 4096 := by omega
          clear hnq hv hm0 hm1 hb1
          by_cases hsh : l.length < nx + kk + 2
          · have HE := Lib.hid (HI.out.err hlt (x := 11) (by rw [HWQ.out]; unfold bodyQ; rw [if_pos (by rw [List.length_drop]; omega)]) HB1.out)
            have hd2 : decide ((l.length : Int) < (nx : Int) + (kk : Int) + 2) = true := decide_eq_true (by omega)
            go_wp2
            go_ret3
            exact HE.out
          · have hd2 : decide ((l.length : Int) < (nx : Int) + (kk : Int) + 2) = false := decide_eq_false (by omega)
            have hj0 : nx + kk < l.length := by omega
            have hj1 : nx + kk + 1 < l.length := by omega
            obtain ⟨x0, hx0⟩ : ∃ x0, l[nx + kk] = x0 := ⟨_, rfl⟩
            obtain ⟨x1, hx1⟩ : ∃ x1, l[nx + kk + 1] = x1 := ⟨_, rfl⟩
            have HB01 := Lib.hid (bT HBW.out HB1.out)
            have k0 := cellBelow HB01.out (H3.out _ hj0)
            have k1 := cellBelow HB01.out (H3.out _ hj1)
            rw [hx0] at k0
            rw [hx1] at k1
            by_cases hc : x0 = 13 ∧ x1 = 10
            · have hcr : crlf ((l.drop nx).drop kk) = true := by
                rw [List.drop_drop]
                exact (crlf_at hj1).2 ⟨hx0.trans hc.1, hx1.trans hc.2⟩
              obtain ⟨rfl, rfl⟩ := hc
              have hw : wordQ (l.drop q) = .ok ((l.drop nx).take kk, l.drop (nx + kk + 2)) := by
                rw [HWQ.out]
                unfold bodyQ
                rw [if_neg (by rw [List.length_drop]; omega), if_pos hcr, List.drop_drop, Nat.add_assoc]
              have HNX := Lib.hid (fun (o : Obj) (w2 : World) (g cap : Nat) => @ListI.next l a n w k ws q _ wr HI.out hlt _ (nx + kk + 2) (by omega) hw w1 HB1.out o w2 g cap)
              obtain ⟨T, hT⟩ : ∃ T, T = (l.drop nx).take kk := ⟨_, rfl⟩
              have hcv : (convert 22 9 (.slice (some ⟨b, o + nx, none⟩) kk (c - nx))).run Tryd.prog w1 = .ok (.string (bs T)) w1 := by
                rw [hT]
                refine convert_rest (l := l.drop nx) _ _ (by rw [List.length_drop]; omega) (fun j hj => ?_)
                rw [List.length_drop] at hj
                rw [List.getElem_drop, Nat.add_assoc]
                exact cellBelow HB01.out (H3.out (nx + j) (by omega))
              rw [← hT] at HNX
              have hck : (c = nx) = False := eq_false (by omega)
              have HOA := Lib.hid (fun o => (HI.out.row.on HB1.out).own.alloc o)
              rw [wCells_len, HI.out.len] at HOA
              have hsz : w.heap.size ≤ w1.heap.size := HB01.out.size
              clear hx0 hx1 hcr hw hT
              go_wp2_with (at_builtin; refine wpList_append_lies _ rfl (.tmp 62) (.tmp 70) 50 rfl w.heap.size 9 i0 (.string ⟨#[]⟩) 1 16 Tryd.underlying50 hi hz0 hz1 hz2 rfl (by decide) _ k (wCells ws) rfl (HOA.out _) ⟨w1.heap.size, 0, none⟩ 1 1 [.string (bs T)] rfl rfl ?c1 (by intro y hy; simp at hy; rw [hy]; rfl) (by decide) (by unfold maxLen; omega) (by omega) (by simp; omega) (w1.heap.size + 1) (by simp) ?_)
              case c1 =>
                intro k u hk
                rw [Lib.add_plain, Nat.zero_add, Lib.cell_of_heap (heap_alloc_new w1 _), ← hk]
                match k with
                | 0 => rfl
                | k + 1 => rfl
              intro g cap w3 hown hgrow hg hgl
              have HN := Lib.hid (HNX.out _ _ _ _ hown hgrow)
              clear hown hgrow hg hgl k0 k1 hcv
              go_wp2_with fail
              go_roundw
              case rel => exact ⟨k + 1, _, nx + kk + 2, by omega, by go_num, by go_num, HN⟩
              case measure => simp [intOf]; omega
            · have HE := Lib.hid (HI.out.err hlt (x := 10) (by
                rw [HWQ.out]
                unfold bodyQ
                rw [if_neg (by rw [List.length_drop]; omega), if_neg]
                intro hcr
                rw [List.drop_drop] at hcr
                have := (crlf_at hj1).1 hcr
                exact hc ⟨hx0.symm.trans this.1, hx1.symm.trans this.2⟩) HB1.out)
              have htest : ((x0.toNat : Int) != 13) = true ∨ ((x0.toNat : Int) != 13) = false ∧ ((x1.toNat : Int) != 10) = true := by
                by_cases h0 : x0 = 13
                · refine .inr ⟨by subst h0; rfl, ?_⟩
                  rw [bne_iff_ne]
                  exact fun e => hc ⟨h0, UInt8.toNat_inj.1 (by show x1.toNat = 10; omega)⟩
                · refine .inl ?_
                  rw [bne_iff_ne]
                  exact fun e => h0 (UInt8.toNat_inj.1 (by show x0.toNat = 13; omega))
              clear hx0 hx1 hc
              rcases htest with ht0 | ⟨ht0, ht1⟩
              · go_wp2
                go_ret3
                exact HE.out
              · go_wp2
                go_ret3
                exact HE.out
    · have HE := Lib.hid (HI.out.stop hlt)
      have hdl : decide ((k : Int) < (n : Int)) = false := decide_eq_false (by omega)
      go_wp2
      go_ret3
      exact HE.out
end Go.Proofs.YtdeacankicciaaaDoor
