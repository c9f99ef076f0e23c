/-
  The reference's Told: the commands of a whole input.
-/
import Derived.Test.YtcikelcecfapcaaDoorReqRefT
namespace Go.Proofs.YtcikelcecfapcaaDoor
open Go.RowKit Rp Rq

/-! ### Plain -/
theorem step_in {n : Nat} (hn : n ≠ 0) (ws : List Wd) (tk : Nat) (r : List UInt8) : Rq.step ⟨n, ws, tk, r⟩ = wordStep ⟨n, ws, tk, r⟩ := by
  unfold Rq.step
  rw [if_neg hn]
theorem words_go (n : Nat) (hn : n ≠ 0) : ∀ (k : Nat) (ws : List Wd) (tk : Nat) (r : List UInt8), ws.length + (k + 1) = n →
    match takeN (k + 1) r with
    | .error x => (x = 11 → ∃ s', Rq.Go ⟨n, ws, tk, r⟩ [] (.more s') ∧ s'.tk + s'.l.length = tk + r.length) ∧ (x ≠ 11 → Rq.Go ⟨n, ws, tk, r⟩ [] (.err x))
    | .ok (us, r') => ∀ cs t, Rq.Go (St.new r') cs t → Rq.Go ⟨n, ws, tk, r⟩ ((ws ++ us) :: cs) t := by
  intro k
  induction k with
  | zero =>
    intro ws tk r hk
    rw [takeN]
    cases hw : wordQ r with
    | error x =>
      have hs : Rq.step ⟨n, ws, tk, r⟩ = .error x := by rw [step_in hn, wordStep, hw]
      have hg := Rq.Go.stop hs
      refine ⟨fun h => ?_, fun h => ?_⟩
      · subst h
        exact ⟨_, hg, rfl⟩
      · unfold stopOf at hg
        rw [if_neg h] at hg
        exact hg
    | ok y =>
      obtain ⟨w, r'⟩ := y
      simp only [takeN]
      intro cs t hg
      have hs : Rq.step ⟨n, ws, tk, r⟩ = .ok (St.new r', [ws ++ [w]]) := by rw [step_in hn, wordStep, hw]; simp only; rw [if_pos hk]
      exact .next hs hg
  | succ k ih =>
    intro ws tk r hk
    rw [takeN]
    cases hw : wordQ r with
    | error x =>
      have hs : Rq.step ⟨n, ws, tk, r⟩ = .error x := by rw [step_in hn, wordStep, hw]
      have hg := Rq.Go.stop hs
      refine ⟨fun h => ?_, fun h => ?_⟩
      · subst h
        exact ⟨_, hg, rfl⟩
      · unfold stopOf at hg
        rw [if_neg h] at hg
        exact hg
    | ok y =>
      obtain ⟨w, r'⟩ := y
      have hlen := wordQ_len hw
      have hs : Rq.step ⟨n, ws, tk, r⟩ = .ok (⟨n, ws ++ [w], tk + (r.length - r'.length), r'⟩, []) := by rw [step_in hn, wordStep, hw]; simp only; rw [if_neg (by omega)]
      have := ih (ws ++ [w]) (tk + (r.length - r'.length)) r' (by rw [List.length_append]; simp; omega)
      simp only
      cases ht : takeN (k + 1) r' with
      | error x =>
        rw [ht] at this
        refine ⟨fun h => ?_, fun h => Rq.Go.next hs (this.2 h)⟩
        obtain ⟨s', h1, h2⟩ := this.1 h
        exact ⟨s', Rq.Go.next hs h1, by omega⟩
      | ok z =>
        obtain ⟨us, r2⟩ := z
        rw [ht] at this
        simp only at this ⊢
        intro cs t hg
        have := Rq.Go.next hs (this cs t hg)
        simpa using this
theorem wordQ_drop {l r : List UInt8} {w : Wd} (h : wordQ l = .ok (w, r)) : ∃ i, r = l.drop i := by
  rw [wordQ_eq] at h
  split at h
  · cases h
  · rename_i t r1 hl
    obtain ⟨_, _, _, _, _, rfl⟩ := lineQ_ok hl
    split at h
    · cases h
    · rename_i n hn
      unfold bodyQ at h
      split at h
      · cases h
      · split at h
        · cases h
          exact ⟨_, List.drop_drop ..⟩
        · cases h
theorem bodyQ_code {n : Nat} {r : List UInt8} {x : Int} (h : bodyQ n r = .error x) : x = 10 ∨ x = 11 ∨ x = 12 := by
  unfold bodyQ at h
  repeat' split at h
  all_goals (cases h <;> simp)
theorem wordQ_code {l : List UInt8} {x : Int} (h : wordQ l = .error x) : x = 10 ∨ x = 11 ∨ x = 12 := by
  rw [wordQ_eq] at h
  split at h
  · rename_i hl
    cases h
    exact lineQ_code hl
  · split at h
    · rename_i hn
      cases h
      rcases numS_code hn with h | h
      · exact .inl h
      · exact .inr (.inr h)
    · exact bodyQ_code h
theorem takeN_code : ∀ (n : Nat) {l : List UInt8} {x : Int} (_ : takeN n l = .error x), x = 10 ∨ x = 11 ∨ x = 12
  | 0, l, x, h => by cases h
  | n + 1, l, x, h => by
    rw [takeN] at h
    split at h
    · rename_i hw
      cases h
      exact wordQ_code hw
    · split at h
      · rename_i ht
        cases h
        exact takeN_code n ht
      · cases h
theorem takeN_len : ∀ (n : Nat) {l r : List UInt8} {ws : List Wd} (_ : takeN n l = .ok (ws, r)), ws.length = n ∧ r.length + 2 * n ≤ l.length ∧ ∃ j, r = l.drop j
  | 0, l, r, ws, h => by cases h; exact ⟨rfl, by omega, 0, rfl⟩
  | n + 1, l, r, ws, h => by
    rw [takeN] at h
    split at h
    · cases h
    · rename_i w r1 hw
      split at h
      · cases h
      · rename_i us r2 ht
        cases h
        have h1 := wordQ_len hw
        obtain ⟨h2, h3, j, rfl⟩ := takeN_len n ht
        obtain ⟨i, rfl⟩ := wordQ_drop hw
        exact ⟨by rw [List.length_cons, h2], by omega, i + j, by rw [List.drop_drop]⟩
theorem drop_len {l r : List UInt8} {i : Nat} (h : r = l.drop i) : r = l.drop (l.length - r.length) := by
  by_cases hi : i ≤ l.length
  · have : l.length - r.length = i := by rw [h, List.length_drop]; omega
    rw [this]; exact h
  · have h0 : r = [] := by rw [h]; exact List.drop_eq_nil_of_le (by omega)
    rw [h0]
    exact (List.drop_eq_nil_of_le (by simp)).symm
theorem step_new (m : List UInt8) : Rq.step (St.new m) = lineStep m := rfl

theorem lineStep_star {m u r : List UInt8} (h : lineQ m = .ok (42 :: u, r)) : lineStep m = match numQ u 1 128 with | .error e => .error e | .ok n => .ok (⟨n.toNat, [], m.length - r.length, r⟩, []) := by
  rw [lineStep, h]
  rfl
theorem lineStep_text {m t r : List UInt8} (h : lineQ m = .ok (t, r)) (ht : t.head? ≠ some 42) : lineStep m = if 128 < (fieldsQ t []).length then .error 12 else .ok (St.new r, if fieldsQ t [] = [] then [] else [fieldsQ t []]) := by
  rw [lineStep, h]
  simp only
  rw [if_neg ht]

/-! ### In memory -/
structure ToldI (l : List UInt8) (w : World) (q : Nat) (xs : List Hc) (cv : Value) (wr : World) : Prop where
  at_le : q ≤ l.length
  few : xs.length ≤ q
  row : GRow 50 w wr cv (hCells xs)
  own : ∀ x ∈ xs, Own wr w.heap.size x
  go : ∀ cs t, Rq.Go (St.new (l.drop q)) cs t → Rq.Go (St.new l) (xs.map Hc.ws ++ cs) t
theorem ToldI.start (l : List UInt8) (w : World) : ToldI l w 0 [] (.slice none 0 0) w := ⟨Nat.zero_le _, Nat.le_refl _, GRow.nil _ _, fun _ h => by simp at h, fun _ _ h => h⟩

/-- What Told answers. -/
def ToldV (l : List UInt8) (w : World) (e : Ending) (w' : World) : Prop :=
  ∃ (xs : List Hc) (cv : Value) (st : Stop), e = .returned (.tuple #[cv, .int .i64 (st.wait : Nat), .int .i64 st.code]) ∧ Rq.Go (St.new l) (xs.map Hc.ws) st ∧ GRow 50 w w' cv (hCells xs) ∧ ∀ x ∈ xs, Own w' w.heap.size x

theorem Own.on {w w' : World} {lo : Nat} {x : Hc} (h : Own w lo x) (hb : Below w.heap.size w w') : Own w' lo x := (Chg.below hb (fun _ => False)).own h (fun _ _ e => e)
theorem ToldI.more {l : List UInt8} {w : World} {q : Nat} {xs : List Hc} {cv : Value} {wr : World} (H : ToldI l w q xs cv wr) {s' : St} (hg : Rq.Go (St.new (l.drop q)) [] (.more s')) (hs : s'.tk + s'.l.length = l.length - q) {w1 : World} (hb : Below wr.heap.size wr w1) :
    ToldV l w (.returned (.tuple #[cv, .int .i64 ((l.length - q : Nat) : Int), .int .i64 0])) w1 := by
  refine ⟨xs, cv, .more s', ?_, ?_, H.row.on hb, fun x hx => (H.own x hx).on hb⟩
  · show _ = Ending.returned (.tuple #[cv, .int .i64 ((s'.tk + s'.l.length : Nat) : Int), .int .i64 0])
    rw [hs]
  · have := H.go _ _ hg
    rwa [List.append_nil] at this
theorem ToldI.err {l : List UInt8} {w : World} {q : Nat} {xs : List Hc} {cv : Value} {wr : World} (H : ToldI l w q xs cv wr) {x : Int} (hg : Rq.Go (St.new (l.drop q)) [] (.err x)) {w1 : World} (hb : Below wr.heap.size wr w1) :
    ToldV l w (.returned (.tuple #[cv, .int .i64 0, .int .i64 x])) w1 := by
  refine ⟨xs, cv, .err x, rfl, ?_, H.row.on hb, fun x hx => (H.own x hx).on hb⟩
  have := H.go _ _ hg
  rwa [List.append_nil] at this
theorem ToldI.skip {l : List UInt8} {w : World} {q : Nat} {xs : List Hc} {cv : Value} {wr : World} (H : ToldI l w q xs cv wr) {q' : Nat} (hq : q' ≤ l.length) (hqq : q ≤ q') (hs : Rq.step (St.new (l.drop q)) = .ok (St.new (l.drop q'), [])) {w1 : World} (hb : Below wr.heap.size wr w1) : ToldI l w q' xs cv w1 :=
  ⟨hq, Nat.le_trans H.few hqq, H.row.on hb, fun x hx => (H.own x hx).on hb, fun cs t hg => H.go cs t (Rq.Go.next hs hg)⟩
theorem ToldI.push {l : List UInt8} {w : World} {q : Nat} {xs : List Hc} {cv : Value} {wr : World} (H : ToldI l w q xs cv wr) {q' : Nat} (hq : q' ≤ l.length) (hqq : q < q') {x : Hc} (hs : ∀ cs t, Rq.Go (St.new (l.drop q')) cs t → Rq.Go (St.new (l.drop q)) (x.ws :: cs) t) {w1 : World} (hb : Below wr.heap.size wr w1) (hx : Own w1 w.heap.size x) {o : Obj} {w2 : World} {g cap : Nat}
    (hown : w2.ownsRow w.heap.size 50 1 (.slice (some ⟨g, 0, none⟩) (xs.length + 1) cap) (xs.length + 1) (hCells xs ++ [x.val])) (hgr : (w1.alloc o).grownBy w2 cv.ownBlock) :
    ToldI l w q' (xs ++ [x]) (.slice (some ⟨g, 0, none⟩) (xs.length + 1) cap) w2 := by
  have hrow := H.row.on hb
  have hc := (Chg.below (bA (Below.refl w1.heap.size w1) o) (fun k => some k = cv.ownBlock)).trans (Chg.grown hgr) (fun _ _ e => e)
  have hk : ∀ y : Hc, Own w1 w.heap.size y → Own w2 w.heap.size y := fun y hy => hc.own hy (fun k hk e => own_apart hy hrow.own (by decide) k hk e.symm)
  refine ⟨hq, by rw [List.length_append]; have := H.few; simp; omega, ?_, ?_, fun cs t hg => ?_⟩
  · rw [hCells_snoc]
    have := hrow.push (x := x.val) (by rw [hCells_len]; exact hown) hgr
    rw [hCells_len] at this
    exact this
  · intro y hy
    rcases List.mem_append.1 hy with hy | hy
    · exact hk y ((H.own y hy).on hb)
    · obtain rfl : y = x := by simpa using hy
      exact hk _ hx
  · have := H.go _ _ (hs cs t hg)
    simpa using this
/-- A row of words that is not empty is a command. -/
theorem GRow.cmd {w0 w : World} {v : Value} {ws : List Wd} (H : GRow 9 w0 w v (wCells ws)) (hn : ws ≠ []) : ∃ g cap, v = .slice (some ⟨g, 0, none⟩) ws.length cap ∧ ∀ lo, lo ≤ w0.heap.size → Own w lo ⟨ws, g, cap⟩ := by
  rcases H.own.2 with ⟨_, h⟩ | ⟨g, cap, cur, hv, _⟩
  · rw [wCells_len] at h
    exact absurd (List.eq_nil_of_length_eq_zero h) hn
  · rw [wCells_len] at hv
    refine ⟨g, cap, hv, fun lo hlo => ?_⟩
    have h := H.own
    rw [hv, wCells_len] at h
    exact own_base h hlo

theorem told_nil (p : Option Addr) (c : Nat) (w : World) :
    Calls Tryd.prog 22 #[.slice p 0 c] w (ToldV [] w) := by
  have HLN := Lib.hid (rline_nil p c)
  go_enter Tryd.func22, Tryd.ntmps22
  go_wp2_with fail
  go_loopw [5, 6] (fun s5 s6 wr => s5 = .slice none 0 0 ∧ s6 = .int .i64 0 ∧ wr = w) (fun _ _ _ => 0)
  case atStart => exact ⟨rfl, rfl, rfl⟩
  case round =>
    obtain ⟨rfl, rfl, rfl⟩ := hrel
    go_wp2_with fail
    refine (HLN.out _).mono ?_
    rintro e w1 ⟨rfl, rfl⟩
    go_wp2
    go_ret3
    exact ⟨[], _, .more (St.new []), rfl, Rq.Go.stop (s := St.new []) (e := 11) rfl, GRow.nil _ _, fun _ h => by simp at h⟩

set_option maxRecDepth 20000 in
set_option maxHeartbeats 4000000 in
theorem told_some (l : List UInt8) (hl : l.length ≤ 1000000000) (b o c : Nat) (w : World) (h : Rest w (some ⟨b, o, none⟩) c l) :
    Calls Tryd.prog 22 #[.slice (some ⟨b, o, none⟩) l.length c] w (ToldV l w) := by
  obtain ⟨i0, hi, hz0, hz1, hz2⟩ := info_parts info_row
  have HH := Lib.hid h
  clear h
  go_enter Tryd.func22, Tryd.ntmps22
  go_wp2_with fail
  go_loopw [5, 6] (fun s5 s6 wr => ∃ (q : Nat) (xs : List Hc), s6 = .int .i64 q ∧ q ≤ l.length ∧ Hid (ToldI l w q xs s5 wr)) (fun _ s6 _ => l.length - (intOf s6).toNat)
  case atStart => exact ⟨0, [], rfl, Nat.zero_le _, Lib.hid (ToldI.start l w)⟩
  case round =>
    obtain ⟨q, xs, rfl, hqle, HI⟩ := hrel
    have hfew := HI.out.few
    have HBW := Lib.hid HI.out.row.below
    have hsw : w.heap.size ≤ wr.heap.size := HBW.out.size
    have HR := Lib.hid (Rest.below HH.out HBW.out)
    have HLN := Lib.hid (rline_any l hl q hqle (some ⟨b, o, none⟩) c wr (.inl HR.out))
    go_wp2_with fail
    refine HLN.out.mono ?_
    rintro e w1 ⟨hv, rfl⟩
    unfold RLineV at hv
    cases hlq : lineQ (l.drop q) with
    | error x =>
      rw [hlq] at hv
      simp only at hv
      subst hv
      have hst : Rq.step (St.new (l.drop q)) = .error x := by rw [step_new, lineStep, hlq]
      have hg := Rq.Go.stop hst
      by_cases h11 : x = 11
      · subst h11
        have HE := Lib.hid (HI.out.more (s' := St.new (l.drop q)) hg (by show 0 + (l.drop q).length = _; rw [List.length_drop, Nat.zero_add]) (Below.refl _ _))
        have hsub : (l.length : Int) - (q : Int) = ((l.length - q : Nat) : Int) := by omega
        clear hlq hst hg
        go_wp2
        go_ret3
        exact HE.out
      · have hb1 : (x == 11) = false := by rw [beq_eq_false_iff_ne]; exact h11
        have hb2 : (x != 0) = true := by
          rw [bne_iff_ne]
          rcases lineQ_code hlq with rfl | rfl | rfl <;> decide
        unfold stopOf at hg
        rw [if_neg h11] at hg
        have HE := Lib.hid (HI.out.err hg (Below.refl _ _))
        clear hlq hst hg h11
        go_wp2
        go_ret3
        exact HE.out
    | ok y =>
      obtain ⟨t, r⟩ := y
      rw [hlq] at hv
      simp only at hv
      subst hv
      obtain ⟨nx, hnx, hnx2, hr, hnl⟩ := line_next hlq
      rw [hnl]
      have hqn : q < nx := by omega
      have htl : t.length ≤ 100000000 := by
        have h1 := (lineQ_ok hlq).2.1
        have h2 := (lineQ_ok hlq).2.2.2.2.1
        rw [h2, List.length_take]
        omega
      have hdl : (l.drop q).length = l.length - q := List.length_drop
      obtain ⟨S, hS⟩ : ∃ S, S = bs t := ⟨_, rfl⟩
      have HSZ := Lib.hid (show S.size = t.length by rw [hS, bs_size])
      by_cases h42 : t.head? = some 42
      · obtain ⟨u, rfl⟩ : ∃ u, t = 42 :: u := by
          cases t with
          | nil => cases h42
          | cons x u => simp at h42; exact ⟨u, by rw [h42]⟩
        have h0 : 0 < S.size := by rw [HSZ.out]; simp
        have hz : decide ((0 : Int) < (S.size : Int)) = true := decide_eq_true (by omega)
        have hb42 : ((S[0].toNat : Int) == 42) = true := by
          have : S[0] = 42 := by subst hS; rfl
          rw [this]; rfl
        have HNB := Lib.hid (rnum_any (42 :: u) (by omega) 42 1 128 wr)
        rw [← hS] at HNB ⊢
        have hnumS : numS (42 :: u) 42 1 128 = numQ u 1 128 := rfl
        rw [hnumS] at HNB
        have HLS3 := Lib.hid (lineStep_star hlq)
        have HRR := Lib.hid hr
        clear hlq hr hnl hS hnumS h42
        go_wp2_with fail
        refine HNB.out.mono ?_
        rintro e w1 ⟨hv, hb1⟩
        have HB1 := Lib.hid hb1
        cases hnq : numQ u 1 128 with
        | error x =>
          rw [hnq] at hv
          have hv2 : e = .returned (.tuple #[.int .i64 0, .int .i64 x]) := hv
          subst hv2
          have hx := numQ_err hnq
          have hx0 : (x != 0) = true := by
            rw [bne_iff_ne]
            rcases hx with rfl | rfl <;> decide
          have hg := Rq.Go.stop (s := St.new (l.drop q)) (e := x) (by rw [step_new, HLS3.out]; simp only [hnq])
          unfold stopOf at hg
          rw [if_neg (by rcases hx with rfl | rfl <;> decide)] at hg
          have HE := Lib.hid (HI.out.err hg hb1)
          clear hnq hb1 hv hg hx
          go_wp2
          go_ret3
          exact HE.out
        | ok m =>
          rw [hnq] at hv
          have hv2 : e = .returned (.tuple #[.int .i64 m, .int .i64 0]) := hv
          subst hv2
          obtain ⟨hm0, hm1, _⟩ := numQ_ok hnq
          obtain ⟨kk, rfl⟩ : ∃ kk : Nat, m = (kk : Int) := ⟨m.toNat, by omega⟩
          obtain ⟨k, rfl⟩ : ∃ k, kk = k + 1 := ⟨kk - 1, by omega⟩
          have hst : Rq.step (St.new (l.drop q)) = .ok (⟨k + 1, [], nx - q, l.drop nx⟩, []) := by
            rw [step_new, HLS3.out]
            simp only [hnq]
            rw [HRR.out, List.length_drop, List.length_drop, show l.length - q - (l.length - nx) = nx - q by omega]
            rfl
          have hwg := words_go (k + 1) (by omega) k [] (nx - q) (l.drop nx) (by simp)
          have HWG := Lib.hid hwg
          have HST := Lib.hid hst
          have HLI := Lib.hid (list_any l hl nx hnx (k + 1) (by omega) b o c w1 (Rest.below HR.out HB1.out))
          have hk128 : k + 1 ≤ 128 := by omega
          clear hnq hv hm0 hm1 hb1 hwg hst
          generalize hkk : k + 1 = kk at *
          go_wp2_with fail
          refine HLI.out.mono ?_
          rintro e w2 hv
          have hdn : (l.drop nx).length = l.length - nx := List.length_drop
          cases htk : takeN kk (l.drop nx) with
          | error x =>
            have hwg := HWG.out
            rw [htk] at hv hwg
            obtain ⟨hv2, hb2⟩ := hv
            subst hv2
            have HB2 := Lib.hid (bT HB1.out hb2)
            by_cases h11 : x = 11
            · subst h11
              obtain ⟨s', hg, hs'⟩ := hwg.1 rfl
              rw [hdn] at hs'
              clear htk hwg hb2
              have HE := Lib.hid (HI.out.more (Rq.Go.next HST.out hg) (by omega) HB2.out)
              have hsub : (l.length : Int) - (q : Int) = ((l.length - q : Nat) : Int) := by omega
              clear hg
              go_wp2
              go_ret3
              exact HE.out
            · have hb3 : (x == 11) = false := by rw [beq_eq_false_iff_ne]; exact h11
              have hb4 : (x != 0) = true := by
                rw [bne_iff_ne]
                rcases takeN_code kk htk with rfl | rfl | rfl <;> decide
              have HE := Lib.hid (HI.out.err (Rq.Go.next HST.out (hwg.2 h11)) HB2.out)
              clear htk hwg hb2 h11
              go_wp2
              go_ret3
              exact HE.out
          | ok y =>
            obtain ⟨ws, r2⟩ := y
            have hwg := HWG.out
            rw [htk] at hv hwg
            obtain ⟨v, hv2, hgr⟩ := hv
            subst hv2
            obtain ⟨hwl, hrl, j, hrj⟩ := takeN_len kk htk
            rw [List.drop_drop] at hrj
            have hrd := drop_len hrj
            rw [hdn] at hrl
            have hq2 : q < l.length - r2.length := by omega
            have hq3 : l.length - r2.length ≤ l.length := by omega
            have hwn : ws ≠ [] := fun e => by rw [e] at hwl; simp at hwl; omega
            obtain ⟨g1, cap1, hv3, how⟩ := hgr.cmd hwn
            rw [hwl] at hv3
            have HOW := Lib.hid (how w.heap.size (Nat.le_trans hsw HB1.out.size))
            have HB2 := Lib.hid (bT HB1.out hgr.below)
            have HST2 := Lib.hid (fun cs t (hg : Rq.Go (St.new (l.drop (l.length - r2.length))) cs t) => Rq.Go.next HST.out (hwg cs t (by rw [hrd]; exact hg)))
            have hval : Hc.val ⟨ws, g1, cap1⟩ = .slice (some ⟨g1, 0, none⟩) kk cap1 := by rw [← hwl]; rfl
            have HNX := Lib.hid (fun (o : Obj) (w3 : World) (g cap : Nat) => @ToldI.push l w q xs _ wr HI.out _ hq3 hq2 ⟨ws, g1, cap1⟩ HST2.out w2 HB2.out HOW.out o w3 g cap)
            rw [hval] at HNX
            have HOA := Lib.hid (fun o => (HI.out.row.on HB2.out).own.alloc o)
            rw [hCells_len] at HOA
            have hsz : w.heap.size ≤ w2.heap.size := Nat.le_trans hsw HB2.out.size
            subst hv3
            generalize hQ : l.length - r2.length = Q at *
            clear htk hwg hgr hrj hrd hrl hwl how hwn hval
            go_wp2_with (at_builtin; refine wpList_append_lies _ rfl (.tmp 69) (.tmp 71) 41 rfl w.heap.size 50 i0 (.slice none 0 0) 1 24 Tryd.underlying41 hi hz0 hz1 hz2 rfl (by decide) _ xs.length (hCells xs) rfl (HOA.out _) ⟨w2.heap.size, 0, none⟩ 1 1 [.slice (some ⟨g1, 0, none⟩) kk cap1] rfl rfl ?c1 (by intro y hy; simp at hy; rw [hy]; rfl) (by decide) (by unfold maxLen; omega) (by omega) (by simp; omega) (w2.heap.size + 1) (by simp) ?_)
            case c1 =>
              intro k u hk
              rw [Lib.add_plain, Nat.zero_add, Lib.cell_of_heap (heap_alloc_new w2 _), ← hk]
              match k with
              | 0 => rfl
              | k + 1 => rfl
            intro g cap w3 hown hgrow hg hgl
            have HN := Lib.hid (HNX.out _ _ _ _ hown hgrow)
            clear hown hgrow hg hgl
            go_wp2_with fail
            go_roundw
            case rel => exact ⟨Q, _, rfl, hq3, HN⟩
            case measure => simp [intOf]; omega
      · have htest : S.size = 0 ∨ (decide ((0 : Int) < (S.size : Int)) = true ∧ ∃ h0 : 0 < S.size, ((S[0].toNat : Int) == 42) = false) := by
          cases t with
          | nil => exact .inl HSZ.out
          | cons x u =>
            have h0 : 0 < S.size := by rw [HSZ.out]; simp
            refine .inr ⟨decide_eq_true (by omega), h0, ?_⟩
            have : S[0] = x := by subst hS; rfl
            rw [this, beq_eq_false_iff_ne]
            intro e
            refine h42 ?_
            rw [List.head?_cons, Option.some.injEq]
            exact UInt8.toNat_inj.1 (by show x.toNat = 42; omega)
        have HCU := Lib.hid (cut_any t htl wr)
        rw [← hS] at HCU ⊢
        have hls := lineStep_text hlq h42
        rw [hr] at hls
        clear hlq hr hnl hS h42
        obtain ⟨F, hF⟩ : ∃ F, F = fieldsQ t [] := ⟨_, rfl⟩
        rw [← hF] at HCU hls
        have HLS := Lib.hid hls
        clear hF hls
        rcases htest with hz | ⟨hz, h0, hb42⟩
        · go_wp2_with fail
          refine HCU.out.mono ?_
          rintro e w1 ⟨v, rfl, hgr⟩
          obtain ⟨vp, vc, rfl⟩ := hgr.shape
          have HGR := Lib.hid hgr
          rw [wCells_len] at HGR ⊢
          have HB1 := Lib.hid hgr.below
          clear hgr
          by_cases hbig : 128 < F.length
          · have hd1 : decide ((128 : Int) < (F.length : Int)) = true := decide_eq_true (by omega)
            have hg := Rq.Go.stop (s := St.new (l.drop q)) (e := 12) (by rw [step_new, HLS.out, if_pos hbig])
            have HE := Lib.hid (HI.out.err hg HB1.out)
            clear hg
            go_wp2
            go_ret3
            exact HE.out
          · have hd1 : decide ((128 : Int) < (F.length : Int)) = false := decide_eq_false (by omega)
            have hst : Rq.step (St.new (l.drop q)) = .ok (St.new (l.drop nx), if F = [] then [] else [F]) := by rw [step_new, HLS.out, if_neg hbig]
            by_cases hnil : F = []
            · subst hnil
              have HN := Lib.hid (HI.out.skip hnx (Nat.le_of_lt hqn) hst HB1.out)
              clear hst
              go_wp2_with fail
              go_roundw
              case rel => exact ⟨nx, xs, rfl, hnx, HN⟩
              case measure => simp [intOf]; omega
            · have hpos : 0 < F.length := List.length_pos_iff.2 hnil
              have hd2 : decide ((0 : Int) < (F.length : Int)) = true := decide_eq_true (by omega)
              rw [if_neg hnil] at hst
              have HST2 := Lib.hid (fun cs t (hg : Rq.Go (St.new (l.drop nx)) cs t) => Rq.Go.next hst hg)
              have hcmd := GRow.cmd (v := .slice vp F.length vc) ⟨by have := HGR.out.own; exact this, HGR.out.below⟩ hnil
              obtain ⟨g1, cap1, hv3, how⟩ := hcmd
              have HOW := Lib.hid (how w.heap.size hsw)
              have HNX := Lib.hid (fun (o : Obj) (w3 : World) (g cap : Nat) => @ToldI.push l w q xs _ wr HI.out nx hnx hqn ⟨F, g1, cap1⟩ HST2.out w1 HB1.out HOW.out o w3 g cap)
              have HOA := Lib.hid (fun o => (HI.out.row.on HB1.out).own.alloc o)
              rw [hCells_len] at HOA
              have hsz : w.heap.size ≤ w1.heap.size := Nat.le_trans hsw HB1.out.size
              simp only [Value.slice.injEq, true_and] at hv3
              obtain ⟨rfl, rfl⟩ := hv3
              clear hst how HGR HCU HLS
              go_wp2_with (at_builtin; refine wpList_append_lies _ rfl (.tmp 83) (.tmp 85) 41 rfl w.heap.size 50 i0 (.slice none 0 0) 1 24 Tryd.underlying41 hi hz0 hz1 hz2 rfl (by decide) _ xs.length (hCells xs) rfl (HOA.out _) ⟨w1.heap.size, 0, none⟩ 1 1 [.slice (some ⟨g1, 0, none⟩) F.length vc] rfl rfl ?c2 (by intro y hy; simp at hy; rw [hy]; rfl) (by decide) (by unfold maxLen; omega) (by omega) (by simp; omega) (w1.heap.size + 1) (by simp) ?_)
              case c2 =>
                intro k u hk
                rw [Lib.add_plain, Nat.zero_add, Lib.cell_of_heap (heap_alloc_new w1 _), ← hk]
                match k with
                | 0 => rfl
                | k + 1 => rfl
              intro g cap w3 hown hgrow hg hgl
              have HN := Lib.hid (HNX.out _ _ _ _ hown hgrow)
              clear hown hgrow hg hgl
              go_wp2_with fail
              go_roundw
              case rel => exact ⟨nx, _, rfl, hnx, HN⟩
              case measure => simp [intOf]; omega
        · go_wp2_with fail
          refine HCU.out.mono ?_
          rintro e w1 ⟨v, rfl, hgr⟩
          obtain ⟨vp, vc, rfl⟩ := hgr.shape
          have HGR := Lib.hid hgr
          rw [wCells_len] at HGR ⊢
          have HB1 := Lib.hid hgr.below
          clear hgr
          by_cases hbig : 128 < F.length
          · have hd1 : decide ((128 : Int) < (F.length : Int)) = true := decide_eq_true (by omega)
            have hg := Rq.Go.stop (s := St.new (l.drop q)) (e := 12) (by rw [step_new, HLS.out, if_pos hbig])
            have HE := Lib.hid (HI.out.err hg HB1.out)
            clear hg
            go_wp2
            go_ret3
            exact HE.out
          · have hd1 : decide ((128 : Int) < (F.length : Int)) = false := decide_eq_false (by omega)
            have hst : Rq.step (St.new (l.drop q)) = .ok (St.new (l.drop nx), if F = [] then [] else [F]) := by rw [step_new, HLS.out, if_neg hbig]
            by_cases hnil : F = []
            · subst hnil
              have HN := Lib.hid (HI.out.skip hnx (Nat.le_of_lt hqn) hst HB1.out)
              clear hst
              go_wp2_with fail
              go_roundw
              case rel => exact ⟨nx, xs, rfl, hnx, HN⟩
              case measure => simp [intOf]; omega
            · have hpos : 0 < F.length := List.length_pos_iff.2 hnil
              have hd2 : decide ((0 : Int) < (F.length : Int)) = true := decide_eq_true (by omega)
              rw [if_neg hnil] at hst
              have HST2 := Lib.hid (fun cs t (hg : Rq.Go (St.new (l.drop nx)) cs t) => Rq.Go.next hst hg)
              have hcmd := GRow.cmd (v := .slice vp F.length vc) ⟨by have := HGR.out.own; exact this, HGR.out.below⟩ hnil
              obtain ⟨g1, cap1, hv3, how⟩ := hcmd
              have HOW := Lib.hid (how w.heap.size hsw)
              have HNX := Lib.hid (fun (o : Obj) (w3 : World) (g cap : Nat) => @ToldI.push l w q xs _ wr HI.out nx hnx hqn ⟨F, g1, cap1⟩ HST2.out w1 HB1.out HOW.out o w3 g cap)
              have HOA := Lib.hid (fun o => (HI.out.row.on HB1.out).own.alloc o)
              rw [hCells_len] at HOA
              have hsz : w.heap.size ≤ w1.heap.size := Nat.le_trans hsw HB1.out.size
              simp only [Value.slice.injEq, true_and] at hv3
              obtain ⟨rfl, rfl⟩ := hv3
              clear hst how HGR HCU HLS
              go_wp2_with (at_builtin; refine wpList_append_lies _ rfl (.tmp 83) (.tmp 85) 41 rfl w.heap.size 50 i0 (.slice none 0 0) 1 24 Tryd.underlying41 hi hz0 hz1 hz2 rfl (by decide) _ xs.length (hCells xs) rfl (HOA.out _) ⟨w1.heap.size, 0, none⟩ 1 1 [.slice (some ⟨g1, 0, none⟩) F.length vc] rfl rfl ?c3 (by intro y hy; simp at hy; rw [hy]; rfl) (by decide) (by unfold maxLen; omega) (by omega) (by simp; omega) (w1.heap.size + 1) (by simp) ?_)
              case c3 =>
                intro k u hk
                rw [Lib.add_plain, Nat.zero_add, Lib.cell_of_heap (heap_alloc_new w1 _), ← hk]
                match k with
                | 0 => rfl
                | k + 1 => rfl
              intro g cap w3 hown hgrow hg hgl
              have HN := Lib.hid (HNX.out _ _ _ _ hown hgrow)
              clear hown hgrow hg hgl
              go_wp2_with fail
              go_roundw
              case rel => exact ⟨nx, _, rfl, hnx, HN⟩
              case measure => simp [intOf]; omega

/-- The reference's Told, of any bytes. -/
theorem told_any (l : List UInt8) (hl : l.length ≤ 1000000000) (p : Option Addr) (c : Nat) (w : World) (h : Tail w p c l) :
    Calls Tryd.prog 22 #[.slice p l.length c] w (ToldV l w) := by
  by_cases hn : l = []
  · subst hn
    exact told_nil p c w
  · rcases h with h | ⟨h, _⟩
    · rcases h with ⟨_, h, _⟩ | ⟨b, o, rfl, h1, h2, h3⟩
      · exact absurd h hn
      · exact told_some l hl b o c w (.inr ⟨b, o, rfl, h1, h2, h3⟩)
    · exact absurd h hn
end Go.Proofs.YtcikelcecfapcaaDoor
