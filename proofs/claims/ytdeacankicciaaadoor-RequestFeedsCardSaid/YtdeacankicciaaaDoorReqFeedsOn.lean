/-
  RequestFeeds: an input in pieces.
-/
import Derived.Test.YtdeacankicciaaaDoorReqFeedsA
namespace Go.Proofs.YtdeacankicciaaaDoor
open Go.RowKit Rp Rq

theorem go_code {s : St} {cs : List (List Wd)} {t : Stop} (h : Rq.Go s cs t) : ∀ x, t = .err x → x ≠ 0 := by
  induction h with
  | @stop s e h =>
    intro x hx
    unfold stopOf at hx
    split at hx
    · cases hx
    · cases hx
      rintro rfl
      unfold Rq.step at h
      split at h
      · unfold lineStep at h
        split at h
        · rename_i hl
          cases h
          have := lineQ_code hl
          omega
        · split at h
          · split at h
            · rename_i hn
              cases h
              have := numQ_err hn
              omega
            · cases h
          · split at h <;> cases h
      · unfold wordStep at h
        split at h
        · rename_i hw
          cases h
          have := wordQ_code hw
          omega
        · split at h <;> cases h
  | next h _ ih => exact ih

theorem tail_take {w : World} {p : Option Addr} {c : Nat} {l : List UInt8} (h : Tail w p c l) (E : Nat) : Tail w p c (l.take E) := by
  rcases h with h | ⟨rfl, h⟩
  · rcases h with ⟨h1, rfl, h2⟩ | ⟨b, o, hp, h1, h2, h3⟩
    · exact .inl (.inl ⟨h1, by simp, h2⟩)
    · refine .inl (.inr ⟨b, o, hp, by rw [List.length_take]; omega, h2, fun j hj => ?_⟩)
      rw [List.length_take] at hj
      rw [List.getElem_take]
      exact h3 j (by omega)
  · exact .inr ⟨by simp, h⟩

set_option maxHeartbeats 1000000 in
theorem feeds_far (p p2 : Option Addr) (c c2 n m : Nat) (h : 4000 < n ∨ 100 < m) (w : World) (hE : Errs w) :
    Calls Tryd.prog 5 #[.slice p n c, .slice p2 m c2] w fun e w' => e = .returned (.bool true) ∧ Below w.heap.size w w' := by
  have HE := Lib.hid hE
  clear hE
  by_cases h1 : 4000 < n
  · have hd : decide ((4000 : Int) < (n : Int)) = true := decide_eq_true (by omega)
    go_enter Tryd.func5, Tryd.ntmps5
    go_wp2_with fail
    refine (awake_any w HE.out).mono ?_
    rintro e w1 ⟨rfl, hb1⟩
    go_wp2_with fail
    refine (awake_any w1 (HE.out.on hb1)).mono ?_
    rintro e w2 ⟨rfl, hb2⟩
    go_wp2
    go_ret
    exact ⟨rfl, bT hb1 hb2⟩
  · have hd : decide ((4000 : Int) < (n : Int)) = false := decide_eq_false (by omega)
    have hd2 : decide ((100 : Int) < (m : Int)) = true := decide_eq_true (by omega)
    go_enter Tryd.func5, Tryd.ntmps5
    go_wp2_with fail
    refine (awake_any w HE.out).mono ?_
    rintro e w1 ⟨rfl, hb1⟩
    go_wp2_with fail
    refine (awake_any w1 (HE.out.on hb1)).mono ?_
    rintro e w2 ⟨rfl, hb2⟩
    go_wp2
    go_ret
    exact ⟨rfl, bT hb1 hb2⟩

set_option maxRecDepth 20000 in
set_option maxHeartbeats 16000000 in
theorem feeds_some (l : List UInt8) (hl : l.length ≤ 4000) (hn : 0 < l.length) (b o c : Nat) (p2 : Option Addr) (c2 : Nat) (l2 : List UInt8) (hm : l2.length ≤ 100) (w : World) (hE : Errs w) (h2 : Tail w p2 c2 l2) (h : Rest w (some ⟨b, o, none⟩) c l) :
    Calls Tryd.prog 5 #[.slice (some ⟨b, o, none⟩) l.length c, .slice p2 l2.length c2] w fun e w' => e = .returned (.bool true) ∧ Below w.heap.size w w' := by
  have HE := Lib.hid hE
  have H2 := Lib.hid h2
  clear hE h2
  have HH := Lib.hid (show Tail w (some ⟨b, o, none⟩) c l from .inl h)
  have hlc := h.bin.cap
  have hcx := h.bin.max
  unfold maxLen at hcx
  have H3 := Lib.hid (fun W (hW : Below w.heap.size w W) => (h.below hW : Rest W (some ⟨b, o, none⟩) c l))
  clear h
  have hd : decide ((4000 : Int) < (l.length : Int)) = false := decide_eq_false (by omega)
  have hd2 : decide ((100 : Int) < (l2.length : Int)) = false := decide_eq_false (by omega)
  obtain ⟨m, hmm⟩ : ∃ m, m = l2.length := ⟨_, rfl⟩
  rw [← hmm] at hm hd2 ⊢
  have HMM := Lib.hid hmm
  clear hmm
  have kc : ∀ w1 : World, (convert 22 22 (.slice (some ⟨w1.heap.size, 0, none⟩) 6 6)).run Tryd.prog (w1.alloc (.cells #[.int .u8 80, .int .u8 73, .int .u8 78, .int .u8 71, .int .u8 13, .int .u8 10] 5)) = .ok (.slice (some ⟨w1.heap.size, 0, none⟩) 6 6) (w1.alloc (.cells #[.int .u8 80, .int .u8 73, .int .u8 78, .int .u8 71, .int .u8 13, .int .u8 10] 5 (6, 7))) := fun w1 => Lib.run_convert_bytes_const (P := Tryd.prog) w1 22 5 _ 6 6 Tryd.underlying22 Tryd.underlying5
  go_enter Tryd.func5, Tryd.ntmps5
  go_wp2_with fail
  refine (awake_any w HE.out).mono ?_
  rintro e w1 ⟨rfl, hb1⟩
  have HB1 := Lib.hid hb1
  clear hb1
  go_wp2_with fail
  refine (new_any w1).mono ?_
  rintro e w2 ⟨rfl, rfl⟩
  have HST := Lib.hid (show FeI l w w1.heap.size 0 (St.new []) (.slice none 0 0) (.slice none 0 0) [] (.slice none 0 0) (w1.alloc (.cells #[.int .i64 0, .slice none 0 0, .int .i64 0, .slice none 0 0, .int .i64 0] 69)) from FeI.start (rdr_new (heap_alloc_new w1 _)) (bA HB1.out _))
  have hwR := HB1.out.size
  generalize w1.alloc (.cells #[.int .i64 0, .slice none 0 0, .int .i64 0, .slice none 0 0, .int .i64 0] 69) = w2 at *
  generalize w1.heap.size = R at *
  clear HB1
  go_wp2_with fail
  go_loopw [6, 7, 8] (fun s6 s7 s8 wr => ∃ (i q : Nat) (s : St) (pv wv : Value) (xs : List Hc), i ≤ m + 1 ∧ s8 = .int .i64 i ∧ s7 = .int .i64 q ∧ Hid (FeI l w R q s pv wv xs s6 wr)) (fun _ _ s8 _ => m + 1 - (intOf s8).toNat)
  case atStart => exact ⟨0, 0, St.new [], _, _, [], by omega, rfl, rfl, HST⟩
  case round =>
    obtain ⟨i, q, s, pv, wv, xs, hi, rfl, rfl, HI⟩ := hrel
    have hq := HI.out.le
    by_cases hle : i ≤ m
    · have hdl : decide ((i : Int) ≤ (m : Int)) = true := decide_eq_true (by omega)
      by_cases hlt : i < m
      · have hdl2 : decide ((i : Int) < (m : Int)) = true := decide_eq_true (by omega)
        have hil2 : i < l2.length := by have := HMM.out; omega
        obtain ⟨b2, o2, hp2, k2⟩ : ∃ b2 o2, p2 = some ⟨b2, o2, none⟩ ∧ w.cell? ⟨b2, o2 + i, none⟩ = some (.int .u8 (l2[i].toNat : Nat)) := by
          rcases H2.out with h | ⟨h, _⟩
          · rcases h with ⟨_, h, _⟩ | ⟨b2, o2, h, _, _, h3⟩
            · rw [h] at hil2; simp at hil2
            · exact ⟨b2, o2, h, h3 i hil2⟩
          · rw [h] at hil2; simp at hil2
        subst hp2
        have k3 := cellBelow HI.out.row.below k2
        have hx8 : l2[i].toNat < 256 := UInt8.toNat_lt _
        generalize l2[i].toNat = x8 at *
        obtain ⟨E, hmin⟩ : ∃ E : Nat, min (l.length : Int) ((q : Int) + (x8 : Int)) = (E : Int) := ⟨min l.length (q + x8), by omega⟩
        have hqE : q ≤ E := by omega
        have hEl : E ≤ l.length := by omega
        clear k2 hil2
        obtain ⟨q0, hq0, hck⟩ : ∃ q0, q0 = (if c = q then some (⟨b, o, none⟩ : Addr) else some ⟨b, o + q, none⟩) ∧ ((c = q) = True ∧ q0 = some ⟨b, o, none⟩ ∨ (c = q) = False ∧ q0 = some ⟨b, o + q, none⟩) := by
          refine ⟨_, rfl, ?_⟩
          by_cases hc : c = q
          · exact .inl ⟨eq_true hc, by rw [if_pos hc]⟩
          · exact .inr ⟨eq_false hc, by rw [if_neg hc]⟩
        have HMID := Lib.hid (fun W (hW : Below wr.heap.size wr W) => tail_take (.inl (sub_from (b := b) (o := o) (c := c) (l := l) q hq q0 hq0 W (H3.out W (bT HI.out.row.below hW)))) (E - q))
        clear hq0
        rcases hck with ⟨hck, rfl⟩ | ⟨hck, rfl⟩
        · have hlt0 : R < wr.heap.size := HI.out.rdr.box.lt
          have HOW := Lib.hid (World.ownsRow_made (base := wr.heap.size) (e := 5) (size := 1) wr #[] 0 (Nat.le_refl _) (by unfold maxLen; omega) rfl)
          have hb0 := bA (Below.refl wr.heap.size wr) (.cells #[] 5)
          obtain ⟨sub, hsub⟩ : ∃ sub, sub = (l.drop q).take (E - q) := ⟨_, rfl⟩
          have hsl : sub.length = E - q := by rw [hsub, List.length_take, List.length_drop]; omega
          have HT := Lib.hid (show Tail (wr.alloc (.cells #[] 5)) (some ⟨b, o, none⟩) (c - q) sub by rw [hsub]; exact (HMID.out _ hb0))
          have hfew := HI.out.few
          have HSUB := Lib.hid hsub
          have HSL := Lib.hid hsl
          clear hsub hsl
          go_wp2_with (at_builtin; refine append_rest rfl (.tmp 57) (.tmp 61) rfl wr.heap.size _ 0 [] rfl HOW.out (some ⟨b, o, none⟩) (E - q) (c - q) sub rfl HSL.out HT.out (by omega) (by simp) ?_)
          intro v2 w2 hown hgrow hnil
          have hown2 : w2.ownsRow wr.heap.size 5 1 v2 sub.length (sCells sub) := by rw [HSL.out]; simpa using hown
          have hB2 : Below wr.heap.size wr w2 := hb0.grown hgrow (by simp) (fun k hk => (HOW.out.lt k hk).1)
          obtain ⟨q2, d2, rfl, hq2⟩ := own_rest hown2
          rw [HSL.out] at hown2 ⊢
          have hb3 := bT hB2 (bA (Below.refl w2.heap.size w2) (.cells #[.slice q2 (E - q) d2] 22))
          have HB3 := Lib.hid hb3
          have hR3 := HI.out.rdr.on hb3
          have HR3 := Lib.hid hR3
          have hs2 := hB2.size
          have HFD := Lib.hid (feed_one w HE.out R s pv wv q2 d2 sub w2.heap.size 1 (w2.alloc (.cells #[.slice q2 (E - q) d2] 22)) hR3 (bT HI.out.row.below hb3) hwR
            (by rw [HSL.out, Lib.cell_of_heap (heap_alloc_new w2 _)]; rfl) (hq2.below (bA (Below.refl _ _) _))
            (fun b' o' hb => by
              subst hb
              have h1 := (hown2.lt b' rfl).1
              exact ⟨by omega, fun e => by have := (HI.out.rdr.rest.lt b' e).2; omega⟩) (by omega) (fun e => by have := (HI.out.rdr.rest.lt _ e).2; omega) (by have := HSL.out; omega) (by omega))
          clear hown hgrow hnil hown2 hB2 hq2 hb3 hR3 hb0
          go_wp2_with fail
          refine HFD.out.mono ?_
          rintro e w4 ⟨xs2, cv, hcown, hcown2, hchg, hcnew, hst⟩
          have hrow4 := (HI.out.row.on HB3.out).feed HR3.out hwR HI.out.apart hchg
          have HROW4 := Lib.hid hrow4
          have HCO := Lib.hid hcown
          have HCO2 := Lib.hid hcown2
          have hs4 : R + 1 ≤ w4.heap.size := by
            have h1 := HB3.out.size
            have h2 := hchg.size
            omega
          have hEE : (l.take E).length = E := by rw [List.length_take]; omega
          rcases hst with ⟨s', pv', wv', rfl, hgo, hrdr, hapx, hwn, hpn⟩ | ⟨x, rfl, hgo, hbox⟩
          · have HGO := Lib.hid (HI.out.goes hqE (HSUB.out ▸ hgo))
            have hfew2 := go_few hgo
            have hkeep := go_keep hgo s' rfl
            have hl2 : (s.l ++ sub).length = s.l.length + (E - q) := by rw [List.length_append, HSL.out]
            rw [List.length_map] at hfew2
            have hfew3 : 2 * xs2.length ≤ (s.l ++ sub).length := hfew2
            have hkeep2 : s'.tk + s'.l.length ≤ s.tk + (s.l ++ sub).length := hkeep
            have HAP := Lib.hid (show ∀ x ∈ xs ++ xs2, wv'.ownBlock ≠ some x.g from fun x hx e => by
              rcases List.mem_append.1 hx with h | h
              · rcases hwn _ e with h2 | h2
                · exact HI.out.apart x h h2
                · have h3 := ((HI.out.row.own x h).lt x.g rfl).2
                  have h4 := HB3.out.size
                  omega
              · exact hapx x h e)
            have HRD := Lib.hid hrdr
            clear hgo hrdr hapx hwn hpn hcown hcown2 hchg hcnew hrow4 hfew2 hkeep
            go_wp2_with (at_builtin; refine append_cmds rfl (.tmp 68) (.tmp 69) rfl (R + 1) _ xs.length (hCells xs) rfl HROW4.out.row (R + 1) cv xs2 rfl HCO.out (by omega) hs4 ?_)
            intro v3 w5 hown5 hgr5
            have hrow5 := HROW4.out.push hwR HCO2.out hown5 hgr5
            have HROW5 := Lib.hid hrow5
            have HRD5 := Lib.hid (HRD.out.chg (Chg.grown hgr5) (fun e => own_ne HROW4.out.row HRD.out.box (by decide) e.symm) (fun k hk e => own_apart HROW4.out.row HRD.out.rest (by decide) k e.symm hk) (fun k hk e => own_apart HROW4.out.row HRD.out.words (by decide) k e.symm hk))
            have HTD := Lib.hid (told_any (l.take E) (by omega) _ c w5 (tail_take (HH.out.below hrow5.below) E))
            rw [hEE] at HTD
            clear hown5 hgr5 hrow5
            go_wp2_with fail
            refine HTD.out.mono ?_
            rintro e w6 ⟨ys, cv3, st, he, hgo3, hgr3, hown3⟩
            obtain ⟨hcs, hst⟩ := hgo3.det HGO.out
            obtain ⟨N, hN⟩ : ∃ N, N = s'.tk + s'.l.length := ⟨_, rfl⟩
            obtain rfl : e = .returned (.tuple #[cv3, .int .i64 (N : Int), .int .i64 0]) := by rw [he, hst, hN]; rfl
            have hEq : (xs ++ xs2).map Hc.ws = ys.map Hc.ws := by rw [List.map_append, hcs]
            have HB6 := Lib.hid hgr3.below
            have hg3 := hgr3.own
            rw [hCells_len] at hg3
            have hSM := same_any ((xs ++ xs2).map Hc.ws) (ys.map Hc.ws) (by rw [List.length_map, List.length_append]; omega) (fun x hx => by
              obtain ⟨y, hy, rfl⟩ := List.mem_map.1 hx
              exact own_len (HROW5.out.own y hy)) v3 cv3 w6 (HROW5.out.is.below HB6.out) (told_is hg3 hown3)
            rw [decide_eq_true hEq] at hSM
            have HSM := Lib.hid hSM
            have HN := Lib.hid hN
            clear hSM hg3 hEq hcs hst he hgo3 hgr3 hown3 hN
            go_wp2_with fail
            refine HSM.out.mono ?_
            rintro e w7 ⟨rfl, hb7⟩
            obtain ⟨q5, d5, hpv, -⟩ := own_rest HRD5.out.rest
            have hbx := HRD5.out.box
            rw [hpv] at hbx
            have hWT := waiting_any R 0 q5 s'.l.length d5 s'.c wv' s'.tk (by omega) (by omega) w7 ((hbx.below HB6.out).below hb7)
            rw [← HN.out] at hWT
            have HWT := Lib.hid hWT
            have HB7 := Lib.hid (bT HB6.out hb7)
            clear hWT hbx hpv hb7
            go_wp2_with fail
            refine HWT.out.mono ?_
            rintro e w8 ⟨rfl, hb8⟩
            have HNX := Lib.hid (show FeI l w R E s' pv' wv' (xs ++ xs2) v3 w8 from ⟨hEl, by rw [List.map_append]; exact HGO.out, HRD5.out.on (bT HB7.out hb8), HROW5.out.on (bT HB7.out hb8), HAP.out⟩)
            clear hb8
            go_wp2_with fail
            go_roundw
            case rel => exact ⟨i + 1, E, s', pv', wv', _, by omega, by go_num, rfl, HNX⟩
            case measure => simp [intOf]; omega
          · have HGO := Lib.hid (HI.out.goes hqE (HSUB.out ▸ hgo))
            have hx0 := go_code hgo x rfl
            have hfew2 := go_few hgo
            have hl2 : (s.l ++ sub).length = s.l.length + (E - q) := by rw [List.length_append, HSL.out]
            rw [List.length_map] at hfew2
            have hfew3 : 2 * xs2.length ≤ (s.l ++ sub).length := hfew2
            have HBOX := Lib.hid hbox
            have HX0 := Lib.hid hx0
            have hxb : (x != 0) = true := by rw [bne_iff_ne]; exact hx0
            clear hgo hbox hcown hcown2 hchg hcnew hrow4 hfew2 hx0
            go_wp2_with (at_builtin; refine append_cmds rfl (.tmp 68) (.tmp 69) rfl (R + 1) _ xs.length (hCells xs) rfl HROW4.out.row (R + 1) cv xs2 rfl HCO.out (by omega) hs4 ?_)
            intro v3 w5 hown5 hgr5
            have hrow5 := HROW4.out.push hwR HCO2.out hown5 hgr5
            have HROW5 := Lib.hid hrow5
            have hbox5 : Box w5 R x (.slice none 0 0) 0 (.slice none 0 0) 0 := (Chg.grown hgr5).box HBOX.out (fun e => own_ne HROW4.out.row HBOX.out (by decide) e.symm)
            have HBOX5 := Lib.hid hbox5
            have HTD := Lib.hid (told_any (l.take E) (by omega) _ c w5 (tail_take (HH.out.below hrow5.below) E))
            rw [hEE] at HTD
            clear hown5 hgr5 hrow5 hbox5
            go_wp2_with fail
            refine HTD.out.mono ?_
            rintro e w6 ⟨ys, cv3, st, he, hgo3, hgr3, hown3⟩
            obtain ⟨hcs, hst⟩ := hgo3.det HGO.out
            obtain rfl : e = .returned (.tuple #[cv3, .int .i64 0, .int .i64 x]) := by rw [he, hst]; rfl
            have hEq : (xs ++ xs2).map Hc.ws = ys.map Hc.ws := by rw [List.map_append, hcs]
            have HB6 := Lib.hid hgr3.below
            have hg3 := hgr3.own
            rw [hCells_len] at hg3
            have hSM := same_any ((xs ++ xs2).map Hc.ws) (ys.map Hc.ws) (by rw [List.length_map, List.length_append]; omega) (fun x hx => by
              obtain ⟨y, hy, rfl⟩ := List.mem_map.1 hx
              exact own_len (HROW5.out.own y hy)) v3 cv3 w6 (HROW5.out.is.below HB6.out) (told_is hg3 hown3)
            rw [decide_eq_true hEq] at hSM
            have HSM := Lib.hid hSM
            clear hSM hg3 hEq hcs hst he hgo3 hgr3 hown3
            go_wp2_with fail
            refine HSM.out.mono ?_
            rintro e w7 ⟨rfl, hb7⟩
            have hb67 := bT HB6.out hb7
            have HWT := Lib.hid (waiting_any R x none 0 0 0 (.slice none 0 0) 0 (by decide) (by decide) w7 (HBOX5.out.below hb67))
            have HB7 := Lib.hid hb67
            clear hb7 hb67
            go_wp2_with fail
            refine HWT.out.mono ?_
            rintro e w8 ⟨rfl, hb8⟩
            have HB8 := Lib.hid (bT HB7.out hb8)
            clear hb8
            go_wp2_with fail
            have hb9 := bA (bA (Below.refl w8.heap.size w8) (.cells #[.int .u8 80, .int .u8 73, .int .u8 78, .int .u8 71, .int .u8 13, .int .u8 10] 5 (6, 7))) (.cells #[.slice (some ⟨w8.heap.size, 0, none⟩) 6 6] 22)
            have HB9 := Lib.hid (bT HB8.out hb9)
            clear hb9
            generalize (w8.alloc (.cells #[.int .u8 80, .int .u8 73, .int .u8 78, .int .u8 71, .int .u8 13, .int .u8 10] 5 (6, 7))).alloc (.cells #[.slice (some ⟨w8.heap.size, 0, none⟩) 6 6] 22) = w9 at *
            refine (feed_failed R x HX0.out _ _ _ _ _ w9 (HBOX5.out.below HB9.out)).mono ?_
            rintro e w10 ⟨rfl, hb10⟩
            have HB10 := Lib.hid (bT HB9.out hb10)
            clear hb10
            have HWT2 := Lib.hid (waiting_any R x none 0 0 0 (.slice none 0 0) 0 (by decide) (by decide) w10 (HBOX5.out.below HB10.out))
            go_wp2_with fail
            refine HWT2.out.mono ?_
            rintro e w11 ⟨rfl, hb11⟩
            have HFIN := Lib.hid (bT HROW5.out.below (bT HB10.out hb11))
            clear hb11
            go_wp2
            go_ret
            exact ⟨rfl, HFIN.out⟩
        · have hlt0 : R < wr.heap.size := HI.out.rdr.box.lt
          have HOW := Lib.hid (World.ownsRow_made (base := wr.heap.size) (e := 5) (size := 1) wr #[] 0 (Nat.le_refl _) (by unfold maxLen; omega) rfl)
          have hb0 := bA (Below.refl wr.heap.size wr) (.cells #[] 5)
          obtain ⟨sub, hsub⟩ : ∃ sub, sub = (l.drop q).take (E - q) := ⟨_, rfl⟩
          have hsl : sub.length = E - q := by rw [hsub, List.length_take, List.length_drop]; omega
          have HT := Lib.hid (show Tail (wr.alloc (.cells #[] 5)) (some ⟨b, o + q, none⟩) (c - q) sub by rw [hsub]; exact (HMID.out _ hb0))
          have hfew := HI.out.few
          have HSUB := Lib.hid hsub
          have HSL := Lib.hid hsl
          clear hsub hsl
          go_wp2_with (at_builtin; refine append_rest rfl (.tmp 57) (.tmp 61) rfl wr.heap.size _ 0 [] rfl HOW.out (some ⟨b, o + q, none⟩) (E - q) (c - q) sub rfl HSL.out HT.out (by omega) (by simp) ?_)
          intro v2 w2 hown hgrow hnil
          have hown2 : w2.ownsRow wr.heap.size 5 1 v2 sub.length (sCells sub) := by rw [HSL.out]; simpa using hown
          have hB2 : Below wr.heap.size wr w2 := hb0.grown hgrow (by simp) (fun k hk => (HOW.out.lt k hk).1)
          obtain ⟨q2, d2, rfl, hq2⟩ := own_rest hown2
          rw [HSL.out] at hown2 ⊢
          have hb3 := bT hB2 (bA (Below.refl w2.heap.size w2) (.cells #[.slice q2 (E - q) d2] 22))
          have HB3 := Lib.hid hb3
          have hR3 := HI.out.rdr.on hb3
          have HR3 := Lib.hid hR3
          have hs2 := hB2.size
          have HFD := Lib.hid (feed_one w HE.out R s pv wv q2 d2 sub w2.heap.size 1 (w2.alloc (.cells #[.slice q2 (E - q) d2] 22)) hR3 (bT HI.out.row.below hb3) hwR
            (by rw [HSL.out, Lib.cell_of_heap (heap_alloc_new w2 _)]; rfl) (hq2.below (bA (Below.refl _ _) _))
            (fun b' o' hb => by
              subst hb
              have h1 := (hown2.lt b' rfl).1
              exact ⟨by omega, fun e => by have := (HI.out.rdr.rest.lt b' e).2; omega⟩) (by omega) (fun e => by have := (HI.out.rdr.rest.lt _ e).2; omega) (by have := HSL.out; omega) (by omega))
          clear hown hgrow hnil hown2 hB2 hq2 hb3 hR3 hb0
          go_wp2_with fail
          refine HFD.out.mono ?_
          rintro e w4 ⟨xs2, cv, hcown, hcown2, hchg, hcnew, hst⟩
          have hrow4 := (HI.out.row.on HB3.out).feed HR3.out hwR HI.out.apart hchg
          have HROW4 := Lib.hid hrow4
          have HCO := Lib.hid hcown
          have HCO2 := Lib.hid hcown2
          have hs4 : R + 1 ≤ w4.heap.size := by
            have h1 := HB3.out.size
            have h2 := hchg.size
            omega
          have hEE : (l.take E).length = E := by rw [List.length_take]; omega
          rcases hst with ⟨s', pv', wv', rfl, hgo, hrdr, hapx, hwn, hpn⟩ | ⟨x, rfl, hgo, hbox⟩
          · have HGO := Lib.hid (HI.out.goes hqE (HSUB.out ▸ hgo))
            have hfew2 := go_few hgo
            have hkeep := go_keep hgo s' rfl
            have hl2 : (s.l ++ sub).length = s.l.length + (E - q) := by rw [List.length_append, HSL.out]
            rw [List.length_map] at hfew2
            have hfew3 : 2 * xs2.length ≤ (s.l ++ sub).length := hfew2
            have hkeep2 : s'.tk + s'.l.length ≤ s.tk + (s.l ++ sub).length := hkeep
            have HAP := Lib.hid (show ∀ x ∈ xs ++ xs2, wv'.ownBlock ≠ some x.g from fun x hx e => by
              rcases List.mem_append.1 hx with h | h
              · rcases hwn _ e with h2 | h2
                · exact HI.out.apart x h h2
                · have h3 := ((HI.out.row.own x h).lt x.g rfl).2
                  have h4 := HB3.out.size
                  omega
              · exact hapx x h e)
            have HRD := Lib.hid hrdr
            clear hgo hrdr hapx hwn hpn hcown hcown2 hchg hcnew hrow4 hfew2 hkeep
            go_wp2_with (at_builtin; refine append_cmds rfl (.tmp 68) (.tmp 69) rfl (R + 1) _ xs.length (hCells xs) rfl HROW4.out.row (R + 1) cv xs2 rfl HCO.out (by omega) hs4 ?_)
            intro v3 w5 hown5 hgr5
            have hrow5 := HROW4.out.push hwR HCO2.out hown5 hgr5
            have HROW5 := Lib.hid hrow5
            have HRD5 := Lib.hid (HRD.out.chg (Chg.grown hgr5) (fun e => own_ne HROW4.out.row HRD.out.box (by decide) e.symm) (fun k hk e => own_apart HROW4.out.row HRD.out.rest (by decide) k e.symm hk) (fun k hk e => own_apart HROW4.out.row HRD.out.words (by decide) k e.symm hk))
            have HTD := Lib.hid (told_any (l.take E) (by omega) _ c w5 (tail_take (HH.out.below hrow5.below) E))
            rw [hEE] at HTD
            clear hown5 hgr5 hrow5
            go_wp2_with fail
            refine HTD.out.mono ?_
            rintro e w6 ⟨ys, cv3, st, he, hgo3, hgr3, hown3⟩
            obtain ⟨hcs, hst⟩ := hgo3.det HGO.out
            obtain ⟨N, hN⟩ : ∃ N, N = s'.tk + s'.l.length := ⟨_, rfl⟩
            obtain rfl : e = .returned (.tuple #[cv3, .int .i64 (N : Int), .int .i64 0]) := by rw [he, hst, hN]; rfl
            have hEq : (xs ++ xs2).map Hc.ws = ys.map Hc.ws := by rw [List.map_append, hcs]
            have HB6 := Lib.hid hgr3.below
            have hg3 := hgr3.own
            rw [hCells_len] at hg3
            have hSM := same_any ((xs ++ xs2).map Hc.ws) (ys.map Hc.ws) (by rw [List.length_map, List.length_append]; omega) (fun x hx => by
              obtain ⟨y, hy, rfl⟩ := List.mem_map.1 hx
              exact own_len (HROW5.out.own y hy)) v3 cv3 w6 (HROW5.out.is.below HB6.out) (told_is hg3 hown3)
            rw [decide_eq_true hEq] at hSM
            have HSM := Lib.hid hSM
            have HN := Lib.hid hN
            clear hSM hg3 hEq hcs hst he hgo3 hgr3 hown3 hN
            go_wp2_with fail
            refine HSM.out.mono ?_
            rintro e w7 ⟨rfl, hb7⟩
            obtain ⟨q5, d5, hpv, -⟩ := own_rest HRD5.out.rest
            have hbx := HRD5.out.box
            rw [hpv] at hbx
            have hWT := waiting_any R 0 q5 s'.l.length d5 s'.c wv' s'.tk (by omega) (by omega) w7 ((hbx.below HB6.out).below hb7)
            rw [← HN.out] at hWT
            have HWT := Lib.hid hWT
            have HB7 := Lib.hid (bT HB6.out hb7)
            clear hWT hbx hpv hb7
            go_wp2_with fail
            refine HWT.out.mono ?_
            rintro e w8 ⟨rfl, hb8⟩
            have HNX := Lib.hid (show FeI l w R E s' pv' wv' (xs ++ xs2) v3 w8 from ⟨hEl, by rw [List.map_append]; exact HGO.out, HRD5.out.on (bT HB7.out hb8), HROW5.out.on (bT HB7.out hb8), HAP.out⟩)
            clear hb8
            go_wp2_with fail
            go_roundw
            case rel => exact ⟨i + 1, E, s', pv', wv', _, by omega, by go_num, rfl, HNX⟩
            case measure => simp [intOf]; omega
          · have HGO := Lib.hid (HI.out.goes hqE (HSUB.out ▸ hgo))
            have hx0 := go_code hgo x rfl
            have hfew2 := go_few hgo
            have hl2 : (s.l ++ sub).length = s.l.length + (E - q) := by rw [List.length_append, HSL.out]
            rw [List.length_map] at hfew2
            have hfew3 : 2 * xs2.length ≤ (s.l ++ sub).length := hfew2
            have HBOX := Lib.hid hbox
            have HX0 := Lib.hid hx0
            have hxb : (x != 0) = true := by rw [bne_iff_ne]; exact hx0
            clear hgo hbox hcown hcown2 hchg hcnew hrow4 hfew2 hx0
            go_wp2_with (at_builtin; refine append_cmds rfl (.tmp 68) (.tmp 69) rfl (R + 1) _ xs.length (hCells xs) rfl HROW4.out.row (R + 1) cv xs2 rfl HCO.out (by omega) hs4 ?_)
            intro v3 w5 hown5 hgr5
            have hrow5 := HROW4.out.push hwR HCO2.out hown5 hgr5
            have HROW5 := Lib.hid hrow5
            have hbox5 : Box w5 R x (.slice none 0 0) 0 (.slice none 0 0) 0 := (Chg.grown hgr5).box HBOX.out (fun e => own_ne HROW4.out.row HBOX.out (by decide) e.symm)
            have HBOX5 := Lib.hid hbox5
            have HTD := Lib.hid (told_any (l.take E) (by omega) _ c w5 (tail_take (HH.out.below hrow5.below) E))
            rw [hEE] at HTD
            clear hown5 hgr5 hrow5 hbox5
            go_wp2_with fail
            refine HTD.out.mono ?_
            rintro e w6 ⟨ys, cv3, st, he, hgo3, hgr3, hown3⟩
            obtain ⟨hcs, hst⟩ := hgo3.det HGO.out
            obtain rfl : e = .returned (.tuple #[cv3, .int .i64 0, .int .i64 x]) := by rw [he, hst]; rfl
            have hEq : (xs ++ xs2).map Hc.ws = ys.map Hc.ws := by rw [List.map_append, hcs]
            have HB6 := Lib.hid hgr3.below
            have hg3 := hgr3.own
            rw [hCells_len] at hg3
            have hSM := same_any ((xs ++ xs2).map Hc.ws) (ys.map Hc.ws) (by rw [List.length_map, List.length_append]; omega) (fun x hx => by
              obtain ⟨y, hy, rfl⟩ := List.mem_map.1 hx
              exact own_len (HROW5.out.own y hy)) v3 cv3 w6 (HROW5.out.is.below HB6.out) (told_is hg3 hown3)
            rw [decide_eq_true hEq] at hSM
            have HSM := Lib.hid hSM
            clear hSM hg3 hEq hcs hst he hgo3 hgr3 hown3
            go_wp2_with fail
            refine HSM.out.mono ?_
            rintro e w7 ⟨rfl, hb7⟩
            have hb67 := bT HB6.out hb7
            have HWT := Lib.hid (waiting_any R x none 0 0 0 (.slice none 0 0) 0 (by decide) (by decide) w7 (HBOX5.out.below hb67))
            have HB7 := Lib.hid hb67
            clear hb7 hb67
            go_wp2_with fail
            refine HWT.out.mono ?_
            rintro e w8 ⟨rfl, hb8⟩
            have HB8 := Lib.hid (bT HB7.out hb8)
            clear hb8
            go_wp2_with fail
            have hb9 := bA (bA (Below.refl w8.heap.size w8) (.cells #[.int .u8 80, .int .u8 73, .int .u8 78, .int .u8 71, .int .u8 13, .int .u8 10] 5 (6, 7))) (.cells #[.slice (some ⟨w8.heap.size, 0, none⟩) 6 6] 22)
            have HB9 := Lib.hid (bT HB8.out hb9)
            clear hb9
            generalize (w8.alloc (.cells #[.int .u8 80, .int .u8 73, .int .u8 78, .int .u8 71, .int .u8 13, .int .u8 10] 5 (6, 7))).alloc (.cells #[.slice (some ⟨w8.heap.size, 0, none⟩) 6 6] 22) = w9 at *
            refine (feed_failed R x HX0.out _ _ _ _ _ w9 (HBOX5.out.below HB9.out)).mono ?_
            rintro e w10 ⟨rfl, hb10⟩
            have HB10 := Lib.hid (bT HB9.out hb10)
            clear hb10
            have HWT2 := Lib.hid (waiting_any R x none 0 0 0 (.slice none 0 0) 0 (by decide) (by decide) w10 (HBOX5.out.below HB10.out))
            go_wp2_with fail
            refine HWT2.out.mono ?_
            rintro e w11 ⟨rfl, hb11⟩
            have HFIN := Lib.hid (bT HROW5.out.below (bT HB10.out hb11))
            clear hb11
            go_wp2
            go_ret
            exact ⟨rfl, HFIN.out⟩
      · have hdl2 : decide ((i : Int) < (m : Int)) = false := decide_eq_false (by omega)
        have hqE : q ≤ l.length := hq
        have hEl : l.length ≤ l.length := Nat.le_refl _
        obtain ⟨q0, hq0, hck⟩ : ∃ q0, q0 = (if c = q then some (⟨b, o, none⟩ : Addr) else some ⟨b, o + q, none⟩) ∧ ((c = q) = True ∧ q0 = some ⟨b, o, none⟩ ∨ (c = q) = False ∧ q0 = some ⟨b, o + q, none⟩) := by
          refine ⟨_, rfl, ?_⟩
          by_cases hc : c = q
          · exact .inl ⟨eq_true hc, by rw [if_pos hc]⟩
          · exact .inr ⟨eq_false hc, by rw [if_neg hc]⟩
        have HMID := Lib.hid (fun W (hW : Below wr.heap.size wr W) => tail_take (.inl (sub_from (b := b) (o := o) (c := c) (l := l) q hq q0 hq0 W (H3.out W (bT HI.out.row.below hW)))) (l.length - q))
        clear hq0
        rcases hck with ⟨hck, rfl⟩ | ⟨hck, rfl⟩
        · have hlt0 : R < wr.heap.size := HI.out.rdr.box.lt
          have HOW := Lib.hid (World.ownsRow_made (base := wr.heap.size) (e := 5) (size := 1) wr #[] 0 (Nat.le_refl _) (by unfold maxLen; omega) rfl)
          have hb0 := bA (Below.refl wr.heap.size wr) (.cells #[] 5)
          obtain ⟨sub, hsub⟩ : ∃ sub, sub = (l.drop q).take (l.length - q) := ⟨_, rfl⟩
          have hsl : sub.length = l.length - q := by rw [hsub, List.length_take, List.length_drop]; omega
          have HT := Lib.hid (show Tail (wr.alloc (.cells #[] 5)) (some ⟨b, o, none⟩) (c - q) sub by rw [hsub]; exact (HMID.out _ hb0))
          have hfew := HI.out.few
          have HSUB := Lib.hid hsub
          have HSL := Lib.hid hsl
          clear hsub hsl
          go_wp2_with (at_builtin; refine append_rest rfl (.tmp 57) (.tmp 61) rfl wr.heap.size _ 0 [] rfl HOW.out (some ⟨b, o, none⟩) (l.length - q) (c - q) sub rfl HSL.out HT.out (by omega) (by simp) ?_)
          intro v2 w2 hown hgrow hnil
          have hown2 : w2.ownsRow wr.heap.size 5 1 v2 sub.length (sCells sub) := by rw [HSL.out]; simpa using hown
          have hB2 : Below wr.heap.size wr w2 := hb0.grown hgrow (by simp) (fun k hk => (HOW.out.lt k hk).1)
          obtain ⟨q2, d2, rfl, hq2⟩ := own_rest hown2
          rw [HSL.out] at hown2 ⊢
          have hb3 := bT hB2 (bA (Below.refl w2.heap.size w2) (.cells #[.slice q2 (l.length - q) d2] 22))
          have HB3 := Lib.hid hb3
          have hR3 := HI.out.rdr.on hb3
          have HR3 := Lib.hid hR3
          have hs2 := hB2.size
          have HFD := Lib.hid (feed_one w HE.out R s pv wv q2 d2 sub w2.heap.size 1 (w2.alloc (.cells #[.slice q2 (l.length - q) d2] 22)) hR3 (bT HI.out.row.below hb3) hwR
            (by rw [HSL.out, Lib.cell_of_heap (heap_alloc_new w2 _)]; rfl) (hq2.below (bA (Below.refl _ _) _))
            (fun b' o' hb => by
              subst hb
              have h1 := (hown2.lt b' rfl).1
              exact ⟨by omega, fun e => by have := (HI.out.rdr.rest.lt b' e).2; omega⟩) (by omega) (fun e => by have := (HI.out.rdr.rest.lt _ e).2; omega) (by have := HSL.out; omega) (by omega))
          clear hown hgrow hnil hown2 hB2 hq2 hb3 hR3 hb0
          go_wp2_with fail
          refine HFD.out.mono ?_
          rintro e w4 ⟨xs2, cv, hcown, hcown2, hchg, hcnew, hst⟩
          have hrow4 := (HI.out.row.on HB3.out).feed HR3.out hwR HI.out.apart hchg
          have HROW4 := Lib.hid hrow4
          have HCO := Lib.hid hcown
          have HCO2 := Lib.hid hcown2
          have hs4 : R + 1 ≤ w4.heap.size := by
            have h1 := HB3.out.size
            have h2 := hchg.size
            omega
          have hEE : (l.take l.length).length = l.length := by rw [List.length_take]; omega
          rcases hst with ⟨s', pv', wv', rfl, hgo, hrdr, hapx, hwn, hpn⟩ | ⟨x, rfl, hgo, hbox⟩
          · have HGO := Lib.hid (HI.out.goes hqE (HSUB.out ▸ hgo))
            have hfew2 := go_few hgo
            have hkeep := go_keep hgo s' rfl
            have hl2 : (s.l ++ sub).length = s.l.length + (l.length - q) := by rw [List.length_append, HSL.out]
            rw [List.length_map] at hfew2
            have hfew3 : 2 * xs2.length ≤ (s.l ++ sub).length := hfew2
            have hkeep2 : s'.tk + s'.l.length ≤ s.tk + (s.l ++ sub).length := hkeep
            have HAP := Lib.hid (show ∀ x ∈ xs ++ xs2, wv'.ownBlock ≠ some x.g from fun x hx e => by
              rcases List.mem_append.1 hx with h | h
              · rcases hwn _ e with h2 | h2
                · exact HI.out.apart x h h2
                · have h3 := ((HI.out.row.own x h).lt x.g rfl).2
                  have h4 := HB3.out.size
                  omega
              · exact hapx x h e)
            have HRD := Lib.hid hrdr
            clear hgo hrdr hapx hwn hpn hcown hcown2 hchg hcnew hrow4 hfew2 hkeep
            go_wp2_with (at_builtin; refine append_cmds rfl (.tmp 68) (.tmp 69) rfl (R + 1) _ xs.length (hCells xs) rfl HROW4.out.row (R + 1) cv xs2 rfl HCO.out (by omega) hs4 ?_)
            intro v3 w5 hown5 hgr5
            have hrow5 := HROW4.out.push hwR HCO2.out hown5 hgr5
            have HROW5 := Lib.hid hrow5
            have HRD5 := Lib.hid (HRD.out.chg (Chg.grown hgr5) (fun e => own_ne HROW4.out.row HRD.out.box (by decide) e.symm) (fun k hk e => own_apart HROW4.out.row HRD.out.rest (by decide) k e.symm hk) (fun k hk e => own_apart HROW4.out.row HRD.out.words (by decide) k e.symm hk))
            have HTD := Lib.hid (told_any (l.take l.length) (by omega) _ c w5 (tail_take (HH.out.below hrow5.below) l.length))
            rw [hEE] at HTD
            clear hown5 hgr5 hrow5
            go_wp2_with fail
            refine HTD.out.mono ?_
            rintro e w6 ⟨ys, cv3, st, he, hgo3, hgr3, hown3⟩
            obtain ⟨hcs, hst⟩ := hgo3.det HGO.out
            obtain ⟨N, hN⟩ : ∃ N, N = s'.tk + s'.l.length := ⟨_, rfl⟩
            obtain rfl : e = .returned (.tuple #[cv3, .int .i64 (N : Int), .int .i64 0]) := by rw [he, hst, hN]; rfl
            have hEq : (xs ++ xs2).map Hc.ws = ys.map Hc.ws := by rw [List.map_append, hcs]
            have HB6 := Lib.hid hgr3.below
            have hg3 := hgr3.own
            rw [hCells_len] at hg3
            have hSM := same_any ((xs ++ xs2).map Hc.ws) (ys.map Hc.ws) (by rw [List.length_map, List.length_append]; omega) (fun x hx => by
              obtain ⟨y, hy, rfl⟩ := List.mem_map.1 hx
              exact own_len (HROW5.out.own y hy)) v3 cv3 w6 (HROW5.out.is.below HB6.out) (told_is hg3 hown3)
            rw [decide_eq_true hEq] at hSM
            have HSM := Lib.hid hSM
            have HN := Lib.hid hN
            clear hSM hg3 hEq hcs hst he hgo3 hgr3 hown3 hN
            go_wp2_with fail
            refine HSM.out.mono ?_
            rintro e w7 ⟨rfl, hb7⟩
            obtain ⟨q5, d5, hpv, -⟩ := own_rest HRD5.out.rest
            have hbx := HRD5.out.box
            rw [hpv] at hbx
            have hWT := waiting_any R 0 q5 s'.l.length d5 s'.c wv' s'.tk (by omega) (by omega) w7 ((hbx.below HB6.out).below hb7)
            rw [← HN.out] at hWT
            have HWT := Lib.hid hWT
            have HB7 := Lib.hid (bT HB6.out hb7)
            clear hWT hbx hpv hb7
            go_wp2_with fail
            refine HWT.out.mono ?_
            rintro e w8 ⟨rfl, hb8⟩
            have HNX := Lib.hid (show FeI l w R l.length s' pv' wv' (xs ++ xs2) v3 w8 from ⟨hEl, by rw [List.map_append]; exact HGO.out, HRD5.out.on (bT HB7.out hb8), HROW5.out.on (bT HB7.out hb8), HAP.out⟩)
            clear hb8
            go_wp2_with fail
            go_roundw
            case rel => exact ⟨i + 1, l.length, s', pv', wv', _, by omega, by go_num, rfl, HNX⟩
            case measure => simp [intOf]; omega
          · have HGO := Lib.hid (HI.out.goes hqE (HSUB.out ▸ hgo))
            have hx0 := go_code hgo x rfl
            have hfew2 := go_few hgo
            have hl2 : (s.l ++ sub).length = s.l.length + (l.length - q) := by rw [List.length_append, HSL.out]
            rw [List.length_map] at hfew2
            have hfew3 : 2 * xs2.length ≤ (s.l ++ sub).length := hfew2
            have HBOX := Lib.hid hbox
            have HX0 := Lib.hid hx0
            have hxb : (x != 0) = true := by rw [bne_iff_ne]; exact hx0
            clear hgo hbox hcown hcown2 hchg hcnew hrow4 hfew2 hx0
            go_wp2_with (at_builtin; refine append_cmds rfl (.tmp 68) (.tmp 69) rfl (R + 1) _ xs.length (hCells xs) rfl HROW4.out.row (R + 1) cv xs2 rfl HCO.out (by omega) hs4 ?_)
            intro v3 w5 hown5 hgr5
            have hrow5 := HROW4.out.push hwR HCO2.out hown5 hgr5
            have HROW5 := Lib.hid hrow5
            have hbox5 : Box w5 R x (.slice none 0 0) 0 (.slice none 0 0) 0 := (Chg.grown hgr5).box HBOX.out (fun e => own_ne HROW4.out.row HBOX.out (by decide) e.symm)
            have HBOX5 := Lib.hid hbox5
            have HTD := Lib.hid (told_any (l.take l.length) (by omega) _ c w5 (tail_take (HH.out.below hrow5.below) l.length))
            rw [hEE] at HTD
            clear hown5 hgr5 hrow5 hbox5
            go_wp2_with fail
            refine HTD.out.mono ?_
            rintro e w6 ⟨ys, cv3, st, he, hgo3, hgr3, hown3⟩
            obtain ⟨hcs, hst⟩ := hgo3.det HGO.out
            obtain rfl : e = .returned (.tuple #[cv3, .int .i64 0, .int .i64 x]) := by rw [he, hst]; rfl
            have hEq : (xs ++ xs2).map Hc.ws = ys.map Hc.ws := by rw [List.map_append, hcs]
            have HB6 := Lib.hid hgr3.below
            have hg3 := hgr3.own
            rw [hCells_len] at hg3
            have hSM := same_any ((xs ++ xs2).map Hc.ws) (ys.map Hc.ws) (by rw [List.length_map, List.length_append]; omega) (fun x hx => by
              obtain ⟨y, hy, rfl⟩ := List.mem_map.1 hx
              exact own_len (HROW5.out.own y hy)) v3 cv3 w6 (HROW5.out.is.below HB6.out) (told_is hg3 hown3)
            rw [decide_eq_true hEq] at hSM
            have HSM := Lib.hid hSM
            clear hSM hg3 hEq hcs hst he hgo3 hgr3 hown3
            go_wp2_with fail
            refine HSM.out.mono ?_
            rintro e w7 ⟨rfl, hb7⟩
            have hb67 := bT HB6.out hb7
            have HWT := Lib.hid (waiting_any R x none 0 0 0 (.slice none 0 0) 0 (by decide) (by decide) w7 (HBOX5.out.below hb67))
            have HB7 := Lib.hid hb67
            clear hb7 hb67
            go_wp2_with fail
            refine HWT.out.mono ?_
            rintro e w8 ⟨rfl, hb8⟩
            have HB8 := Lib.hid (bT HB7.out hb8)
            clear hb8
            go_wp2_with fail
            have hb9 := bA (bA (Below.refl w8.heap.size w8) (.cells #[.int .u8 80, .int .u8 73, .int .u8 78, .int .u8 71, .int .u8 13, .int .u8 10] 5 (6, 7))) (.cells #[.slice (some ⟨w8.heap.size, 0, none⟩) 6 6] 22)
            have HB9 := Lib.hid (bT HB8.out hb9)
            clear hb9
            generalize (w8.alloc (.cells #[.int .u8 80, .int .u8 73, .int .u8 78, .int .u8 71, .int .u8 13, .int .u8 10] 5 (6, 7))).alloc (.cells #[.slice (some ⟨w8.heap.size, 0, none⟩) 6 6] 22) = w9 at *
            refine (feed_failed R x HX0.out _ _ _ _ _ w9 (HBOX5.out.below HB9.out)).mono ?_
            rintro e w10 ⟨rfl, hb10⟩
            have HB10 := Lib.hid (bT HB9.out hb10)
            clear hb10
            have HWT2 := Lib.hid (waiting_any R x none 0 0 0 (.slice none 0 0) 0 (by decide) (by decide) w10 (HBOX5.out.below HB10.out))
            go_wp2_with fail
            refine HWT2.out.mono ?_
            rintro e w11 ⟨rfl, hb11⟩
            have HFIN := Lib.hid (bT HROW5.out.below (bT HB10.out hb11))
            clear hb11
            go_wp2
            go_ret
            exact ⟨rfl, HFIN.out⟩
        · have hlt0 : R < wr.heap.size := HI.out.rdr.box.lt
          have HOW := Lib.hid (World.ownsRow_made (base := wr.heap.size) (e := 5) (size := 1) wr #[] 0 (Nat.le_refl _) (by unfold maxLen; omega) rfl)
          have hb0 := bA (Below.refl wr.heap.size wr) (.cells #[] 5)
          obtain ⟨sub, hsub⟩ : ∃ sub, sub = (l.drop q).take (l.length - q) := ⟨_, rfl⟩
          have hsl : sub.length = l.length - q := by rw [hsub, List.length_take, List.length_drop]; omega
          have HT := Lib.hid (show Tail (wr.alloc (.cells #[] 5)) (some ⟨b, o + q, none⟩) (c - q) sub by rw [hsub]; exact (HMID.out _ hb0))
          have hfew := HI.out.few
          have HSUB := Lib.hid hsub
          have HSL := Lib.hid hsl
          clear hsub hsl
          go_wp2_with (at_builtin; refine append_rest rfl (.tmp 57) (.tmp 61) rfl wr.heap.size _ 0 [] rfl HOW.out (some ⟨b, o + q, none⟩) (l.length - q) (c - q) sub rfl HSL.out HT.out (by omega) (by simp) ?_)
          intro v2 w2 hown hgrow hnil
          have hown2 : w2.ownsRow wr.heap.size 5 1 v2 sub.length (sCells sub) := by rw [HSL.out]; simpa using hown
          have hB2 : Below wr.heap.size wr w2 := hb0.grown hgrow (by simp) (fun k hk => (HOW.out.lt k hk).1)
          obtain ⟨q2, d2, rfl, hq2⟩ := own_rest hown2
          rw [HSL.out] at hown2 ⊢
          have hb3 := bT hB2 (bA (Below.refl w2.heap.size w2) (.cells #[.slice q2 (l.length - q) d2] 22))
          have HB3 := Lib.hid hb3
          have hR3 := HI.out.rdr.on hb3
          have HR3 := Lib.hid hR3
          have hs2 := hB2.size
          have HFD := Lib.hid (feed_one w HE.out R s pv wv q2 d2 sub w2.heap.size 1 (w2.alloc (.cells #[.slice q2 (l.length - q) d2] 22)) hR3 (bT HI.out.row.below hb3) hwR
            (by rw [HSL.out, Lib.cell_of_heap (heap_alloc_new w2 _)]; rfl) (hq2.below (bA (Below.refl _ _) _))
            (fun b' o' hb => by
              subst hb
              have h1 := (hown2.lt b' rfl).1
              exact ⟨by omega, fun e => by have := (HI.out.rdr.rest.lt b' e).2; omega⟩) (by omega) (fun e => by have := (HI.out.rdr.rest.lt _ e).2; omega) (by have := HSL.out; omega) (by omega))
          clear hown hgrow hnil hown2 hB2 hq2 hb3 hR3 hb0
          go_wp2_with fail
          refine HFD.out.mono ?_
          rintro e w4 ⟨xs2, cv, hcown, hcown2, hchg, hcnew, hst⟩
          have hrow4 := (HI.out.row.on HB3.out).feed HR3.out hwR HI.out.apart hchg
          have HROW4 := Lib.hid hrow4
          have HCO := Lib.hid hcown
          have HCO2 := Lib.hid hcown2
          have hs4 : R + 1 ≤ w4.heap.size := by
            have h1 := HB3.out.size
            have h2 := hchg.size
            omega
          have hEE : (l.take l.length).length = l.length := by rw [List.length_take]; omega
          rcases hst with ⟨s', pv', wv', rfl, hgo, hrdr, hapx, hwn, hpn⟩ | ⟨x, rfl, hgo, hbox⟩
          · have HGO := Lib.hid (HI.out.goes hqE (HSUB.out ▸ hgo))
            have hfew2 := go_few hgo
            have hkeep := go_keep hgo s' rfl
            have hl2 : (s.l ++ sub).length = s.l.length + (l.length - q) := by rw [List.length_append, HSL.out]
            rw [List.length_map] at hfew2
            have hfew3 : 2 * xs2.length ≤ (s.l ++ sub).length := hfew2
            have hkeep2 : s'.tk + s'.l.length ≤ s.tk + (s.l ++ sub).length := hkeep
            have HAP := Lib.hid (show ∀ x ∈ xs ++ xs2, wv'.ownBlock ≠ some x.g from fun x hx e => by
              rcases List.mem_append.1 hx with h | h
              · rcases hwn _ e with h2 | h2
                · exact HI.out.apart x h h2
                · have h3 := ((HI.out.row.own x h).lt x.g rfl).2
                  have h4 := HB3.out.size
                  omega
              · exact hapx x h e)
            have HRD := Lib.hid hrdr
            clear hgo hrdr hapx hwn hpn hcown hcown2 hchg hcnew hrow4 hfew2 hkeep
            go_wp2_with (at_builtin; refine append_cmds rfl (.tmp 68) (.tmp 69) rfl (R + 1) _ xs.length (hCells xs) rfl HROW4.out.row (R + 1) cv xs2 rfl HCO.out (by omega) hs4 ?_)
            intro v3 w5 hown5 hgr5
            have hrow5 := HROW4.out.push hwR HCO2.out hown5 hgr5
            have HROW5 := Lib.hid hrow5
            have HRD5 := Lib.hid (HRD.out.chg (Chg.grown hgr5) (fun e => own_ne HROW4.out.row HRD.out.box (by decide) e.symm) (fun k hk e => own_apart HROW4.out.row HRD.out.rest (by decide) k e.symm hk) (fun k hk e => own_apart HROW4.out.row HRD.out.words (by decide) k e.symm hk))
            have HTD := Lib.hid (told_any (l.take l.length) (by omega) _ c w5 (tail_take (HH.out.below hrow5.below) l.length))
            rw [hEE] at HTD
            clear hown5 hgr5 hrow5
            go_wp2_with fail
            refine HTD.out.mono ?_
            rintro e w6 ⟨ys, cv3, st, he, hgo3, hgr3, hown3⟩
            obtain ⟨hcs, hst⟩ := hgo3.det HGO.out
            obtain ⟨N, hN⟩ : ∃ N, N = s'.tk + s'.l.length := ⟨_, rfl⟩
            obtain rfl : e = .returned (.tuple #[cv3, .int .i64 (N : Int), .int .i64 0]) := by rw [he, hst, hN]; rfl
            have hEq : (xs ++ xs2).map Hc.ws = ys.map Hc.ws := by rw [List.map_append, hcs]
            have HB6 := Lib.hid hgr3.below
            have hg3 := hgr3.own
            rw [hCells_len] at hg3
            have hSM := same_any ((xs ++ xs2).map Hc.ws) (ys.map Hc.ws) (by rw [List.length_map, List.length_append]; omega) (fun x hx => by
              obtain ⟨y, hy, rfl⟩ := List.mem_map.1 hx
              exact own_len (HROW5.out.own y hy)) v3 cv3 w6 (HROW5.out.is.below HB6.out) (told_is hg3 hown3)
            rw [decide_eq_true hEq] at hSM
            have HSM := Lib.hid hSM
            have HN := Lib.hid hN
            clear hSM hg3 hEq hcs hst he hgo3 hgr3 hown3 hN
            go_wp2_with fail
            refine HSM.out.mono ?_
            rintro e w7 ⟨rfl, hb7⟩
            obtain ⟨q5, d5, hpv, -⟩ := own_rest HRD5.out.rest
            have hbx := HRD5.out.box
            rw [hpv] at hbx
            have hWT := waiting_any R 0 q5 s'.l.length d5 s'.c wv' s'.tk (by omega) (by omega) w7 ((hbx.below HB6.out).below hb7)
            rw [← HN.out] at hWT
            have HWT := Lib.hid hWT
            have HB7 := Lib.hid (bT HB6.out hb7)
            clear hWT hbx hpv hb7
            go_wp2_with fail
            refine HWT.out.mono ?_
            rintro e w8 ⟨rfl, hb8⟩
            have HNX := Lib.hid (show FeI l w R l.length s' pv' wv' (xs ++ xs2) v3 w8 from ⟨hEl, by rw [List.map_append]; exact HGO.out, HRD5.out.on (bT HB7.out hb8), HROW5.out.on (bT HB7.out hb8), HAP.out⟩)
            clear hb8
            go_wp2_with fail
            go_roundw
            case rel => exact ⟨i + 1, l.length, s', pv', wv', _, by omega, by go_num, rfl, HNX⟩
            case measure => simp [intOf]; omega
          · have HGO := Lib.hid (HI.out.goes hqE (HSUB.out ▸ hgo))
            have hx0 := go_code hgo x rfl
            have hfew2 := go_few hgo
            have hl2 : (s.l ++ sub).length = s.l.length + (l.length - q) := by rw [List.length_append, HSL.out]
            rw [List.length_map] at hfew2
            have hfew3 : 2 * xs2.length ≤ (s.l ++ sub).length := hfew2
            have HBOX := Lib.hid hbox
            have HX0 := Lib.hid hx0
            have hxb : (x != 0) = true := by rw [bne_iff_ne]; exact hx0
            clear hgo hbox hcown hcown2 hchg hcnew hrow4 hfew2 hx0
            go_wp2_with (at_builtin; refine append_cmds rfl (.tmp 68) (.tmp 69) rfl (R + 1) _ xs.length (hCells xs) rfl HROW4.out.row (R + 1) cv xs2 rfl HCO.out (by omega) hs4 ?_)
            intro v3 w5 hown5 hgr5
            have hrow5 := HROW4.out.push hwR HCO2.out hown5 hgr5
            have HROW5 := Lib.hid hrow5
            have hbox5 : Box w5 R x (.slice none 0 0) 0 (.slice none 0 0) 0 := (Chg.grown hgr5).box HBOX.out (fun e => own_ne HROW4.out.row HBOX.out (by decide) e.symm)
            have HBOX5 := Lib.hid hbox5
            have HTD := Lib.hid (told_any (l.take l.length) (by omega) _ c w5 (tail_take (HH.out.below hrow5.below) l.length))
            rw [hEE] at HTD
            clear hown5 hgr5 hrow5 hbox5
            go_wp2_with fail
            refine HTD.out.mono ?_
            rintro e w6 ⟨ys, cv3, st, he, hgo3, hgr3, hown3⟩
            obtain ⟨hcs, hst⟩ := hgo3.det HGO.out
            obtain rfl : e = .returned (.tuple #[cv3, .int .i64 0, .int .i64 x]) := by rw [he, hst]; rfl
            have hEq : (xs ++ xs2).map Hc.ws = ys.map Hc.ws := by rw [List.map_append, hcs]
            have HB6 := Lib.hid hgr3.below
            have hg3 := hgr3.own
            rw [hCells_len] at hg3
            have hSM := same_any ((xs ++ xs2).map Hc.ws) (ys.map Hc.ws) (by rw [List.length_map, List.length_append]; omega) (fun x hx => by
              obtain ⟨y, hy, rfl⟩ := List.mem_map.1 hx
              exact own_len (HROW5.out.own y hy)) v3 cv3 w6 (HROW5.out.is.below HB6.out) (told_is hg3 hown3)
            rw [decide_eq_true hEq] at hSM
            have HSM := Lib.hid hSM
            clear hSM hg3 hEq hcs hst he hgo3 hgr3 hown3
            go_wp2_with fail
            refine HSM.out.mono ?_
            rintro e w7 ⟨rfl, hb7⟩
            have hb67 := bT HB6.out hb7
            have HWT := Lib.hid (waiting_any R x none 0 0 0 (.slice none 0 0) 0 (by decide) (by decide) w7 (HBOX5.out.below hb67))
            have HB7 := Lib.hid hb67
            clear hb7 hb67
            go_wp2_with fail
            refine HWT.out.mono ?_
            rintro e w8 ⟨rfl, hb8⟩
            have HB8 := Lib.hid (bT HB7.out hb8)
            clear hb8
            go_wp2_with fail
            have hb9 := bA (bA (Below.refl w8.heap.size w8) (.cells #[.int .u8 80, .int .u8 73, .int .u8 78, .int .u8 71, .int .u8 13, .int .u8 10] 5 (6, 7))) (.cells #[.slice (some ⟨w8.heap.size, 0, none⟩) 6 6] 22)
            have HB9 := Lib.hid (bT HB8.out hb9)
            clear hb9
            generalize (w8.alloc (.cells #[.int .u8 80, .int .u8 73, .int .u8 78, .int .u8 71, .int .u8 13, .int .u8 10] 5 (6, 7))).alloc (.cells #[.slice (some ⟨w8.heap.size, 0, none⟩) 6 6] 22) = w9 at *
            refine (feed_failed R x HX0.out _ _ _ _ _ w9 (HBOX5.out.below HB9.out)).mono ?_
            rintro e w10 ⟨rfl, hb10⟩
            have HB10 := Lib.hid (bT HB9.out hb10)
            clear hb10
            have HWT2 := Lib.hid (waiting_any R x none 0 0 0 (.slice none 0 0) 0 (by decide) (by decide) w10 (HBOX5.out.below HB10.out))
            go_wp2_with fail
            refine HWT2.out.mono ?_
            rintro e w11 ⟨rfl, hb11⟩
            have HFIN := Lib.hid (bT HROW5.out.below (bT HB10.out hb11))
            clear hb11
            go_wp2
            go_ret
            exact ⟨rfl, HFIN.out⟩
    · have hdl : decide ((i : Int) ≤ (m : Int)) = false := decide_eq_false (by omega)
      have HB := Lib.hid HI.out.row.below
      go_wp2
      go_ret
      exact ⟨rfl, HB.out⟩
end Go.Proofs.YtdeacankicciaaaDoor
